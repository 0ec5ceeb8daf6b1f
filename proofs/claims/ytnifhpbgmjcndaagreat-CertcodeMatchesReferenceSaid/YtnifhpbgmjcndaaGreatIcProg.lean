/- The program of layer 17: PutInstr, PutMach, PutTerm (made by wip/lab/genicprog.py). -/
import Derived.Test.YtnifhpbgmjcndaaGreatPk6
set_option linter.unusedVariables false
set_option linter.unusedSimpArgs false
set_option linter.unusedSectionVars false
set_option maxRecDepth 100000
set_option maxHeartbeats 4000000
namespace Go.Proofs.YtnifhpbgmjcndaaGreat
open Go.RowKit
structure GPS(w:World)(q:Nat)(l:List Nat)(W:World):Prop where
 md:Mods (Zt q) w W
 wr:∃v,Wri W q W.heap.size v l
 kp:Keep q w W
section
variable {w W W' : World} {q : Nat} {l l' : List Nat}
theorem GPS.next(h:GPS w q l W)(hw:∃v,Wri W' q W'.heap.size v l')(hm:Mods (Zt q) W W')(hk:Keep q W W'):GPS w q l' W':=⟨h.md.trans hm,hw,h.kp.trans hk⟩
theorem GPS.below(h:GPS w q l W)(hb:Below W.heap.size W W'):GPS w q l W':=by
 obtain ⟨v,hv⟩:=h.wr
 exact ⟨h.md.trans (Mods.of_below hb),⟨v,(hv.mods (S:=No) (Mods.of_below hb) fun _ hk=>hk.elim).more hb.size⟩,h.kp.trans (Keep.below hb)⟩
theorem GPS.new{hi:Nat}{v:Value}(h:Wri w q hi v l)(hhi:hi≤w.heap.size):GPS w q l w:=⟨Mods.refl _ _,⟨v,h.more hhi⟩,Keep.refl _⟩
theorem GPS.done(h:GPS w q l W)(e:l=l'):WroteK w q l' (.returned (.tuple #[])) W:=by
 subst e
 exact ⟨⟨rfl,h.wr,h.md⟩,h.kp⟩
end
theorem yb(b:Bool)(v:Int):(zk b v).length≤10:=by
 unfold zk
 split
 ·have:=zC v.toNat
  unfold yc at this
  exact this
 ·exact lF _
theorem Zr{x:Int}(h:0≤x∧x≤9223372036854775807):IntKind.u64.wrap x=x:=by
 rw [IntKind.wrap_u64]
 omega
theorem zgU{w:World}{q hi:Nat}{v:Value}{l:List Nat}(h:Wri w q hi v l)(hm:l.length+100≤70368744177664)(hhi:hi≤w.heap.size){op d a b imm:Int}(ho:1≤op∧op≤18)(hi:InI imm)(hd:uD op=true→0≤d∧d≤9223372036854775807)(ha:uA op=true→0≤a∧a≤9223372036854775807)(hb:uB op=true→0≤b∧b≤9223372036854775807):
  Calls Tryz.prog 95 #[.pointer (some ⟨q,0,none⟩),.agg #[.int .i64 op,.int .i64 d,.int .i64 a,.int .i64 b,.int .i64 imm]] w (WroteK w q (l++(op.toNat::(zk (uD op) d++(zk (uA op) a++(zk (uB op) b++zk (uI op) (zz imm))))))):=by
 have hmf:∀(fn:Fn) (first cap:Array Value) (w:World),(Instr.makeFunc fn first cap).run Tryz.prog w= .ok (.func fn first cap) w:=fun _ _ _ _=>rfl
 obtain ⟨o,rfl⟩:∃o:Nat,op=(o:Int):=⟨op.toNat,by omega⟩
 have C1:=qH fun W=>zbL (o:Int) W
 unfold shp at C1
 generalize uD (o:Int)=bD at*
 generalize uA (o:Int)=bA at*
 generalize uB (o:Int)=bB at*
 generalize uI (o:Int)=bI at*
 generalize uO (o:Int)=bO at*
 rw [Int.toNat_natCast]
 have HD:=qH hd
 have HA:=qH ha
 have HBB:=qH hb
 have HI:=qH hi
 have ho1:=ho.1
 have ho2:=ho.2
 have HG:Hid (GPS w q l (w.alloc (.cells #[.int .i64 (o:Int),.int .i64 d,.int .i64 a,.int .i64 b,.int .i64 imm] 125))):=(GPS.new h hhi).below ((ld _ _).alloc (la _) _)
 have HB:=qH (Row.new w 125 #[.int .i64 (o:Int),.int .i64 d,.int .i64 a,.int .i64 b,.int .i64 imm])
 clear h hd ha hb hi ho
 go_enter Tryz.func95,Tryz.ntmps95
 go_upto_region 1 with fail
 generalize (w.alloc (.cells #[.int .i64 (o:Int),.int .i64 d,.int .i64 a,.int .i64 b,.int .i64 imm] 125))=W0 at*
 generalize w.heap.size=bx at*
 have b0:=HB.out.k0;have b1:=HB.out.k1;have b2:=HB.out.k2;have b3:=HB.out.k3;have b4:=HB.out.k4
 go_wp2_with fail
 refine (C1.out _).mono ?_
 rintro e W1 ⟨rfl,hb⟩
 have HG1:=qH (HG.out.below hb)
 have HB1:=qH (HB.out.below hb HB.out.lt)
 clear hb C1 HG HB b0 b1 b2 b3 b4
 go_upto_region 2 with fail
 have HS:=qH (Row.new W1 209 #[.bool bD,.bool bA,.bool bB,.bool bI])
 have HG:=qH (HG1.out.below ((ld W1.heap.size W1).alloc (la _) (.cells #[.bool bD,.bool bA,.bool bB,.bool bI] 209)))
 have HB:=qH (HB1.out.alloc (.cells #[.bool bD,.bool bA,.bool bB,.bool bI] 209))
 clear HG1 HB1
 generalize (W1.alloc (.cells #[.bool bD,.bool bA,.bool bB,.bool bI] 209))=W2 at*
 generalize W1.heap.size=sx at*
 have s0:=HS.out.k0;have s1:=HS.out.k1;have s2:=HS.out.k2;have s3:=HS.out.k3
 have b0:=HB.out.k0;have b1:=HB.out.k1;have b2:=HB.out.k2;have b3:=HB.out.k3;have b4:=HB.out.k4
 obtain ⟨v,hv⟩:=HG.out.wr
 have C2:=qH (zfA hv o (by omega) (by omega))
 clear hv
 go_wp2_with fail
 refine C2.out.mono ?_
 rintro e W3 ⟨⟨rfl,hw,hmm⟩,hk⟩
 have HG2:=qH (HG.out.next hw hmm hk)
 have HB2:=qH (hk.ty _ _ _ HB.out (by decide) (by decide))
 have HS2:=qH (hk.ty _ _ _ HS.out (by decide) (by decide))
 clear hw hmm hk C2 HG HB HS b0 b1 b2 b3 b4 s0 s1 s2 s3
 have HG:=HG2
 have HB:=HB2
 have HS:=HS2
 clear HG2 HB2 HS2
 have s0:=HS.out.k0;have s1:=HS.out.k1;have s2:=HS.out.k2;have s3:=HS.out.k3
 have b0:=HB.out.k0;have b1:=HB.out.k1;have b2:=HB.out.k2;have b3:=HB.out.k3;have b4:=HB.out.k4
 obtain ⟨v,hv⟩:=HG.out.wr
 have C2:=qH (Jq hv (by have:=yb bD d;have:=yb bA a;have:=yb bB b;simp only [lc,lp,lE];omega) (la _) bD d (IntKind.u64.wrap d) fun hh=>⟨Zr (HD.out hh),by have:=HD.out hh;omega,by have:=HD.out hh;omega⟩)
 clear hv
 go_wp2_with fail
 refine C2.out.mono ?_
 rintro e W4 ⟨⟨rfl,hw,hmm⟩,hk⟩
 have HG2:=qH (HG.out.next hw hmm hk)
 have HB2:=qH (hk.ty _ _ _ HB.out (by decide) (by decide))
 have HS2:=qH (hk.ty _ _ _ HS.out (by decide) (by decide))
 clear hw hmm hk C2 HG HB HS b0 b1 b2 b3 b4 s0 s1 s2 s3
 have HG:=HG2
 have HB:=HB2
 have HS:=HS2
 clear HG2 HB2 HS2
 have s0:=HS.out.k0;have s1:=HS.out.k1;have s2:=HS.out.k2;have s3:=HS.out.k3
 have b0:=HB.out.k0;have b1:=HB.out.k1;have b2:=HB.out.k2;have b3:=HB.out.k3;have b4:=HB.out.k4
 obtain ⟨v,hv⟩:=HG.out.wr
 have C2:=qH (Jq hv (by have:=yb bD d;have:=yb bA a;have:=yb bB b;simp only [lc,lp,lE];omega) (la _) bA a (IntKind.u64.wrap a) fun hh=>⟨Zr (HA.out hh),by have:=HA.out hh;omega,by have:=HA.out hh;omega⟩)
 clear hv
 go_wp2_with fail
 refine C2.out.mono ?_
 rintro e W5 ⟨⟨rfl,hw,hmm⟩,hk⟩
 have HG2:=qH (HG.out.next hw hmm hk)
 have HB2:=qH (hk.ty _ _ _ HB.out (by decide) (by decide))
 have HS2:=qH (hk.ty _ _ _ HS.out (by decide) (by decide))
 clear hw hmm hk C2 HG HB HS b0 b1 b2 b3 b4 s0 s1 s2 s3
 have HG:=HG2
 have HB:=HB2
 have HS:=HS2
 clear HG2 HB2 HS2
 have s0:=HS.out.k0;have s1:=HS.out.k1;have s2:=HS.out.k2;have s3:=HS.out.k3
 have b0:=HB.out.k0;have b1:=HB.out.k1;have b2:=HB.out.k2;have b3:=HB.out.k3;have b4:=HB.out.k4
 obtain ⟨v,hv⟩:=HG.out.wr
 have C2:=qH (Jq hv (by have:=yb bD d;have:=yb bA a;have:=yb bB b;simp only [lc,lp,lE];omega) (la _) bB b (IntKind.u64.wrap b) fun hh=>⟨Zr (HBB.out hh),by have:=HBB.out hh;omega,by have:=HBB.out hh;omega⟩)
 clear hv
 go_wp2_with fail
 refine C2.out.mono ?_
 rintro e W6 ⟨⟨rfl,hw,hmm⟩,hk⟩
 have HG2:=qH (HG.out.next hw hmm hk)
 have HB2:=qH (hk.ty _ _ _ HB.out (by decide) (by decide))
 have HS2:=qH (hk.ty _ _ _ HS.out (by decide) (by decide))
 clear hw hmm hk C2 HG HB HS b0 b1 b2 b3 b4 s0 s1 s2 s3
 have HG:=HG2
 have HB:=HB2
 have HS:=HS2
 clear HG2 HB2 HS2
 have s0:=HS.out.k0;have s1:=HS.out.k1;have s2:=HS.out.k2;have s3:=HS.out.k3
 have b0:=HB.out.k0;have b1:=HB.out.k1;have b2:=HB.out.k2;have b3:=HB.out.k3;have b4:=HB.out.k4
 obtain ⟨v,hv⟩:=HG.out.wr
 have C2:=qH (zfB hv (by have:=yb bD d;have:=yb bA a;have:=yb bB b;simp only [lc,lp,lE];omega) (la _) bI imm HI.out)
 clear hv
 go_wp2_with fail
 refine C2.out.mono ?_
 rintro e W7 ⟨⟨rfl,hw,hmm⟩,hk⟩
 have HG2:=qH (HG.out.next hw hmm hk)
 have HB2:=qH (hk.ty _ _ _ HB.out (by decide) (by decide))
 have HS2:=qH (hk.ty _ _ _ HS.out (by decide) (by decide))
 clear hw hmm hk C2 HG HB HS b0 b1 b2 b3 b4 s0 s1 s2 s3
 have HG:=HG2
 have HB:=HB2
 have HS:=HS2
 clear HG2 HB2 HS2
 go_wp2
 go_end0
 exact HG.out.done (by simp only [lg,lD,lz])
theorem zgV(op:Int):uI op=(op==1):=by unfold uI;rw [Bool.eq_iff_iff];simp
theorem zhI{w:World}{q hi:Nat}{v:Value}{l:List Nat}(h:Wri w q hi v l)(hm:l.length+100≤70368744177664)(hhi:hi≤w.heap.size){op d a b imm dst src:Int}(ho:1≤op∧op≤18)(hi:InI imm)(hd:uD op=true→0≤d∧d≤9223372036854775807)(ha:uA op=true→0≤a∧a≤9223372036854775807)(hb:uB op=true→0≤b∧b≤9223372036854775807)
  (hx:(op==18)=true→0≤dst∧dst≤9223372036854775807) (hy:(op==18)=true→0≤src∧src≤9223372036854775807):
  Calls Tryz.prog 97 #[.pointer (some ⟨q,0,none⟩),.agg #[.int .i64 op,.int .i64 d,.int .i64 a,.int .i64 b,.int .i64 imm,.int .i64 dst,.int .i64 src]] w (WroteK w q (l++(op.toNat::(zk (uD op) d++(zk (uA op) a++(zk (uB op) b++(zk (uI op) (zz imm)++(zk (op==18) dst++zk (op==18) src)))))))):=by
 have hmf:∀(fn:Fn) (first cap:Array Value) (w:World),(Instr.makeFunc fn first cap).run Tryz.prog w= .ok (.func fn first cap) w:=fun _ _ _ _=>rfl
 have HO:=qH ho
 have HD:=qH hd
 have HA:=qH ha
 have HBB:=qH hb
 have HI:=qH hi
 have HX:=qH hx
 have HY:=qH hy
 have HG:Hid (GPS w q l (w.alloc (.cells #[.int .i64 op,.int .i64 d,.int .i64 a,.int .i64 b,.int .i64 imm,.int .i64 dst,.int .i64 src] 131))):=(GPS.new h hhi).below ((ld _ _).alloc (la _) _)
 have HB:=qH (Row.new w 131 #[.int .i64 op,.int .i64 d,.int .i64 a,.int .i64 b,.int .i64 imm,.int .i64 dst,.int .i64 src])
 clear h hd ha hb hi ho hx hy
 go_enter Tryz.func97,Tryz.ntmps97
 go_upto_region 1 with fail
 generalize (w.alloc (.cells #[.int .i64 op,.int .i64 d,.int .i64 a,.int .i64 b,.int .i64 imm,.int .i64 dst,.int .i64 src] 131))=W2 at*
 generalize w.heap.size=bx at*
 have b0:=HB.out.k0;have b1:=HB.out.k1;have b2:=HB.out.k2;have b3:=HB.out.k3;have b4:=HB.out.k4;have b5:=HB.out.k5;have b6:=HB.out.k6
 obtain ⟨v,hv⟩:=HG.out.wr
 have C2:=qH (zgU hv hm (la _) HO.out HI.out HD.out HA.out HBB.out)
 clear hv
 go_wp2_with fail
 refine C2.out.mono ?_
 rintro e W3 ⟨⟨rfl,hw,hmm⟩,hk⟩
 have HG2:=qH (HG.out.next hw hmm hk)
 have HB2:=qH (hk.ty _ _ _ HB.out (by decide) (by decide))
 clear hw hmm hk C2 HG HB  b0 b1 b2 b3 b4 b5 b6
 have HG:=HG2
 have HB:=HB2
 clear HG2 HB2
 generalize he18:(op==18)=b18 at*
 have b0:=HB.out.k0;have b1:=HB.out.k1;have b2:=HB.out.k2;have b3:=HB.out.k3;have b4:=HB.out.k4;have b5:=HB.out.k5;have b6:=HB.out.k6
 obtain ⟨v,hv⟩:=HG.out.wr
 have C2:=qH (Jq hv (by have:=yb (uD op) d;have:=yb (uA op) a;have:=yb (uB op) b;have:=yb (uI op) (zz imm);have:=yb b18 dst;simp only [lc,lp,lE];omega) (la _) b18 dst (IntKind.u64.wrap dst) fun hh=>⟨Zr (HX.out hh),by have:=HX.out hh;omega,by have:=HX.out hh;omega⟩)
 clear hv
 go_wp2_with fail
 refine C2.out.mono ?_
 rintro e W4 ⟨⟨rfl,hw,hmm⟩,hk⟩
 have HG2:=qH (HG.out.next hw hmm hk)
 have HB2:=qH (hk.ty _ _ _ HB.out (by decide) (by decide))
 clear hw hmm hk C2 HG HB  b0 b1 b2 b3 b4 b5 b6
 have HG:=HG2
 have HB:=HB2
 clear HG2 HB2
 have b0:=HB.out.k0;have b1:=HB.out.k1;have b2:=HB.out.k2;have b3:=HB.out.k3;have b4:=HB.out.k4;have b5:=HB.out.k5;have b6:=HB.out.k6
 obtain ⟨v,hv⟩:=HG.out.wr
 have C2:=qH (Jq hv (by have:=yb (uD op) d;have:=yb (uA op) a;have:=yb (uB op) b;have:=yb (uI op) (zz imm);have:=yb b18 dst;simp only [lc,lp,lE];omega) (la _) b18 src (IntKind.u64.wrap src) fun hh=>⟨Zr (HY.out hh),by have:=HY.out hh;omega,by have:=HY.out hh;omega⟩)
 clear hv
 go_wp2_with fail
 refine C2.out.mono ?_
 rintro e W5 ⟨⟨rfl,hw,hmm⟩,hk⟩
 have HG2:=qH (HG.out.next hw hmm hk)
 have HB2:=qH (hk.ty _ _ _ HB.out (by decide) (by decide))
 clear hw hmm hk C2 HG HB  b0 b1 b2 b3 b4 b5 b6
 have HG:=HG2
 have HB:=HB2
 clear HG2 HB2
 go_wp2
 go_end0
 exact HG.out.done (by simp only [lg,lD,lz])
theorem zhJ{w:World}{q hi:Nat}{v:Value}{l:List Nat}(h:Wri w q hi v l)(hm:l.length+100≤70368744177664)(hhi:hi≤w.heap.size){k a tq el:Int}(ho:1≤k∧k≤3)(ha:kA k=true→0≤a∧a≤9223372036854775807)(hto:kT k=true→0≤tq∧tq≤9223372036854775807)(hel:kE k=true→0≤el∧el≤9223372036854775807):
  Calls Tryz.prog 145 #[.pointer (some ⟨q,0,none⟩),.agg #[.int .i64 k,.int .i64 a,.int .i64 tq,.int .i64 el]] w (WroteK w q (l++(k.toNat::(zk (kA k) a++(zk (kT k) tq++zk (kE k) el))))):=by
 have hmf:∀(fn:Fn) (first cap:Array Value) (w:World),(Instr.makeFunc fn first cap).run Tryz.prog w= .ok (.func fn first cap) w:=fun _ _ _ _=>rfl
 obtain ⟨o,rfl⟩:∃o:Nat,k=(o:Int):=⟨k.toNat,by omega⟩
 have C1:=qH fun W=>Yj (o:Int) W
 unfold zbh at C1
 generalize kA (o:Int)=bA at*
 generalize kT (o:Int)=bT at*
 generalize kE (o:Int)=bE at*
 generalize kOk (o:Int)=bO at*
 rw [Int.toNat_natCast]
 have HA:=qH ha
 have HT:=qH hto
 have HE:=qH hel
 have ho1:=ho.1
 have ho2:=ho.2
 have HG:Hid (GPS w q l (w.alloc (.cells #[.int .i64 (o:Int),.int .i64 a,.int .i64 tq,.int .i64 el] 57))):=(GPS.new h hhi).below ((ld _ _).alloc (la _) _)
 have HB:=qH (Row.new w 57 #[.int .i64 (o:Int),.int .i64 a,.int .i64 tq,.int .i64 el])
 clear h ha hto hel ho
 go_enter Tryz.func145,Tryz.ntmps145
 go_upto_region 1 with fail
 generalize (w.alloc (.cells #[.int .i64 (o:Int),.int .i64 a,.int .i64 tq,.int .i64 el] 57))=W0 at*
 generalize w.heap.size=bx at*
 have b0:=HB.out.k0;have b1:=HB.out.k1;have b2:=HB.out.k2;have b3:=HB.out.k3
 go_wp2_with fail
 refine (C1.out _).mono ?_
 rintro e W1 ⟨rfl,hb⟩
 have HG1:=qH (HG.out.below hb)
 have HB1:=qH (HB.out.below hb HB.out.lt)
 clear hb C1 HG HB b0 b1 b2 b3
 go_upto_region 2 with fail
 have HS:=qH (Row.new W1 227 #[.bool bA,.bool bT,.bool bE])
 have HG:=qH (HG1.out.below ((ld W1.heap.size W1).alloc (la _) (.cells #[.bool bA,.bool bT,.bool bE] 227)))
 have HB:=qH (HB1.out.alloc (.cells #[.bool bA,.bool bT,.bool bE] 227))
 clear HG1 HB1
 generalize (W1.alloc (.cells #[.bool bA,.bool bT,.bool bE] 227))=W2 at*
 generalize W1.heap.size=sx at*
 have s0:=HS.out.k0;have s1:=HS.out.k1;have s2:=HS.out.k2
 have b0:=HB.out.k0;have b1:=HB.out.k1;have b2:=HB.out.k2;have b3:=HB.out.k3
 obtain ⟨v,hv⟩:=HG.out.wr
 have C2:=qH (zfA hv o (by omega) (by omega))
 clear hv
 go_wp2_with fail
 refine C2.out.mono ?_
 rintro e W3 ⟨⟨rfl,hw,hmm⟩,hk⟩
 have HG2:=qH (HG.out.next hw hmm hk)
 have HB2:=qH (hk.ty _ _ _ HB.out (by decide) (by decide))
 have HS2:=qH (hk.ty _ _ _ HS.out (by decide) (by decide))
 clear hw hmm hk C2 HG HB HS b0 b1 b2 b3 s0 s1 s2
 have HG:=HG2
 have HB:=HB2
 have HS:=HS2
 clear HG2 HB2 HS2
 have s0:=HS.out.k0;have s1:=HS.out.k1;have s2:=HS.out.k2
 have b0:=HB.out.k0;have b1:=HB.out.k1;have b2:=HB.out.k2;have b3:=HB.out.k3
 obtain ⟨v,hv⟩:=HG.out.wr
 have C2:=qH (Jq hv (by have:=yb bA a;have:=yb bT tq;simp only [lc,lp,lE];omega) (la _) bA a (IntKind.u64.wrap a) fun hh=>⟨Zr (HA.out hh),by have:=HA.out hh;omega,by have:=HA.out hh;omega⟩)
 clear hv
 go_wp2_with fail
 refine C2.out.mono ?_
 rintro e W4 ⟨⟨rfl,hw,hmm⟩,hk⟩
 have HG2:=qH (HG.out.next hw hmm hk)
 have HB2:=qH (hk.ty _ _ _ HB.out (by decide) (by decide))
 have HS2:=qH (hk.ty _ _ _ HS.out (by decide) (by decide))
 clear hw hmm hk C2 HG HB HS b0 b1 b2 b3 s0 s1 s2
 have HG:=HG2
 have HB:=HB2
 have HS:=HS2
 clear HG2 HB2 HS2
 have s0:=HS.out.k0;have s1:=HS.out.k1;have s2:=HS.out.k2
 have b0:=HB.out.k0;have b1:=HB.out.k1;have b2:=HB.out.k2;have b3:=HB.out.k3
 obtain ⟨v,hv⟩:=HG.out.wr
 have C2:=qH (Jq hv (by have:=yb bA a;have:=yb bT tq;simp only [lc,lp,lE];omega) (la _) bT tq (IntKind.u64.wrap tq) fun hh=>⟨Zr (HT.out hh),by have:=HT.out hh;omega,by have:=HT.out hh;omega⟩)
 clear hv
 go_wp2_with fail
 refine C2.out.mono ?_
 rintro e W5 ⟨⟨rfl,hw,hmm⟩,hk⟩
 have HG2:=qH (HG.out.next hw hmm hk)
 have HB2:=qH (hk.ty _ _ _ HB.out (by decide) (by decide))
 have HS2:=qH (hk.ty _ _ _ HS.out (by decide) (by decide))
 clear hw hmm hk C2 HG HB HS b0 b1 b2 b3 s0 s1 s2
 have HG:=HG2
 have HB:=HB2
 have HS:=HS2
 clear HG2 HB2 HS2
 have s0:=HS.out.k0;have s1:=HS.out.k1;have s2:=HS.out.k2
 have b0:=HB.out.k0;have b1:=HB.out.k1;have b2:=HB.out.k2;have b3:=HB.out.k3
 obtain ⟨v,hv⟩:=HG.out.wr
 have C2:=qH (Jq hv (by have:=yb bA a;have:=yb bT tq;simp only [lc,lp,lE];omega) (la _) bE el (IntKind.u64.wrap el) fun hh=>⟨Zr (HE.out hh),by have:=HE.out hh;omega,by have:=HE.out hh;omega⟩)
 clear hv
 go_wp2_with fail
 refine C2.out.mono ?_
 rintro e W6 ⟨⟨rfl,hw,hmm⟩,hk⟩
 have HG2:=qH (HG.out.next hw hmm hk)
 have HB2:=qH (hk.ty _ _ _ HB.out (by decide) (by decide))
 have HS2:=qH (hk.ty _ _ _ HS.out (by decide) (by decide))
 clear hw hmm hk C2 HG HB HS b0 b1 b2 b3 s0 s1 s2
 have HG:=HG2
 have HB:=HB2
 have HS:=HS2
 clear HG2 HB2 HS2
 go_wp2
 go_end0
 exact HG.out.done (by simp only [lg,lD,lz])
end Go.Proofs.YtnifhpbgmjcndaaGreat
