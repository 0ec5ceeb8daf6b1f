import Derived.Test.YtnifhpbgmjcndaaGreatPk29
import Derived.Test.YtnifhpbgmjcndaaGreatPk17
set_option linter.unusedVariables false
set_option linter.unusedSimpArgs false
set_option linter.unusedSectionVars false
set_option maxRecDepth 100000
set_option maxHeartbeats 8000000
namespace Go.Proofs.YtnifhpbgmjcndaaGreat
open Go.RowKit
structure SmW(c:Ct):Prop where
 b:c.bs.length≤1000
 n:zQ c.bs≤1000000
 m:c.ms.length≤1000
 k:zF c.ms≤1000000
 i:c.inv.length≤3000
 l:∀x∈c.inv,x.length≤3000
 t:jw c.inv≤1000000
theorem SmC.w{c:Ct}(h:SmC c):SmW c:=by
 obtain ⟨⟨s1,s2,s3⟩,⟨s4,s5,s6,s7⟩,s8,s9⟩:=h
 have h1:=ZT s9
 exact ⟨by omega,by omega,by omega,by omega,by omega,fun x hx=>by have:=s9 x hx;omega,by omega⟩
theorem zcH{A1:Option Addr}{k1:Nat}{A2:Option Addr}{k2:Nat}{A3:Option Addr}{k3:Nat}{c:Ct}(w:World)(h:CeAt w w.heap.size A1 k1 A2 k2 A3 k3 c)(hs:SmW c)(hw:∀l∈c.inv,∀p∈l,Uk p):
  Calls Tryz.prog 16 #[.agg #[.int .i64 c.sa,.int .i64 c.sr,.slice A1 c.bs.length k1,.int .i64 c.ta,.int .i64 c.tr,.int .i64 c.ts,.slice A2 c.ms.length k2,.slice A3 c.inv.length k3]] w fun e w'=>e= .returned (.int .i64 (zV c))∧Below w.heap.size w w':=by
 have HK:=qH (CeK.start h)
 have HV:Hid (zV c=if eF c.sa c.sr c.bs≠0 then eF c.sa c.sr c.bs else if eMF c.ta c.tr c.ts c.ms≠0 then eMF c.ta c.tr c.ts c.ms else if c.bs.length≠c.ms.length∨c.sa≠c.ta then 14 else yp c.inv c.bs.length c.sr c.tr c.ts):=rfl
 obtain ⟨s1,s3,s4,s7,s8,s9,s10⟩:=hs
 have S9:=qH s9
 have HWI:=qH hw
 clear h hw s9
 go_enter Tryz.func16,Tryz.ntmps16
 go_upto_region 1 with fail
 generalize (w.alloc (.cells #[.int .i64 c.sa,.int .i64 c.sr,.slice A1 c.bs.length k1,.int .i64 c.ta,.int .i64 c.tr,.int .i64 c.ts,.slice A2 c.ms.length k2,.slice A3 c.inv.length k3] 31))=W0 at*
 have c0:=HK.out.row.k0;have c1:=HK.out.row.k1;have c2:=HK.out.row.k2;have c3:=HK.out.row.k3
 have c4:=HK.out.row.k4;have c5:=HK.out.row.k5;have c6:=HK.out.row.k6;have c7:=HK.out.row.k7
 have C1:=qH (zcd _ A1 c.bs k1 c.sa c.sr W0 HK.out.see.bs HK.out.blw.size (by omega) (by omega))
 generalize eF c.sa c.sr c.bs=e1 at*
 go_wp2_with fail
 refine C1.out.mono ?_
 rintro e W1 ⟨rfl,hb⟩
 have HK1:=qH (HK.out.next hb)
 clear c0 c1 c2 c3 c4 c5 c6 c7
 clear hb HK C1
 by_cases h1:e1=0
 ·have d1:(e1 !=0)=false:=by simp [h1]
  have HV1:Hid (zV c=if eMF c.ta c.tr c.ts c.ms≠0 then eMF c.ta c.tr c.ts c.ms else if c.bs.length≠c.ms.length∨c.sa≠c.ta then 14 else yp c.inv c.bs.length c.sr c.tr c.ts):=by show _=_;rw [HV.out,if_neg (by simpa using h1)]
  clear h1 HV
  have c0:=HK1.out.row.k0;have c1:=HK1.out.row.k1;have c2:=HK1.out.row.k2;have c3:=HK1.out.row.k3
  have c4:=HK1.out.row.k4;have c5:=HK1.out.row.k5;have c6:=HK1.out.row.k6;have c7:=HK1.out.row.k7
  have C2:=qH (za6 _ A2 c.ms k2 c.ta c.tr c.ts W1 HK1.out.see.ms HK1.out.blw.size (by omega) (by omega))
  generalize eMF c.ta c.tr c.ts c.ms=e2 at*
  go_wp2_with fail
  refine C2.out.mono ?_
  rintro e W2 ⟨rfl,hb⟩
  have HK2:=qH (HK1.out.next hb)
  clear c0 c1 c2 c3 c4 c5 c6 c7
  clear hb HK1 C2
  by_cases h2:e2=0
  ·have d2:(e2 !=0)=false:=by simp [h2]
   have HV2:Hid (zV c=if c.bs.length≠c.ms.length∨c.sa≠c.ta then 14 else yp c.inv c.bs.length c.sr c.tr c.ts):=by show _=_;rw [HV1.out,if_neg (by simpa using h2)]
   clear h2 HV1
   have c0:=HK2.out.row.k0;have c1:=HK2.out.row.k1;have c2:=HK2.out.row.k2;have c3:=HK2.out.row.k3
   have c4:=HK2.out.row.k4;have c5:=HK2.out.row.k5;have c6:=HK2.out.row.k6;have c7:=HK2.out.row.k7
   by_cases h3:c.bs.length=c.ms.length
   ·have d3:((c.bs.length:Int) !=(c.ms.length:Int))=false:=by simp [h3]
    by_cases h4:c.sa=c.ta
    ·have d4:(c.sa !=c.ta)=false:=by simp [h4]
     have HV3:Hid (zV c=yp c.inv c.bs.length c.sr c.tr c.ts):=by show _=_;rw [HV2.out,if_neg (by simp [h3,h4])]
     clear h3 h4 HV2
     have C3:=qH (zfo _ A3 c.inv k3 (c.bs.length:Int) c.sr c.tr c.ts W2 HK2.out.see.inv (by omega) S9.out s10 HWI.out)
     go_wp2_with fail
     refine C3.out.mono ?_
     rintro e W3 ⟨rfl,hG⟩
     have HK3:=qH (HK2.out.next hG.below)
     clear c0 c1 c2 c3 c4 c5 c6 c7
     clear hG HK2 C3
     go_wp2
     go_ret
     exact ⟨by rw [HV3.out];rfl,HK3.out.blw⟩
    ·have d4:(c.sa !=c.ta)=true:=by simp [h4]
     have HV3:Hid (zV c=14):=by show _=_;rw [HV2.out,if_pos (.inr h4)]
     clear h3 h4 HV2
     go_wp2
     go_ret
     exact ⟨by rw [HV3.out];rfl,HK2.out.blw⟩
   ·have d3:((c.bs.length:Int) !=(c.ms.length:Int))=true:=by simp;omega
    have HV3:Hid (zV c=14):=by show _=_;rw [HV2.out,if_pos (.inl h3)]
    clear h3 HV2
    go_wp2
    go_ret
    exact ⟨by rw [HV3.out];rfl,HK2.out.blw⟩
  ·have d2:(e2 !=0)=true:=by simp [h2]
   have HV2:Hid (zV c=e2):=by show _=_;rw [HV1.out,if_pos h2]
   clear h2 HV1
   go_wp2
   go_ret
   exact ⟨by rw [HV2.out];rfl,HK2.out.blw⟩
 ·have d1:(e1 !=0)=true:=by simp [h1]
  have HV1:Hid (zV c=e1):=by show _=_;rw [HV.out,if_pos h1]
  clear h1 HV
  go_wp2
  go_ret
  exact ⟨by rw [HV1.out];rfl,HK1.out.blw⟩
theorem yj{w:World}{base n k:Nat}{e:TypeId}{A:Option Addr}{xs:List Value}(h:w.ownsRow base e 1 (.slice A n k) n xs):n≤k∧k≤maxLen:=by
 obtain ⟨A',k',h1,h2,h3⟩:=zh h
 injection h1 with _ _ h4
 subst h4
 exact ⟨h2,h3⟩
structure CV(c:Ct):Prop where
 vf:VF c.f
 vg:VG c.g
 pp:∀l∈c.inv,U9 true (0,0) l
 il:c.inv.length≤3000
 ll:∀l∈c.inv,l.length≤3000
 ef:(zO c.f).length≤100000
 eg:(yz c.g).length≤100000
 ew:(zp c.inv).length≤400000
 ci:CtI c
 cr:CtR c
 cl:CtL c
 ok:∀b∈c.ms,∀y∈b.code,y.Ok
theorem CV.of{c:Ct}(h:zV c=0)(hs:SmC c)(hi:CtI c):CV c:=by
 obtain ⟨v1,v2,v3,v4,v5⟩:=ZE h
 obtain ⟨⟨s1,s2,s3⟩,⟨s4,s5,s6,s7⟩,s8,s9⟩:=hs
 have hf:VF c.f:=VF.of (f:=c.f) v1 hi.s
 have hg:VG c.g:=VG.of (g:=c.g) v2 hi.t
 have l1:=zb1 c.f
 have l2:=zb2 c.g
 have l3:=(JK c.inv).2
 have l4:=ZT s9
 have e1:c.f.bs=c.bs:=rfl
 have e2:c.g.ms=c.ms:=rfl
 rw [e1] at l1
 rw [e2] at l2
 have hw:jZ c.sr c.tr c.ts c.inv=0:=by
  unfold yp at v5
  by_cases h9:(c.inv.length:Int)≠(c.bs.length:Int)
  ·rw [if_pos h9] at v5;cases v5
  ·rw [if_neg h9] at v5;exact v5
 exact ⟨hf,hg,zda (by omega) (by omega) (by omega) c.inv hw,by omega,fun l hl=>by have:=s9 l hl;omega,by omega,by omega,by omega,hi,⟨by omega,by omega,by omega,by omega⟩,⟨by omega,by omega,by omega⟩,zaO (g:=c.g) v2⟩
theorem zfV{c:Ct}(h:c.Wf):CtI c:=⟨fun b hb x hx=>ZM ((h.bs b hb).1 x hx).2.2.2.2,fun b hb x hx=>ZM ((h.ms b hb).1 x hx).2.2.2.2.1⟩
theorem CV.size{c:Ct}(h:CV c):jG (zu c)≤700000∧JV (zu c)≤700000∧(zP c).length≤700003:=by
 have h1:=zay (zu c)
 have h2:JV (zu c)=(zO c.f).length+((yz c.g).length+((zp c.inv).length+0)):=rfl
 have h3:(zu c).length=3:=rfl
 have h4:=j8 zn (zu c) rfl
 have h5:(zP c).length=(zD zn (zu c)).length+3:=by unfold zP;simp
 have:=h.ef;have:=h.eg;have:=h.ew
 omega
theorem zey{b:List Nat}(hb:Byt b)(hl:b.length≤3000){c:Ct}{e:Int}(hd:yD b=(c,e)):(c.bs.length≤1000∧zQ c.bs≤1000000∧c.ms.length≤1000∧zF c.ms≤1000000∧c.inv.length≤1000000)∧∀y∈c.ms,∀x∈y.code,x.Ok:=by
 by_cases h0:(yD b).2=0
 ·obtain ⟨h1,h2,h3⟩:=zgj hb h0
  rw [hd] at h1 h2 h3
  dsimp only at h1 h2 h3
  have h4:=j8 zn (zu c) rfl
  have h5:b.length=(zD zn (zu c)).length+3:=by rw [h3];unfold zP;simp
  have h6:jG (zu c)=1+yc (zO c.f).length+(zO c.f).length+(1+yc (yz c.g).length+(yz c.g).length+(1+yc (zp c.inv).length+(zp c.inv).length+0)):=rfl
  have h7:=Yg (f:=c.f) (n:=(zO c.f).length) (la _)
  have h8:=zb3 (g:=c.g) (n:=(yz c.g).length) (la _)
  have h9:=(JK c.inv).1
  have e1:c.f.bs=c.bs:=rfl
  have e2:c.g.ms=c.ms:=rfl
  rw [e1] at h7
  rw [e2] at h8
  obtain ⟨_,v2,v3,_⟩:=ZE h1
  exact ⟨⟨by omega,by omega,by omega,by omega,by omega⟩,zaO (g:=c.g) v2⟩
 ·have hz:=(zgo b).2 h0
  rw [hd] at hz
  dsimp only at hz
  subst hz
  exact ⟨⟨by decide,by decide,by decide,by decide,by decide⟩,fun y hy=>by cases hy⟩
theorem WroteK.only{w w':World}{q:Nat}{l:List Nat}{e:Ending}(h:WroteK w q l e w')(hr:Row w q 98 #[.slice none 0 0]):e= .returned (.tuple #[])∧(∃v',Wri w' q w'.heap.size v' l)∧Mods (Is q) w w':=by
 obtain ⟨⟨h1,h2,h3⟩,h4⟩:=h
 refine ⟨h1,h2,h3.os,h3.tape,h3.output,h3.size,fun k hk hn=> ?_⟩
 obtain ⟨o,ho⟩:∃o,w.heap[k]?=some o:=⟨_,Array.getElem?_eq_getElem hk⟩
 rw [(h4.old _ hr k o ho hn (fun j hj=>by simp [Value.ownBlock] at hj)).1,ho]
theorem Wri.beside{w w':World}{q hi p:Nat}{v:Value}{l:List Nat}{cs:Array Value}(h:Wri w q hi v l)(hr:Row w p 98 cs)(hne:q≠p)(hm:Mods (Is p) w w'):Wri w' q hi v l:=
 ⟨h.row.mods hm hne,hm.own h.own fun k hk e=>Jo h.own hr (by decide) k hk e,h.blk,h.qhi⟩
structure EW(w:World)(cb:Nat)(A1:Option Addr)(k1:Nat)(A2:Option Addr)(k2:Nat)(A3:Option Addr)(k3:Nat)(c:Ct)(q1 q2 q3:Nat)(W:World):Prop where
 blw:Below w.heap.size w W
 row:Row W cb 31 #[.int .i64 c.sa,.int .i64 c.sr,.slice A1 c.bs.length k1,.int .i64 c.ta,.int .i64 c.tr,.int .i64 c.ts,.slice A2 c.ms.length k2,.slice A3 c.inv.length k3]
 see:CeAt W w.heap.size A1 k1 A2 k2 A3 k3 c
 lt:w.heap.size≤q1∧q1<q2∧q2<q3
 cq:cb<q1
section
variable {w W W' : World} {cb : Nat} {A1 : Option Addr} {k1 : Nat} {A2 : Option Addr} {k2 : Nat} {A3 : Option Addr} {k3 : Nat} {c : Ct} {q1 q2 q3 : Nat}
theorem EW.turn(h:EW w cb A1 k1 A2 k2 A3 k3 c q1 q2 q3 W){q:Nat}(hq:q1≤q)(hm:Mods (Is q) W W'):EW w cb A1 k1 A2 k2 A3 k3 c q1 q2 q3 W':=by
 have hb:Below w.heap.size W W':=hm.below h.blw.size fun k hk=>by have:=h.lt;unfold Is at hk;omega
 exact ⟨h.blw.trans hb,h.row.mods hm (by have:=h.cq;unfold Is;omega),h.see.below hb,h.lt,h.cq⟩
end
theorem Yn{A1:Option Addr}{k1:Nat}{A2:Option Addr}{k2:Nat}{A3:Option Addr}{k3:Nat}{c:Ct}(w:World)(h:CeAt w w.heap.size A1 k1 A2 k2 A3 k3 c)(hs:SmC c)(hw:c.Wf):
  Calls Tryz.prog 12 #[.agg #[.int .i64 c.sa,.int .i64 c.sr,.slice A1 c.bs.length k1,.int .i64 c.ta,.int .i64 c.tr,.int .i64 c.ts,.slice A2 c.ms.length k2,.slice A3 c.inv.length k3]] w (zhd w c):=by
 obtain ⟨i0,hi0,hz0,hz1,hz2⟩:=info_parts infoU8
 have HK:=qH (CeK.start h)
 have HSM:=qH hs
 have HWF:=qH hw
 obtain ⟨E,hE⟩:∃E,zV c=E:=⟨_,rfl⟩
 have HE:=qH hE
 unfold zhd
 rw [hE]
 clear h hs hw hE
 go_enter Tryz.func12,Tryz.ntmps12
 go_upto_region 1 with fail
 generalize (w.alloc (.cells #[.int .i64 c.sa,.int .i64 c.sr,.slice A1 c.bs.length k1,.int .i64 c.ta,.int .i64 c.tr,.int .i64 c.ts,.slice A2 c.ms.length k2,.slice A3 c.inv.length k3] 31))=W0 at*
 have c0:=HK.out.row.k0;have c1:=HK.out.row.k1;have c2:=HK.out.row.k2;have c3:=HK.out.row.k3;have c4:=HK.out.row.k4;have c5:=HK.out.row.k5;have c6:=HK.out.row.k6;have c7:=HK.out.row.k7
 obtain ⟨cb,hcb⟩:∃cb,w.heap.size=cb:=⟨_,rfl⟩
 have HK0:Hid (CeK w cb A1 k1 A2 k2 A3 k3 c W0):=by rw [←hcb];exact HK.out
 have C1:=qH (zad W0 (HK.out.see.more HK.out.blw.size) HSM.out HWF.out)
 rw [HE.out] at C1
 have hcw:w.heap.size≤cb:=Nat.le_of_eq hcb
 rw [hcb] at c0 c1 c2 c3 c4 c5 c6 c7⊢
 clear HK hcb
 go_wp2_with fail
 refine C1.out.mono ?_
 rintro e W1 ⟨rfl,hb1⟩
 have HK1:=qH (HK0.out.next hb1)
 clear C1 HK0 hb1 c0 c1 c2 c3 c4 c5 c6 c7
 by_cases h0:E=0
 case neg=>
  have d0:(E==0)=false:=by simp [h0]
  have d1:(E !=0)=true:=by simp [h0]
  have HN:=qH h0
  clear h0
  go_wp2
  go_ret2
  exact ⟨HK1.out.blw,.inr ⟨HN.out,rfl⟩⟩
 subst h0
 have HCV:=qH (CV.of HE.out HSM.out (zfV HWF.out))
 go_upto_region 5 with fail
 obtain ⟨q1,hq1⟩:∃q1,W1.heap.size=q1:=⟨_,rfl⟩
 obtain ⟨q2,hq2⟩:∃q2,W1.heap.size+1=q2:=⟨_,rfl⟩
 obtain ⟨q3,hq3⟩:∃q3,W1.heap.size+1+1=q3:=⟨_,rfl⟩
 have R1:Hid (Row (((W1.alloc (.cells #[.slice none 0 0] 98)).alloc (.cells #[.slice none 0 0] 98)).alloc (.cells #[.slice none 0 0] 98)) q1 98 #[.slice none 0 0]):=by rw [←hq1];exact ((Row.new W1 _ _).alloc _).alloc _
 have R2:Hid (Row (((W1.alloc (.cells #[.slice none 0 0] 98)).alloc (.cells #[.slice none 0 0] 98)).alloc (.cells #[.slice none 0 0] 98)) q2 98 #[.slice none 0 0]):=by
  have:=(Row.new (W1.alloc (.cells #[.slice none 0 0] 98)) 98 #[.slice none 0 0]).alloc (.cells #[.slice none 0 0] 98)
  rw [show (W1.alloc (.cells #[.slice none 0 0] 98)).heap.size=W1.heap.size+1 by simp,hq2] at this
  exact this
 have R3:Hid (Row (((W1.alloc (.cells #[.slice none 0 0] 98)).alloc (.cells #[.slice none 0 0] 98)).alloc (.cells #[.slice none 0 0] 98)) q3 98 #[.slice none 0 0]):=by
  have:=Row.new ((W1.alloc (.cells #[.slice none 0 0] 98)).alloc (.cells #[.slice none 0 0] 98)) 98 #[.slice none 0 0]
  rw [show ((W1.alloc (.cells #[.slice none 0 0] 98)).alloc (.cells #[.slice none 0 0] 98)).heap.size=W1.heap.size+1+1 by simp,hq3] at this
  exact this
 have hb4:Below W1.heap.size W1 (((W1.alloc (.cells #[.slice none 0 0] 98)).alloc (.cells #[.slice none 0 0] 98)).alloc (.cells #[.slice none 0 0] 98)):=(((ld W1.heap.size W1).alloc (la _) _).alloc (by simp) _).alloc (by simp;omega) _
 have HK4:=qH (HK1.out.next hb4)
 have hqq:w.heap.size≤q1∧q1<q2∧q2<q3:=by have:=HK1.out.blw.size;omega
 have hcq:cb<q1:=by have:=HK1.out.row.lt;omega
 have D4:Hid (EW w cb A1 k1 A2 k2 A3 k3 c q1 q2 q3 (((W1.alloc (.cells #[.slice none 0 0] 98)).alloc (.cells #[.slice none 0 0] 98)).alloc (.cells #[.slice none 0 0] 98))):=⟨HK4.out.blw,HK4.out.row,HK4.out.see,hqq,hcq⟩
 rw [hq3,hq2,hq1]
 clear HK1 HK4 hb4 hq1 hq2 hq3
 generalize (((W1.alloc (.cells #[.slice none 0 0] 98)).alloc (.cells #[.slice none 0 0] 98)).alloc (.cells #[.slice none 0 0] 98))=W4 at*
 have hnw:∀(W:World) (q:Nat),Row W q 98 #[.slice none 0 0]→Wri W q (q+1) (.slice none 0 0) []:=fun W q h=>⟨h,⟨rfl,.inl ⟨rfl,rfl⟩⟩,fun k hk=>by simp [Value.ownBlock] at hk,by omega⟩
 have HNW:=qH hnw
 clear hnw
 have S4:=D4.out.see.more (show w.heap.size≤q1 from hqq.1)
 have P1:Hid (Calls Tryz.prog 41 #[.pointer (some ⟨q1,0,none⟩),.agg #[.int .i64 c.sa,.int .i64 c.sr,.slice A1 c.bs.length k1]] W4 (WroteK W4 q1 ([]++zO c.f))):=zgH (HNW.out W4 q1 R1.out) (by simp) R1.out.lt (f:=c.f) HCV.out.vf S4.bs S4.l1.1
 have c0:=D4.out.row.k0;have c1:=D4.out.row.k1;have c2:=D4.out.row.k2;have c3:=D4.out.row.k3;have c4:=D4.out.row.k4;have c5:=D4.out.row.k5;have c6:=D4.out.row.k6;have c7:=D4.out.row.k7
 clear S4
 go_wp2_with fail
 refine P1.out.mono ?_
 rintro e W5 hw5
 obtain ⟨rfl,⟨v1,hv1⟩,hm5⟩:=hw5.only R1.out
 rw [lz] at hv1
 have D5:=qH (D4.out.turn (la _) hm5)
 have V1:=qH hv1
 have R2':=qH (R2.out.mods hm5 (by unfold Is;omega))
 have R3':=qH (R3.out.mods hm5 (by unfold Is;omega))
 clear P1 D4 R1 R2 R3 hw5 hv1 hm5 c0 c1 c2 c3 c4 c5 c6 c7
 have S5:=D5.out.see.more (show w.heap.size≤q2 by omega)
 have P2:Hid (Calls Tryz.prog 42 #[.pointer (some ⟨q2,0,none⟩),.agg #[.int .i64 c.ta,.int .i64 c.tr,.int .i64 c.ts,.slice A2 c.ms.length k2]] W5 (WroteK W5 q2 ([]++yz c.g))):=zfI (HNW.out W5 q2 R2'.out) (by simp) R2'.out.lt (f:=c.g) HCV.out.vg S5.ms S5.l2.1
 have c0:=D5.out.row.k0;have c1:=D5.out.row.k1;have c2:=D5.out.row.k2;have c3:=D5.out.row.k3;have c4:=D5.out.row.k4;have c5:=D5.out.row.k5;have c6:=D5.out.row.k6;have c7:=D5.out.row.k7
 clear S5
 go_wp2_with fail
 refine P2.out.mono ?_
 rintro e W6 hw6
 obtain ⟨rfl,⟨v2,hv2⟩,hm6⟩:=hw6.only R2'.out
 rw [lz] at hv2
 have D6:=qH (D5.out.turn (by omega) hm6)
 have V1':=qH ((V1.out.beside R2'.out (by omega) hm6).more hm6.size)
 have V2:=qH hv2
 have R3:=qH (R3'.out.mods hm6 (by unfold Is;omega))
 clear P2 D5 V1 R2' R3' hw6 hv2 hm6 c0 c1 c2 c3 c4 c5 c6 c7
 have S6:=D6.out.see.more (show w.heap.size≤q3 by omega)
 have P3:Hid (Calls Tryz.prog 43 #[.pointer (some ⟨q3,0,none⟩),.slice A3 c.inv.length k3] W6 (WroteK W6 q3 ([]++zp c.inv))):=zfO (HNW.out W6 q3 R3.out) (by simp) R3.out.lt S6.inv (by have:=HSM.out.n;omega) (fun x hx=>by have:=HSM.out.l x hx;omega) HCV.out.pp
 have c0:=D6.out.row.k0;have c1:=D6.out.row.k1;have c2:=D6.out.row.k2;have c3:=D6.out.row.k3;have c4:=D6.out.row.k4;have c5:=D6.out.row.k5;have c6:=D6.out.row.k6;have c7:=D6.out.row.k7
 clear S6
 go_wp2_with fail
 refine P3.out.mono ?_
 rintro e W7 hw7
 obtain ⟨rfl,⟨v3,hv3⟩,hm7⟩:=hw7.only R3.out
 rw [lz] at hv3
 have B7:=qH (D6.out.turn (by omega) hm7).blw
 have U1:=qH ((V1'.out.beside R3.out (by omega) hm7).more hm7.size)
 have U2:=qH ((V2.out.beside R3.out (by omega) hm7).more hm7.size)
 have U3:=qH hv3
 clear P3 D6 V1' V2 R3 hw7 hv3 hm7 c0 c1 c2 c3 c4 c5 c6 c7 HNW
 have hsz:(zO c.f).length≤100000∧(yz c.g).length≤100000∧(zp c.inv).length≤400000:=⟨HCV.out.ef,HCV.out.eg,HCV.out.ew⟩
 have HPK:Hid (jG (zu c)≤700000∧JV (zu c)≤700000∧(zP c).length≤700003∧Byt zn):=⟨HCV.out.size.1,HCV.out.size.2.1,HCV.out.size.2.2,by intro c hc;unfold zn at hc;simp at hc;omega⟩
 have HPP:Hid (zu c= [zO c.f,yz c.g,zp c.inv]):=rfl
 have HEC:Hid (zP c= [82,67,1]++zD zn (zu c)):=rfl
 obtain ⟨pk,hpk⟩:∃pk,zu c=pk:=⟨_,rfl⟩
 obtain ⟨ec,hec⟩:∃ec,zP c=ec:=⟨_,rfl⟩
 obtain ⟨l1,hl1⟩:∃l1,zO c.f=l1:=⟨_,rfl⟩
 obtain ⟨l2,hl2⟩:∃l2,yz c.g=l2:=⟨_,rfl⟩
 obtain ⟨l3,hl3⟩:∃l3,zp c.inv=l3:=⟨_,rfl⟩
 rw [hpk,hec] at HPK
 rw [hpk,hl1,hl2,hl3] at HPP
 rw [hec,hpk] at HEC
 rw [hl1,hl2,hl3] at hsz
 rw [hl1] at U1
 rw [hl2] at U2
 rw [hl3] at U3
 clear hpk hl1 hl2 hl3 HCV HSM HWF
 have HE0:Hid (zP c=ec):=hec
 clear hec
 have CI:=qH (Qv W7)
 go_wp2_with fail
 refine CI.out.mono ?_
 rintro e W8 ⟨g,rfl,ho8,hb8⟩
 have HI8:=qH ho8
 have B8:=qH (B7.out.trans (hb8.mono B7.out.size))
 have CO1:=qH (Uv (U1.out.mods (S:=No) (Mods.of_below hb8) fun _ h=>h.elim) (by omega))
 have U2':=qH ((U2.out.mods (S:=No) (Mods.of_below hb8) fun _ h=>h.elim).more hb8.size)
 have U3':=qH ((U3.out.mods (S:=No) (Mods.of_below hb8) fun _ h=>h.elim).more hb8.size)
 clear CI U1 U2 U3 B7 ho8 hb8
 go_wp2_with fail
 refine CO1.out.mono ?_
 rintro e W9 ⟨B1,d1,rfl,ho9,hb9⟩
 have HO1:=qH (Sees.of_own ho9)
 have K1:=yj ho9
 have HI9:=qH ((Mods.of_below (S:=No) hb9).own HI8.out fun _ _ h=>h)
 have B9:=qH (B8.out.trans (hb9.mono B8.out.size))
 have CO2:=qH (Uv (U2'.out.mods (S:=No) (Mods.of_below hb9) fun _ h=>h.elim) (by omega))
 have U3:=qH ((U3'.out.mods (S:=No) (Mods.of_below hb9) fun _ h=>h.elim).more hb9.size)
 clear CO1 U2' U3' HI8 B8 ho9 hb9
 go_wp2_with fail
 refine CO2.out.mono ?_
 rintro e W10 ⟨B2,d2,rfl,ho10,hb10⟩
 have HO2:=qH (Sees.of_own ho10)
 have K2:=yj ho10
 have HO1':=qH ((HO1.out.below hb10).more hb10.size)
 have HI10:=qH ((Mods.of_below (S:=No) hb10).own HI9.out fun _ _ h=>h)
 have B10:=qH (B9.out.trans (hb10.mono B9.out.size))
 have CO3:=qH (Uv (U3.out.mods (S:=No) (Mods.of_below hb10) fun _ h=>h.elim) (by omega))
 clear CO2 U3 HI9 B9 HO1 ho10 hb10
 go_wp2_with fail
 refine CO3.out.mono ?_
 rintro e W11 ⟨B3,d3,rfl,ho11,hb11⟩
 have HO3:=qH (Sees.of_own ho11)
 have K3:=yj ho11
 have HO1:=qH ((HO1'.out.below hb11).more hb11.size)
 have HO2':=qH ((HO2.out.below hb11).more hb11.size)
 have HI11:=qH ((Mods.of_below (S:=No) hb11).own HI10.out fun _ _ h=>h)
 have B11:=qH (B10.out.trans (hb11.mono B10.out.size))
 clear CO3 HI10 B10 HO1' HO2 ho11 hb11
 have hba:Below W11.heap.size W11 (W11.alloc (.cells #[.slice B1 l1.length d1,.slice B2 l2.length d2,.slice B3 l3.length d3] 22)):=(ld W11.heap.size W11).alloc (la _) _
 have B12:Hid (Below w.heap.size w (W11.alloc (.cells #[.slice B1 l1.length d1,.slice B2 l2.length d2,.slice B3 l3.length d3] 22))):=B11.out.trans (hba.mono B11.out.size)
 have hz12:(W11.alloc (.cells #[.slice B1 l1.length d1,.slice B2 l2.length d2,.slice B3 l3.length d3] 22)).heap.size=W11.heap.size+1:=by simp
 have CP:Hid (Calls Tryz.prog 44 #[.slice (some ⟨g,0,none⟩) 3 3,.slice (some ⟨W11.heap.size,0,none⟩) 3 3] (W11.alloc (.cells #[.slice B1 l1.length d1,.slice B2 l2.length d2,.slice B3 l3.length d3] 22)) (zgP (W11.alloc (.cells #[.slice B1 l1.length d1,.slice B2 l2.length d2,.slice B3 l3.length d3] 22)) (zD zn pk))):=by
  have hsl:SeesL (W11.alloc (.cells #[.slice B1 l1.length d1,.slice B2 l2.length d2,.slice B3 l3.length d3] 22)) (W11.alloc (.cells #[.slice B1 l1.length d1,.slice B2 l2.length d2,.slice B3 l3.length d3] 22)).heap.size (some ⟨W11.heap.size,0,none⟩) pk:=by
   rw [HPP.out]
   refine ⟨[.slice B1 l1.length d1,.slice B2 l2.length d2,.slice B3 l3.length d3],fun _=>⟨W11.heap.size,0,rfl,by simp,fun i u hu=> ?_⟩,rfl,fun i x hx=> ?_⟩
   ·rw [(Row.new W11 22 #[.slice B1 l1.length d1,.slice B2 l2.length d2,.slice B3 l3.length d3]).cell (0+i),←hu,lI]
    simp
   ·match i,hx with
    |0,hx=>
     have:l1=x:=by simpa using hx
     subst this
     exact ⟨B1,d1,rfl,K1.1,K1.2,(HO1.out.below hba).more hba.size⟩
    |1,hx=>
     have:l2=x:=by simpa using hx
     subst this
     exact ⟨B2,d2,rfl,K2.1,K2.2,(HO2'.out.below hba).more hba.size⟩
    |2,hx=>
     have:l3=x:=by simpa using hx
     subst this
     exact ⟨B3,d3,rfl,K3.1,K3.2,(HO3.out.below hba).more hba.size⟩
    |i+3,hx=>simp at hx
  have hp3:pk.length=3:=by rw [HPP.out];rfl
  have:=zeS (W11.alloc (.cells #[.slice B1 l1.length d1,.slice B2 l2.length d2,.slice B3 l3.length d3] 22)).heap.size (some ⟨g,0,none⟩) (some ⟨W11.heap.size,0,none⟩) zn pk 3 3 (W11.alloc (.cells #[.slice B1 l1.length d1,.slice B2 l2.length d2,.slice B3 l3.length d3] 22)) (((Sees.of_own HI11.out).below hba).more hba.size) hsl (la _) (by rw [hp3];rfl) HPK.out.2.2.2 (by omega) (by have:=HPK.out.1;omega) (by have:=HPK.out.2.1;omega)
  rw [hp3] at this
  exact this
 clear HI11 HO1 HO2' HO3 K1 K2 K3 hba hz12
 go_wp2_with fail
 refine CP.out.mono ?_
 rintro e W13 ⟨A13,d13,rfl,ho13,hb13⟩
 have B13:=qH (B12.out.trans (hb13.mono B12.out.size))
 have HS13:=qH (Sees.of_own ho13)
 have hpl:(zD zn pk).length+3≤700003:=by have:=HPK.out.2.2.1;rw [HEC.out] at this;simp at this;omega
 obtain ⟨ps,hps⟩:∃ps,zD zn pk=ps:=⟨_,rfl⟩
 rw [hps] at HS13 HEC hpl⊢
 clear CP B11 B12 ho13 hb13 HPK HPP hps
 generalize (W11.alloc (.cells #[.slice B1 l1.length d1,.slice B2 l2.length d2,.slice B3 l3.length d3] 22))=W12 at*
 go_upto_region 11 with fail
 have HAL:Hid (∀W:World,(W.alloc (.cells #[.int .u8 82,.int .u8 67,.int .u8 1] 5)).ownsRow W.heap.size 5 1 (.slice (some ⟨W.heap.size,0,none⟩) 3 3) 3 (bts [82,67,1])):=fun W=>⟨rfl,.inr ⟨W.heap.size,3,_,rfl,la _,Row.new W _ _,by decide,by decide,rfl,rfl⟩⟩
 go_region_law (refine yt _ rfl (.tmp 38) (.tmp 39) 22 rfl W13.heap.size 5 i0 (.int .u8 0) 1 1 Tryz.underlying22 hi0 hz0 hz1 hz2 rfl (by decide) (.slice (some ⟨W13.heap.size,0,none⟩) 3 3) 3 (bts [82,67,1]) rfl (HAL.out _) W13.heap.size A13 ps.length d13 (bts ps) rfl (HS13.out.alloc (la _) _) (by rw [zg,Nat.mul_one]) (ye _) (by unfold maxLen;omega) (by omega) (by simp) ?_;intro vr W15 ho15 hg15 _)
 all_goals
  have hbf:Below w.heap.size w W15:=((B13.out.alloc B13.out.size (.cells #[.int .u8 82,.int .u8 67,.int .u8 1] 5)).drew).grown hg15 (by simp;have:=B13.out.size;omega) (fun k hk=>by simp [Value.ownBlock] at hk;subst hk;exact B13.out.size)
  have e1:3+ps.length=ec.length:=by rw [HEC.out];simp;omega
  have e2:bts [82,67,1]++bts ps=bts ec:=by rw [←yx,HEC.out]
  rw [e1,e2] at ho15
  obtain ⟨Ar,kr,rfl,_,_⟩:=yi ho15 (zg _)
  have HF:=qH (And.intro (jo ho15 B13.out.size) hbf)
  clear ho15 hg15 hbf e1 e2
  go_wp2
  go_ret2
  rw [HE0.out]
  first|exact ⟨HF.out.2,.inl ⟨rfl,Ar,kr,rfl,HF.out.1⟩⟩|exact ⟨HF.out.2,Ar,kr,rfl,HF.out.1⟩
end Go.Proofs.YtnifhpbgmjcndaaGreat
namespace Go.Proofs.YtnifhpbgmjcndaaGreat
end Go.Proofs.YtnifhpbgmjcndaaGreat
