import Derived.Test.YtnifhpbgmjcndaaGreatPk15
import Derived.Test.YtnifhpbgmjcndaaGreatPk26
set_option linter.unusedVariables false
set_option linter.unusedSimpArgs false
set_option maxRecDepth 100000
set_option maxHeartbeats 16000000
namespace Go.Proofs.YtnifhpbgmjcndaaGreat
open Go.RowKit
theorem zbC(B:Nat)(A A':Option Addr)(xs ys:List (List Pr))(c c':Nat)(w:World)(hs:SeesPP w B A xs)(hs':SeesPP w B A' ys)(hB:B≤w.heap.size)(hm:xs.length≤1000000)(hm':ys.length≤1000000):
  Calls Tryz.prog 52 #[.slice A xs.length c,.slice A' ys.length c'] w fun e w'=>e= .returned (.bool (decide (xs=ys)))∧Grew w w':=by
 have mixed:Tryz.prog.follows .mixedOrders=true:=by kernel_rfl
 have H1:=qH hs
 have H2:=qH hs'
 clear hs hs'
 obtain ⟨bb,hbb⟩:∃b,b=decide (xs=ys):=⟨_,rfl⟩
 rw [←hbb]
 have HBB:=qH hbb
 clear hbb
 by_cases hlen:xs.length=ys.length
 ·have HLE:=qH hlen
  have e1:((xs.length:Int) !=(ys.length:Int))=false:=by simp [hlen]
  have hle2:xs.length≤ys.length:=by omega
  clear hlen
  go_enter Tryz.func52,Tryz.ntmps52
  go_upto_region 3 with fail
  go_wp2
  go_loopg [5] xs.length (fun g s5 wr=>∃k:Nat,k+g=xs.length∧s5= .int .i64 (k:Int)∧Hid (xs.take k=ys.take k)∧Hid (Grew w wr))
  case atStart=>exact ⟨0,by omega,by go_num,rfl,Grew.refl w⟩
  case round=>
   obtain ⟨k,hgk,rfl,HT,HG⟩:=hrel
   by_cases hk:k<xs.length
   ·have hkz:(k:Int)<(xs.length:Int):=by omega
    have hk':k<ys.length:=by omega
    have hkz':(k:Int)<(ys.length:Int):=by omega
    have K1:=(H1.out.below (HG.out.below.mono hB))
    have K2:=(H2.out.below (HG.out.below.mono hB))
    obtain ⟨p1,o1,Ai,ci,rfl,hp1,q1,q11,q12,q13⟩:=K1.at_ hk
    obtain ⟨p2,o2,Aj,cj,rfl,hp2,q2,q21,q22,q23⟩:=K2.at_ hk'
    have hz:=HG.out.below.size
    obtain ⟨bk,hbk⟩:∃b,b=decide (xs[k]=ys[k]):=⟨_,rfl⟩
    have C2:Hid (∀(W:World) n os,wr=W→Calls Tryz.prog 109 #[.slice Ai xs[k].length ci,.slice Aj ys[k].length cj] (Go.Sort.grow (W.drewN n) os) fun e w'=>e= .returned (.bool bk)∧∃q os',w'=Go.Sort.grow ((Go.Sort.grow (W.drewN n) os).drewN q) os'):=fun W n os hW=>by
     subst hW
     have hg:Grew wr (Go.Sort.grow (wr.drewN n) os):=⟨n,os,rfl⟩
     have h:=zbO B Ai Aj xs[k] ys[k] ci cj (Go.Sort.grow (wr.drewN n) os) (q13.below (hg.below.mono (by omega))) (q23.below (hg.below.mono (by omega))) (lf q11 q12) (lf q21 q22)
     rw [←hbk] at h
     exact h
    have HBK:Hid (bk=decide (xs[k]=ys[k])):=hbk
    have HTT:Hid (bk=true→xs.take (k+1)=ys.take (k+1)):=fun h9=>by
     have h8:xs[k]=ys[k]:=of_decide_eq_true (by rw [←hbk];exact h9)
     rw [List.take_succ_eq_append_getElem hk,List.take_succ_eq_append_getElem hk',HT.out,h8]
    have HFF:Hid (bk=false→bb=false):=fun h9=>by
     rw [HBB.out]
     refine decide_eq_false fun e=> ?_
     have h8:¬xs[k]=ys[k]:=of_decide_eq_false (by rw [←hbk];exact h9)
     subst e
     exact h8 rfl
    clear hbk
    generalize xs[k].length=L at*
    generalize ys[k].length=L' at*
    have gq1:=fun n os=>Go.cell_grown (World.block_lt_of_cell? _ _ q1) q1 n os
    have gq2:=fun n os=>Go.cell_grown (World.block_lt_of_cell? _ _ q2) q2 n os
    clear q11 q12 q13 q21 q22 q23 HBK
    go_upto_region 6 with fail
    go_quiet_grown (first|(go_at_call 109;refine Calls.grown_of (C2.out _ _ _ rfl)))
    have HG2:Hid (Grew wr (Go.Sort.grow (wr.drewN nq) osq)):=⟨nq,osq,rfl⟩
    generalize Go.Sort.grow (wr.drewN nq) osq=W4 at*
    have HG4:=qH (HG.out.trans HG2.out)
    clear gq1 gq2 C2 q1 q2 K1 K2 HG HG2
    cases bk
    ·have HB0:=qH (HFF.out rfl)
     go_wp2
     go_ret
     exact ⟨by rw [HB0.out];rfl,HG4.out⟩
    ·have HT1:=qH (HTT.out rfl)
     go_wp2
     go_roundg (xs.length - (k+1))
     case measure=>omega
     case rel=>exact ⟨k+1,by omega,by go_num,HT1.out,HG4.out⟩
   ·have hkz:¬(k:Int)<(xs.length:Int):=by omega
    have HB1:Hid (bb=true):=by
     show _=_
     rw [HBB.out]
     refine decide_eq_true ?_
     have h9:=HT.out
     have h8:=HLE.out
     rw [List.take_of_length_le (by omega),List.take_of_length_le (by omega)] at h9
     exact h9
    go_wp2
    go_ret
    exact ⟨by rw [HB1.out];rfl,HG.out⟩
 ·have e1:((xs.length:Int) !=(ys.length:Int))=true:=by
   rw [bne_iff_ne]
   omega
  have HB0:Hid (bb=false):=by
   show _=_
   rw [HBB.out]
   exact decide_eq_false fun e=>hlen (by rw [e])
  clear hlen
  go_enter Tryz.func52,Tryz.ntmps52
  go_wp2
  go_ret
  exact ⟨by rw [HB0.out];rfl,Grew.refl w⟩
structure SmC3(w:World)(A1:Option Addr)(k1:Nat)(A2:Option Addr)(k2:Nat)(A3:Option Addr)(k3:Nat)(B1:Option Addr)(j1:Nat)(B2:Option Addr)(j2:Nat)(B3:Option Addr)(j3:Nat)(c d:Ct)(W:World):Prop where
 blw:Below w.heap.size w W
 r1:Row W w.heap.size 31 #[.int .i64 c.sa,.int .i64 c.sr,.slice A1 c.bs.length k1,.int .i64 c.ta,.int .i64 c.tr,.int .i64 c.ts,.slice A2 c.ms.length k2,.slice A3 c.inv.length k3]
 r2:Row W (w.heap.size+1) 31 #[.int .i64 d.sa,.int .i64 d.sr,.slice B1 d.bs.length j1,.int .i64 d.ta,.int .i64 d.tr,.int .i64 d.ts,.slice B2 d.ms.length j2,.slice B3 d.inv.length j3]
 s1:CeAt W w.heap.size A1 k1 A2 k2 A3 k3 c
 s2:CeAt W w.heap.size B1 j1 B2 j2 B3 j3 d
theorem SmC3.next{w W W':World}{A1:Option Addr}{k1:Nat}{A2:Option Addr}{k2:Nat}{A3:Option Addr}{k3:Nat}{c d:Ct}{B1:Option Addr}{j1:Nat}{B2:Option Addr}{j2:Nat}{B3:Option Addr}{j3:Nat}(h:SmC3 w A1 k1 A2 k2 A3 k3 B1 j1 B2 j2 B3 j3 c d W)(hb:Below W.heap.size W W'):SmC3 w A1 k1 A2 k2 A3 k3 B1 j1 B2 j2 B3 j3 c d W':=
 ⟨h.blw.trans (hb.mono h.blw.size),h.r1.below hb h.r1.lt,h.r2.below hb h.r2.lt,h.s1.below (hb.mono h.blw.size),h.s2.below (hb.mono h.blw.size)⟩
theorem ZJ{A1:Option Addr}{k1:Nat}{A2:Option Addr}{k2:Nat}{A3:Option Addr}{k3:Nat}{c d:Ct}{B1:Option Addr}{j1:Nat}{B2:Option Addr}{j2:Nat}{B3:Option Addr}{j3:Nat}(w:World)(h1:CeAt w w.heap.size A1 k1 A2 k2 A3 k3 c)(h2:CeAt w w.heap.size B1 j1 B2 j2 B3 j3 d)(hb:c.bs.length≤1000000∧d.bs.length≤1000000)(hn:zQ c.bs≤1000000∧zQ d.bs≤1000000)(hm:c.ms.length≤1000000∧d.ms.length≤1000000)(hc:zF c.ms≤1000000∧zF d.ms≤1000000)(hi:c.inv.length≤1000000∧d.inv.length≤1000000)(bb:Bool)(hbb:bb=true↔c=d):
  Calls Tryz.prog 14 #[.agg #[.int .i64 c.sa,.int .i64 c.sr,.slice A1 c.bs.length k1,.int .i64 c.ta,.int .i64 c.tr,.int .i64 c.ts,.slice A2 c.ms.length k2,.slice A3 c.inv.length k3],.agg #[.int .i64 d.sa,.int .i64 d.sr,.slice B1 d.bs.length j1,.int .i64 d.ta,.int .i64 d.tr,.int .i64 d.ts,.slice B2 d.ms.length j2,.slice B3 d.inv.length j3]] w fun e w'=>e= .returned (.bool bb)∧Below w.heap.size w w':=by
 have yes:∀P:Prop,∃b:Bool,b=true↔P:=fun P=>by by_cases h:P;exact ⟨true,by simp [h]⟩;exact ⟨false,by simp [h]⟩
 obtain ⟨b1,h1b⟩:=yes (c.sa=d.sa∧c.sr=d.sr∧c.bs=d.bs)
 obtain ⟨b2,h2b⟩:=yes (c.ta=d.ta∧c.tr=d.tr∧c.ts=d.ts∧c.ms=d.ms)
 obtain ⟨b3,h3b⟩:∃b,b=decide (c.inv=d.inv):=⟨_,rfl⟩
 have HB:Hid (bb=(b1 && b2 && b3)):=by
  show _=_
  rw [Bool.eq_iff_iff,hbb,Bool.and_eq_true,Bool.and_eq_true,h1b,h2b,h3b,decide_eq_true_iff]
  constructor
  ·rintro rfl;exact ⟨⟨⟨rfl,rfl,rfl⟩,rfl,rfl,rfl,rfl⟩,rfl⟩
  ·rintro ⟨⟨⟨e1,e2,e3⟩,e4,e5,e6,e7⟩,e8⟩
   cases c;cases d;simp_all
 have H1B:=qH h1b;have H2B:=qH h2b;have H3B:=qH h3b
 clear hbb yes h1b h2b h3b
 have HS0:Hid (SmC3 w A1 k1 A2 k2 A3 k3 B1 j1 B2 j2 B3 j3 c d ((w.alloc (.cells #[.int .i64 c.sa,.int .i64 c.sr,.slice A1 c.bs.length k1,.int .i64 c.ta,.int .i64 c.tr,.int .i64 c.ts,.slice A2 c.ms.length k2,.slice A3 c.inv.length k3] 31)).alloc (.cells #[.int .i64 d.sa,.int .i64 d.sr,.slice B1 d.bs.length j1,.int .i64 d.ta,.int .i64 d.tr,.int .i64 d.ts,.slice B2 d.ms.length j2,.slice B3 d.inv.length j3] 31))):=by
  have hb1:=(ld w.heap.size w).alloc (la _) (.cells #[.int .i64 c.sa,.int .i64 c.sr,.slice A1 c.bs.length k1,.int .i64 c.ta,.int .i64 c.tr,.int .i64 c.ts,.slice A2 c.ms.length k2,.slice A3 c.inv.length k3] 31)
  have hb2:=(hb1.alloc hb1.size (.cells #[.int .i64 d.sa,.int .i64 d.sr,.slice B1 d.bs.length j1,.int .i64 d.ta,.int .i64 d.tr,.int .i64 d.ts,.slice B2 d.ms.length j2,.slice B3 d.inv.length j3] 31))
  have q1:=(Row.new w 31 #[.int .i64 c.sa,.int .i64 c.sr,.slice A1 c.bs.length k1,.int .i64 c.ta,.int .i64 c.tr,.int .i64 c.ts,.slice A2 c.ms.length k2,.slice A3 c.inv.length k3]).alloc (.cells #[.int .i64 d.sa,.int .i64 d.sr,.slice B1 d.bs.length j1,.int .i64 d.ta,.int .i64 d.tr,.int .i64 d.ts,.slice B2 d.ms.length j2,.slice B3 d.inv.length j3] 31)
  have q2:=Row.new (w.alloc (.cells #[.int .i64 c.sa,.int .i64 c.sr,.slice A1 c.bs.length k1,.int .i64 c.ta,.int .i64 c.tr,.int .i64 c.ts,.slice A2 c.ms.length k2,.slice A3 c.inv.length k3] 31)) 31 #[.int .i64 d.sa,.int .i64 d.sr,.slice B1 d.bs.length j1,.int .i64 d.ta,.int .i64 d.tr,.int .i64 d.ts,.slice B2 d.ms.length j2,.slice B3 d.inv.length j3]
  simp only [World.size_alloc] at q2
  exact ⟨hb2,q1,q2,h1.below hb2,h2.below hb2⟩
 clear h1 h2
 go_enter Tryz.func14,Tryz.ntmps14
 go_upto_region 1 with fail
 generalize ((w.alloc (.cells #[.int .i64 c.sa,.int .i64 c.sr,.slice A1 c.bs.length k1,.int .i64 c.ta,.int .i64 c.tr,.int .i64 c.ts,.slice A2 c.ms.length k2,.slice A3 c.inv.length k3] 31)).alloc (.cells #[.int .i64 d.sa,.int .i64 d.sr,.slice B1 d.bs.length j1,.int .i64 d.ta,.int .i64 d.tr,.int .i64 d.ts,.slice B2 d.ms.length j2,.slice B3 d.inv.length j3] 31))=W0 at*
 have c0:=HS0.out.r1.k0;have c1:=HS0.out.r1.k1;have c2:=HS0.out.r1.k2;have c3:=HS0.out.r1.k3
 have c4:=HS0.out.r1.k4;have c5:=HS0.out.r1.k5;have c6:=HS0.out.r1.k6;have c7:=HS0.out.r1.k7
 have d0:=HS0.out.r2.k0;have d1:=HS0.out.r2.k1;have d2:=HS0.out.r2.k2;have d3:=HS0.out.r2.k3
 have d4:=HS0.out.r2.k4;have d5:=HS0.out.r2.k5;have d6:=HS0.out.r2.k6;have d7:=HS0.out.r2.k7
 have C1:=qH (zcK _ A1 B1 c.bs d.bs k1 j1 c.sa c.sr d.sa d.sr W0 HS0.out.s1.bs HS0.out.s2.bs HS0.out.blw.size hb.1 hb.2 hn.1 hn.2 b1 H1B.out)
 go_wp2_with fail
 refine C1.out.mono ?_
 rintro e W1 ⟨rfl,hb1⟩
 have HS1:=qH (HS0.out.next hb1)
 clear c0 c1 c2 c3 c4 c5 c6 c7 d0 d1 d2 d3 d4 d5 d6 d7
 clear hb1 HS0 C1
 cases b1
 ·have HE:Hid (bb=false):=HB.out
  clear HB H1B
  go_wp2
  go_ret
  exact ⟨by rw [HE.out];rfl,HS1.out.blw⟩
 have c0:=HS1.out.r1.k0;have c1:=HS1.out.r1.k1;have c2:=HS1.out.r1.k2;have c3:=HS1.out.r1.k3
 have c4:=HS1.out.r1.k4;have c5:=HS1.out.r1.k5;have c6:=HS1.out.r1.k6;have c7:=HS1.out.r1.k7
 have d0:=HS1.out.r2.k0;have d1:=HS1.out.r2.k1;have d2:=HS1.out.r2.k2;have d3:=HS1.out.r2.k3
 have d4:=HS1.out.r2.k4;have d5:=HS1.out.r2.k5;have d6:=HS1.out.r2.k6;have d7:=HS1.out.r2.k7
 have C2:=qH (zcL _ A2 B2 c.ms d.ms k2 j2 c.ta c.tr c.ts d.ta d.tr d.ts W1 HS1.out.s1.ms HS1.out.s2.ms HS1.out.blw.size hm.1 hm.2 hc.1 hc.2 b2 H2B.out)
 go_wp2_with fail
 refine C2.out.mono ?_
 rintro e W2 ⟨rfl,hb2⟩
 have HS2:=qH (HS1.out.next hb2)
 clear c0 c1 c2 c3 c4 c5 c6 c7 d0 d1 d2 d3 d4 d5 d6 d7
 clear hb2 HS1 C2
 cases b2
 ·have HE:Hid (bb=false):=HB.out
  clear HB H2B
  go_wp2
  go_ret
  exact ⟨by rw [HE.out];rfl,HS2.out.blw⟩
 have c0:=HS2.out.r1.k0;have c1:=HS2.out.r1.k1;have c2:=HS2.out.r1.k2;have c3:=HS2.out.r1.k3
 have c4:=HS2.out.r1.k4;have c5:=HS2.out.r1.k5;have c6:=HS2.out.r1.k6;have c7:=HS2.out.r1.k7
 have d0:=HS2.out.r2.k0;have d1:=HS2.out.r2.k1;have d2:=HS2.out.r2.k2;have d3:=HS2.out.r2.k3
 have d4:=HS2.out.r2.k4;have d5:=HS2.out.r2.k5;have d6:=HS2.out.r2.k6;have d7:=HS2.out.r2.k7
 have C3:=qH (zbC _ A3 B3 c.inv d.inv k3 j3 W2 HS2.out.s1.inv HS2.out.s2.inv HS2.out.blw.size hi.1 hi.2)
 rw [←H3B.out] at C3
 go_wp2_with fail
 refine C3.out.mono ?_
 rintro e W3 ⟨rfl,hb3⟩
 have HS3:=qH (HS2.out.next hb3.below)
 clear c0 c1 c2 c3 c4 c5 c6 c7 d0 d1 d2 d3 d4 d5 d6 d7
 clear hb3 HS2 C3
 have HE:Hid (bb=b3):=HB.out
 clear HB H3B
 go_wp2
 go_ret
 exact ⟨by rw [HE.out];rfl,HS3.out.blw⟩
end Go.Proofs.YtnifhpbgmjcndaaGreat
