/- The reference of layer 16: Few, Valid. -/
import Derived.Test.YtnifhpbgmjcndaaGreatPk16
import Derived.Test.YtnifhpbgmjcndaaGreatEdRef
set_option linter.unusedVariables false
set_option linter.unusedSimpArgs false
set_option maxRecDepth 100000
set_option maxHeartbeats 4000000
namespace Go.Proofs.YtnifhpbgmjcndaaGreat
open Go.RowKit
structure CeK(w:World)(cb:Nat)(A1:Option Addr)(k1:Nat)(A2:Option Addr)(k2:Nat)(A3:Option Addr)(k3:Nat)(c:Ct)(W:World):Prop where
 blw:Below w.heap.size w W
 row:Row W cb 31 #[.int .i64 c.sa,.int .i64 c.sr,.slice A1 c.bs.length k1,.int .i64 c.ta,.int .i64 c.tr,.int .i64 c.ts,.slice A2 c.ms.length k2,.slice A3 c.inv.length k3]
 see:CeAt W w.heap.size A1 k1 A2 k2 A3 k3 c
theorem CeK.next{w W W':World}{cb:Nat}{A1:Option Addr}{k1:Nat}{A2:Option Addr}{k2:Nat}{A3:Option Addr}{k3:Nat}{c:Ct}(h:CeK w cb A1 k1 A2 k2 A3 k3 c W)(hb:Below W.heap.size W W'):CeK w cb A1 k1 A2 k2 A3 k3 c W':=
 ⟨h.blw.trans (hb.mono h.blw.size),h.row.below hb h.row.lt,h.see.below (hb.mono h.blw.size)⟩
theorem CeK.alloc{w W:World}{cb:Nat}{A1:Option Addr}{k1:Nat}{A2:Option Addr}{k2:Nat}{A3:Option Addr}{k3:Nat}{c:Ct}(h:CeK w cb A1 k1 A2 k2 A3 k3 c W)(o:Obj):CeK w cb A1 k1 A2 k2 A3 k3 c (W.alloc o):=h.next ((Below.refl _ _).alloc (Nat.le_refl _) o)
theorem CeK.start{w:World}{A1:Option Addr}{k1:Nat}{A2:Option Addr}{k2:Nat}{A3:Option Addr}{k3:Nat}{c:Ct}(h:CeAt w w.heap.size A1 k1 A2 k2 A3 k3 c):CeK w w.heap.size A1 k1 A2 k2 A3 k3 c (w.alloc (.cells #[.int .i64 c.sa,.int .i64 c.sr,.slice A1 c.bs.length k1,.int .i64 c.ta,.int .i64 c.tr,.int .i64 c.ts,.slice A2 c.ms.length k2,.slice A3 c.inv.length k3] 31)):=by
 have hb:=(Below.refl w.heap.size w).alloc (Nat.le_refl _) (.cells #[.int .i64 c.sa,.int .i64 c.sr,.slice A1 c.bs.length k1,.int .i64 c.ta,.int .i64 c.tr,.int .i64 c.ts,.slice A2 c.ms.length k2,.slice A3 c.inv.length k3] 31)
 exact ⟨hb,Row.new w _ _,h.below hb⟩
structure SmC(c:Ct):Prop where
 f:FewF c.sr c.bs
 m:FewM c.tr c.ts c.ms
 n:c.inv.length≤40
 l:∀x∈c.inv,x.length≤400
def SmC.P(c:Ct)(w:World)(e:Ending)(w':World):Prop:=(∃b,e= .returned (.bool b)∧(b=true→SmC c))∧Below w.heap.size w w'
theorem Yh{A1:Option Addr}{k1:Nat}{A2:Option Addr}{k2:Nat}{A3:Option Addr}{k3:Nat}{c:Ct}(w:World)(h:CeAt w w.heap.size A1 k1 A2 k2 A3 k3 c):
  Calls Tryz.prog 9 #[.agg #[.int .i64 c.sa,.int .i64 c.sr,.slice A1 c.bs.length k1,.int .i64 c.ta,.int .i64 c.tr,.int .i64 c.ts,.slice A2 c.ms.length k2,.slice A3 c.inv.length k3]] w (SmC.P c w):=by
 have HK:=qH (CeK.start h)
 have hm1:c.bs.length≤maxLen:=Nat.le_trans h.l1.1 h.l1.2
 have hm2:c.ms.length≤maxLen:=Nat.le_trans h.l2.1 h.l2.2
 have hm3:c.inv.length≤maxLen:=Nat.le_trans h.l3.1 h.l3.2
 clear h
 go_enter Tryz.func9,Tryz.ntmps9
 go_upto_region 1 with fail
 generalize (w.alloc (.cells #[.int .i64 c.sa,.int .i64 c.sr,.slice A1 c.bs.length k1,.int .i64 c.ta,.int .i64 c.tr,.int .i64 c.ts,.slice A2 c.ms.length k2,.slice A3 c.inv.length k3] 31))=W0 at*
 have c0:=HK.out.row.k0;have c1:=HK.out.row.k1;have c2:=HK.out.row.k2;have c3:=HK.out.row.k3
 have c4:=HK.out.row.k4;have c5:=HK.out.row.k5;have c6:=HK.out.row.k6;have c7:=HK.out.row.k7
 have C1:=qH (zfp _ A1 c.bs k1 c.sa c.sr W0 HK.out.see.bs HK.out.blw.size hm1)
 go_wp2_with fail
 refine C1.out.mono ?_
 rintro e W1 ⟨⟨b1,rfl,h1⟩,hb⟩
 have HK1:=qH (HK.out.next hb)
 clear c0 c1 c2 c3 c4 c5 c6 c7
 clear hb HK C1
 cases b1
 ·clear h1
  go_wp2
  go_ret
  exact ⟨⟨false,rfl,fun h=>by cases h⟩,HK1.out.blw⟩
 ·have H1:=qH (h1 rfl)
  clear h1
  have c0:=HK1.out.row.k0;have c1:=HK1.out.row.k1;have c2:=HK1.out.row.k2;have c3:=HK1.out.row.k3
  have c4:=HK1.out.row.k4;have c5:=HK1.out.row.k5;have c6:=HK1.out.row.k6;have c7:=HK1.out.row.k7
  have C2:=qH (zea _ A2 c.ms k2 c.ta c.tr c.ts W1 HK1.out.see.ms HK1.out.blw.size hm2)
  go_wp2_with fail
  refine C2.out.mono ?_
  rintro e W2 ⟨⟨b2,rfl,h2⟩,hb⟩
  have HK2:=qH (HK1.out.next hb)
  clear c0 c1 c2 c3 c4 c5 c6 c7
  clear hb HK1 C2
  cases b2
  ·clear h2
   go_wp2
   go_ret
   exact ⟨⟨false,rfl,fun h=>by cases h⟩,HK2.out.blw⟩
  ·have H2:=qH (h2 rfl)
   clear h2
   have c0:=HK2.out.row.k0;have c1:=HK2.out.row.k1;have c2:=HK2.out.row.k2;have c3:=HK2.out.row.k3
   have c4:=HK2.out.row.k4;have c5:=HK2.out.row.k5;have c6:=HK2.out.row.k6;have c7:=HK2.out.row.k7
   have C3:=qH (zcm _ A3 c.inv k3 W2 HK2.out.see.inv hm3)
   go_wp2_with fail
   refine C3.out.mono ?_
   rintro e W3 ⟨⟨b3,rfl,h3⟩,hG⟩
   have HK3:=qH (HK2.out.next hG.below)
   clear c0 c1 c2 c3 c4 c5 c6 c7
   clear hG HK2 C3
   have H3:=qH h3
   clear h3
   go_wp2
   go_ret
   exact ⟨⟨b3,rfl,fun hh=>⟨H1.out,H2.out,(H3.out hh).1,(H3.out hh).2⟩⟩,HK3.out.blw⟩
theorem Q7{A1:Option Addr}{k1:Nat}{A2:Option Addr}{k2:Nat}{A3:Option Addr}{k3:Nat}{c:Ct}(w:World)(h:CeAt w w.heap.size A1 k1 A2 k2 A3 k3 c)(hs:SmC c)(hw:c.Wf):
  Calls Tryz.prog 16 #[.agg #[.int .i64 c.sa,.int .i64 c.sr,.slice A1 c.bs.length k1,.int .i64 c.ta,.int .i64 c.tr,.int .i64 c.ts,.slice A2 c.ms.length k2,.slice A3 c.inv.length k3]] w fun e w'=>e= .returned (.int .i64 (zD c))∧Below w.heap.size w w':=by
 have HK:=qH (CeK.start h)
 have HV:Hid (zD c=if eF c.sa c.sr c.bs≠0 then eF c.sa c.sr c.bs else if eMF c.ta c.tr c.ts c.ms≠0 then eMF c.ta c.tr c.ts c.ms else if c.bs.length≠c.ms.length∨c.sa≠c.ta then 14 else zV c.inv c.bs.length c.sr c.tr c.ts):=rfl
 obtain ⟨⟨s1,s2,s3⟩,⟨s4,s5,s6,s7⟩,s8,s9⟩:=hs
 have S9:=qH s9
 have HWI:=qH hw.inv
 clear h hw s9
 go_enter Tryz.func16,Tryz.ntmps16
 go_upto_region 1 with fail
 generalize (w.alloc (.cells #[.int .i64 c.sa,.int .i64 c.sr,.slice A1 c.bs.length k1,.int .i64 c.ta,.int .i64 c.tr,.int .i64 c.ts,.slice A2 c.ms.length k2,.slice A3 c.inv.length k3] 31))=W0 at*
 have c0:=HK.out.row.k0;have c1:=HK.out.row.k1;have c2:=HK.out.row.k2;have c3:=HK.out.row.k3
 have c4:=HK.out.row.k4;have c5:=HK.out.row.k5;have c6:=HK.out.row.k6;have c7:=HK.out.row.k7
 have C1:=qH (U4 _ A1 c.bs k1 c.sa c.sr W0 HK.out.see.bs HK.out.blw.size (by omega) (by omega))
 generalize eF c.sa c.sr c.bs=e1 at*
 go_wp2_with fail
 refine C1.out.mono ?_
 rintro e W1 ⟨rfl,hb⟩
 have HK1:=qH (HK.out.next hb)
 clear c0 c1 c2 c3 c4 c5 c6 c7
 clear hb HK C1
 by_cases h1:e1=0
 ·have d1:(e1 !=0)=false:=by simp [h1]
  have HV1:Hid (zD c=if eMF c.ta c.tr c.ts c.ms≠0 then eMF c.ta c.tr c.ts c.ms else if c.bs.length≠c.ms.length∨c.sa≠c.ta then 14 else zV c.inv c.bs.length c.sr c.tr c.ts):=by show _=_;rw [HV.out,if_neg (by simpa using h1)]
  clear h1 HV
  have c0:=HK1.out.row.k0;have c1:=HK1.out.row.k1;have c2:=HK1.out.row.k2;have c3:=HK1.out.row.k3
  have c4:=HK1.out.row.k4;have c5:=HK1.out.row.k5;have c6:=HK1.out.row.k6;have c7:=HK1.out.row.k7
  have C2:=qH (Ui _ A2 c.ms k2 c.ta c.tr c.ts W1 HK1.out.see.ms HK1.out.blw.size (by omega) (by omega))
  generalize eMF c.ta c.tr c.ts c.ms=e2 at*
  go_wp2_with fail
  refine C2.out.mono ?_
  rintro e W2 ⟨rfl,hb⟩
  have HK2:=qH (HK1.out.next hb)
  clear c0 c1 c2 c3 c4 c5 c6 c7
  clear hb HK1 C2
  by_cases h2:e2=0
  ·have d2:(e2 !=0)=false:=by simp [h2]
   have HV2:Hid (zD c=if c.bs.length≠c.ms.length∨c.sa≠c.ta then 14 else zV c.inv c.bs.length c.sr c.tr c.ts):=by show _=_;rw [HV1.out,if_neg (by simpa using h2)]
   clear h2 HV1
   have c0:=HK2.out.row.k0;have c1:=HK2.out.row.k1;have c2:=HK2.out.row.k2;have c3:=HK2.out.row.k3
   have c4:=HK2.out.row.k4;have c5:=HK2.out.row.k5;have c6:=HK2.out.row.k6;have c7:=HK2.out.row.k7
   by_cases h3:c.bs.length=c.ms.length
   ·have d3:((c.bs.length:Int) !=(c.ms.length:Int))=false:=by simp [h3]
    by_cases h4:c.sa=c.ta
    ·have d4:(c.sa !=c.ta)=false:=by simp [h4]
     have HV3:Hid (zD c=zV c.inv c.bs.length c.sr c.tr c.ts):=by show _=_;rw [HV2.out,if_neg (by simp [h3,h4])]
     clear h3 h4 HV2
     have C3:=qH (zcn _ A3 c.inv k3 (c.bs.length:Int) c.sr c.tr c.ts W2 HK2.out.see.inv (by omega) (fun x hx=>by have:=S9.out x hx;omega) HWI.out)
     go_wp2_with fail
     refine C3.out.mono ?_
     rintro e W3 ⟨rfl,hG⟩
     have HK3:=qH (HK2.out.next hG.below)
     clear c0 c1 c2 c3 c4 c5 c6 c7
     clear hG HK2 C3
     go_wp2
     go_ret
     exact ⟨by rw [HV3.out];rfl,HK3.out.blw⟩
    ·have d4:(c.sa !=c.ta)=true:=by simp [h4]
     have HV3:Hid (zD c=14):=by show _=_;rw [HV2.out,if_pos (.inr h4)]
     clear h3 h4 HV2
     go_wp2
     go_ret
     exact ⟨by rw [HV3.out];rfl,HK2.out.blw⟩
   ·have d3:((c.bs.length:Int) !=(c.ms.length:Int))=true:=by simp;omega
    have HV3:Hid (zD c=14):=by show _=_;rw [HV2.out,if_pos (.inl h3)]
    clear h3 HV2
    go_wp2
    go_ret
    exact ⟨by rw [HV3.out];rfl,HK2.out.blw⟩
  ·have d2:(e2 !=0)=true:=by simp [h2]
   have HV2:Hid (zD c=e2):=by show _=_;rw [HV1.out,if_pos h2]
   clear h2 HV1
   go_wp2
   go_ret
   exact ⟨by rw [HV2.out];rfl,HK2.out.blw⟩
 ·have d1:(e1 !=0)=true:=by simp [h1]
  have HV1:Hid (zD c=e1):=by show _=_;rw [HV.out,if_pos h1]
  clear h1 HV
  go_wp2
  go_ret
  exact ⟨by rw [HV1.out];rfl,HK1.out.blw⟩
end Go.Proofs.YtnifhpbgmjcndaaGreat
