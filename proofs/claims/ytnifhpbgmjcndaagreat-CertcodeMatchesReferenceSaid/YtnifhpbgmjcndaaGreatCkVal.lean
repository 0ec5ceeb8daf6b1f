/- The reference of layer 16: Few, Valid. -/
import Derived.Test.YtnifhpbgmjcndaaGreatPk16
import Derived.Test.YtnifhpbgmjcndaaGreatEdRef
set_option linter.unusedVariables false
set_option linter.unusedSimpArgs false
set_option maxRecDepth 100000
set_option maxHeartbeats 4000000
namespace Go.Proofs.YtnifhpbgmjcndaaGreat
open Go.RowKit
structure CeK(w:World)(cb:Nat)(A1:Option Addr)(k1:Nat)(A2:Option Addr)(k2:Nat)(A3:Option Addr)(k3:Nat)(c:Ct)(W:World):Prop where
 blw:Below w.heap.size w W
 row:Row W cb 31 #[.int .i64 c.sa,.int .i64 c.sr,.slice A1 c.bs.length k1,.int .i64 c.ta,.int .i64 c.tr,.int .i64 c.ts,.slice A2 c.ms.length k2,.slice A3 c.inv.length k3]
 see:CeAt W w.heap.size A1 k1 A2 k2 A3 k3 c
theorem CeK.next{w W W':World}{cb:Nat}{A1:Option Addr}{k1:Nat}{A2:Option Addr}{k2:Nat}{A3:Option Addr}{k3:Nat}{c:Ct}(h:CeK w cb A1 k1 A2 k2 A3 k3 c W)(hb:Below W.heap.size W W'):CeK w cb A1 k1 A2 k2 A3 k3 c W':=
 ⟨h.blw.trans (hb.mono h.blw.size),h.row.below hb h.row.lt,h.see.below (hb.mono h.blw.size)⟩
theorem CeK.start{w:World}{A1:Option Addr}{k1:Nat}{A2:Option Addr}{k2:Nat}{A3:Option Addr}{k3:Nat}{c:Ct}(h:CeAt w w.heap.size A1 k1 A2 k2 A3 k3 c):CeK w w.heap.size A1 k1 A2 k2 A3 k3 c (w.alloc (.cells #[.int .i64 c.sa,.int .i64 c.sr,.slice A1 c.bs.length k1,.int .i64 c.ta,.int .i64 c.tr,.int .i64 c.ts,.slice A2 c.ms.length k2,.slice A3 c.inv.length k3] 31)):=by
 have hb:=(ld w.heap.size w).alloc (la _) (.cells #[.int .i64 c.sa,.int .i64 c.sr,.slice A1 c.bs.length k1,.int .i64 c.ta,.int .i64 c.tr,.int .i64 c.ts,.slice A2 c.ms.length k2,.slice A3 c.inv.length k3] 31)
 exact ⟨hb,Row.new w _ _,h.below hb⟩
structure SmC(c:Ct):Prop where
 f:FewF c.sr c.bs
 m:FewM c.tr c.ts c.ms
 n:c.inv.length≤40
 l:∀x∈c.inv,x.length≤400
def SmC.P(c:Ct)(w:World)(e:Ending)(w':World):Prop:=(∃b,e= .returned (.bool b)∧(b=true→SmC c))∧Below w.heap.size w w'
theorem zcf{A1:Option Addr}{k1:Nat}{A2:Option Addr}{k2:Nat}{A3:Option Addr}{k3:Nat}{c:Ct}(w:World)(h:CeAt w w.heap.size A1 k1 A2 k2 A3 k3 c):
  Calls Tryz.prog 9 #[.agg #[.int .i64 c.sa,.int .i64 c.sr,.slice A1 c.bs.length k1,.int .i64 c.ta,.int .i64 c.tr,.int .i64 c.ts,.slice A2 c.ms.length k2,.slice A3 c.inv.length k3]] w (SmC.P c w):=by
 have HK:=qH (CeK.start h)
 have hm1:c.bs.length≤maxLen:=lf h.l1.1 h.l1.2
 have hm2:c.ms.length≤maxLen:=lf h.l2.1 h.l2.2
 have hm3:c.inv.length≤maxLen:=lf h.l3.1 h.l3.2
 clear h
 go_enter Tryz.func9,Tryz.ntmps9
 go_upto_region 1 with fail
 generalize (w.alloc (.cells #[.int .i64 c.sa,.int .i64 c.sr,.slice A1 c.bs.length k1,.int .i64 c.ta,.int .i64 c.tr,.int .i64 c.ts,.slice A2 c.ms.length k2,.slice A3 c.inv.length k3] 31))=W0 at*
 have c0:=HK.out.row.k0;have c1:=HK.out.row.k1;have c2:=HK.out.row.k2;have c3:=HK.out.row.k3
 have c4:=HK.out.row.k4;have c5:=HK.out.row.k5;have c6:=HK.out.row.k6;have c7:=HK.out.row.k7
 have C1:=qH (zfg _ A1 c.bs k1 c.sa c.sr W0 HK.out.see.bs HK.out.blw.size hm1)
 go_wp2_with fail
 refine C1.out.mono ?_
 rintro e W1 ⟨⟨b1,rfl,h1⟩,hb⟩
 have HK1:=qH (HK.out.next hb)
 clear c0 c1 c2 c3 c4 c5 c6 c7
 clear hb HK C1
 cases b1
 ·clear h1
  go_wp2
  go_ret
  exact ⟨⟨false,rfl,fun h=>by cases h⟩,HK1.out.blw⟩
 ·have H1:=qH (h1 rfl)
  clear h1
  have c0:=HK1.out.row.k0;have c1:=HK1.out.row.k1;have c2:=HK1.out.row.k2;have c3:=HK1.out.row.k3
  have c4:=HK1.out.row.k4;have c5:=HK1.out.row.k5;have c6:=HK1.out.row.k6;have c7:=HK1.out.row.k7
  have C2:=qH (zd4 _ A2 c.ms k2 c.ta c.tr c.ts W1 HK1.out.see.ms HK1.out.blw.size hm2)
  go_wp2_with fail
  refine C2.out.mono ?_
  rintro e W2 ⟨⟨b2,rfl,h2⟩,hb⟩
  have HK2:=qH (HK1.out.next hb)
  clear c0 c1 c2 c3 c4 c5 c6 c7
  clear hb HK1 C2
  cases b2
  ·clear h2
   go_wp2
   go_ret
   exact ⟨⟨false,rfl,fun h=>by cases h⟩,HK2.out.blw⟩
  ·have H2:=qH (h2 rfl)
   clear h2
   have c0:=HK2.out.row.k0;have c1:=HK2.out.row.k1;have c2:=HK2.out.row.k2;have c3:=HK2.out.row.k3
   have c4:=HK2.out.row.k4;have c5:=HK2.out.row.k5;have c6:=HK2.out.row.k6;have c7:=HK2.out.row.k7
   have C3:=qH (zce _ A3 c.inv k3 W2 HK2.out.see.inv hm3)
   go_wp2_with fail
   refine C3.out.mono ?_
   rintro e W3 ⟨⟨b3,rfl,h3⟩,hG⟩
   have HK3:=qH (HK2.out.next hG.below)
   clear c0 c1 c2 c3 c4 c5 c6 c7
   clear hG HK2 C3
   have H3:=qH h3
   clear h3
   go_wp2
   go_ret
   exact ⟨⟨b3,rfl,fun hh=>⟨H1.out,H2.out,(H3.out hh).1,(H3.out hh).2⟩⟩,HK3.out.blw⟩
end Go.Proofs.YtnifhpbgmjcndaaGreat
