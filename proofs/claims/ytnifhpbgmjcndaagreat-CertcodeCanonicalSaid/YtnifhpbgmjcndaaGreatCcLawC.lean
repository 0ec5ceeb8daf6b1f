/- The walk of the statement on what is decoded (made by wip/lab/genccl.py). -/
import Derived.Test.YtnifhpbgmjcndaaGreatCcAwk
import Derived.Test.YtnifhpbgmjcndaaGreatCcRe
import Derived.Test.YtnifhpbgmjcndaaGreatPk3
set_option linter.unusedVariables false
set_option linter.unusedSimpArgs false
set_option linter.unusedSectionVars false
set_option maxRecDepth 100000
set_option maxHeartbeats 16000000
namespace Go.Proofs.YtnifhpbgmjcndaaGreat
open Go.RowKit Go.Deep
theorem CertcodeCanonical_walk(a0:Option Addr)(len0 cap0:Nat)(z0:List Int)(w:World)(w0:IsRow .u8 w a0 len0 cap0 z0):
  Calls Tryz.prog 5 #[.slice a0 len0 cap0] w fun e w'=>e= .returned (.bool true)∧Below w.heap.size w w':=by
 have mixed:Tryz.prog.follows .mixedOrders=true:=by kernel_rfl
 have AW:Hid (∀W,Calls Tryz.prog 8 #[] W fun e w'=>e= .returned (.bool true)∧Below W.heap.size W w'):=fun W=>JT W
 obtain ⟨l,rfl,hby,hs,hlc,hcm⟩:=w0.bytes
 clear w0
 have Hb1:=Lib.hid (hs)
 have Hw2:=Lib.hid (Below.refl w.heap.size w)
 clear hs
 go_enter Tryz.func5,Tryz.ntmps5
 by_cases hlong:3000<l.length
 ·have hlo:(3000:Int)<(l.length:Int):=by omega
  go_wp2_with fail
  refine (AW.out _).mono ?_
  rintro e W1 ⟨rfl,hb⟩
  go_wp2_with fail
  refine (AW.out _).mono ?_
  rintro e W9 ⟨rfl,hb9⟩
  go_wp2
  go_ret
  exact ⟨rfl,hb.trans (hb9.mono hb.size)⟩
 have hlo:¬(3000:Int)<(l.length:Int):=by omega
 obtain ⟨⟨c,er⟩,hd⟩:∃y,jp l=y:=⟨_,rfl⟩
 have hle:=Q4 l
 rw [hd] at hle
 have HDS:=Lib.hid (zeB hby (by omega) hd)
 have HLE:=Lib.hid hle
 have HD:=Lib.hid hd
 have HBY:=Lib.hid hby
 clear hd hle hby
 go_wp2_with fail
 refine (AW.out _).mono ?_
 rintro e W1 ⟨rfl,hb⟩
 have Hb3:=Lib.hid ((Hb1.out.below hb).more hb.size)
 clear Hb1
 have Hw4:=Lib.hid (Hw2.out.trans (hb.mono Hw2.out.size))
 clear Hw2
 clear hb
 have CD:=Lib.hid (yL a0 l cap0 W1 Hb3.out HBY.out (by omega) hlc hcm)
 rw [HD.out] at CD
 skip
 go_wp2_with fail
 refine (CD.out).mono ?_
 rintro e W2 ⟨B1,j1,v1,B2,j2,v2,B3,j3,v3,rfl,n1,n2,n3,hb⟩
 have hal:=(Below.refl W2.heap.size W2).alloc (Nat.le_refl _) (.cells #[.int .i64 c.sa,.int .i64 c.sr,.slice B1 c.bs.length j1,.int .i64 c.ta,.int .i64 c.tr,.int .i64 c.ts,.slice B2 c.ms.length j2,.slice B3 c.inv.length j3] 31)
 have Hb5:=Lib.hid ((Hb3.out.below hb).more hb.size)
 clear Hb3
 have Hw6:=Lib.hid (Hw4.out.trans (hb.mono Hw4.out.size))
 clear Hw4
 have Hb7:=Lib.hid ((Hb5.out.below hal).more hal.size)
 clear Hb5
 have Hw8:=Lib.hid (Hw6.out.trans (hal.mono Hw6.out.size))
 clear Hw6
 have hcd:=JI (c:=c) (inv:=c.inv) n1 n2 n3 HDS.out.2
 have Hd9:=Lib.hid (Row.new W2 31 #[.int .i64 c.sa,.int .i64 c.sr,.slice B1 c.bs.length j1,.int .i64 c.ta,.int .i64 c.tr,.int .i64 c.ts,.slice B2 c.ms.length j2,.slice B3 c.inv.length j3])
 have HdC10:=Lib.hid ((hcd.below hal).more hal.size)
 clear hb hal hcd n1 n2 n3
 go_upto_region 4 with fail
 generalize (W2.alloc (.cells #[.int .i64 c.sa,.int .i64 c.sr,.slice B1 c.bs.length j1,.int .i64 c.ta,.int .i64 c.tr,.int .i64 c.ts,.slice B2 c.ms.length j2,.slice B3 c.inv.length j3] 31))=W2n at*
 generalize W2.heap.size=bd at*
 by_cases he:er≠0
 ·have d0:=Hd9.out.cell 0;have d1:=Hd9.out.cell 1;have d2:=Hd9.out.cell 2;have d3:=Hd9.out.cell 3;have d4:=Hd9.out.cell 4;have d5:=Hd9.out.cell 5;have d6:=Hd9.out.cell 6;have d7:=Hd9.out.cell 7
  simp only [List.getElem?_toArray,List.getElem?_cons_zero,List.getElem?_cons_succ] at d0 d1 d2 d3 d4 d5 d6 d7
  have hz:c=zCt:=HLE.out.2 he
  have h9:=HLE.out.1
  have d0:(er !=0)=true:=by simp [he]
  have q1:(1:Int)≤er:=by unfold LE at h9;omega
  have q2:er≤16:=by unfold LE at h9;omega
  have q3:(er !=12)=true:=by unfold LE at h9;simp;omega
  have q4:(er !=13)=true:=by unfold LE at h9;simp;omega
  have CS:Hid (Calls Tryz.prog 14 #[.agg #[.int .i64 c.sa,.int .i64 c.sr,.slice B1 c.bs.length j1,.int .i64 c.ta,.int .i64 c.tr,.int .i64 c.ts,.slice B2 c.ms.length j2,.slice B3 c.inv.length j3],.agg #[.int .i64 0,.int .i64 0,.slice none 0 0,.int .i64 0,.int .i64 0,.int .i64 0,.slice none 0 0,.slice none 0 0]] W2n fun e w'=>e= .returned (.bool true)∧Below W2n.heap.size W2n w'):=Jm (c:=c) (d:=zCt) W2n HdC10.out (zgX W2n) ⟨Nat.le_trans HDS.out.1.1 (by decide),by decide⟩ ⟨HDS.out.1.2.1,by decide⟩ ⟨Nat.le_trans HDS.out.1.2.2.1 (by decide),by decide⟩ ⟨HDS.out.1.2.2.2.1,by decide⟩ ⟨HDS.out.1.2.2.2.2,by decide⟩ true (by simp [hz])
  clear he hz h9
  go_wp2_with fail
  refine CS.out.mono ?_
  rintro e W4 ⟨rfl,hb⟩
  have HZ:=Lib.hid (Hw8.out.trans (hb.mono Hw8.out.size))
  clear hb
  go_wp2
  go_ret
  exact ⟨rfl,HZ.out⟩
 obtain rfl:er=0:=by omega
 clear he
 obtain ⟨hv,hcv,hsw,hpw,hl⟩:=CV.dec HBY.out (by omega) HD.out
 have HV:=Lib.hid hv;have HCV:=Lib.hid hcv;have HSW:=Lib.hid hsw;have HPW:=Lib.hid hpw;have HL:=Lib.hid hl
 clear hv hcv hsw hpw hl
 have d0:=Hd9.out.k0;have d1:=Hd9.out.k1;have d2:=Hd9.out.k2;have d3:=Hd9.out.k3;have d4:=Hd9.out.k4;have d5:=Hd9.out.k5;have d6:=Hd9.out.k6;have d7:=Hd9.out.k7
 go_wp2_with fail
 refine (U9 W2n HdC10.out HSW.out HPW.out (fun _=>HCV.out)).mono ?_
 rintro e W3 ⟨hb,⟨_,Ae,ke,rfl,ho⟩|⟨h9,_⟩⟩
 rotate_left
 ·exact absurd HV.out h9
 have Hb11:=Lib.hid ((Hb7.out.below hb).more hb.size)
 clear Hb7
 have Hd12:=Lib.hid (Hd9.out.below hb Hd9.out.lt)
 clear Hd9
 have HdC13:=Lib.hid ((HdC10.out.below hb).more hb.size)
 clear HdC10
 have Hw14:=Lib.hid (Hw8.out.trans (hb.mono Hw8.out.size))
 clear Hw8
 clear hb
 clear d0 d1 d2 d3 d4 d5 d6 d7
 have d0:=Hd12.out.k0;have d1:=Hd12.out.k1;have d2:=Hd12.out.k2;have d3:=Hd12.out.k3;have d4:=Hd12.out.k4;have d5:=Hd12.out.k5;have d6:=Hd12.out.k6;have d7:=Hd12.out.k7
 have hcap:=zO ho
 have He15:=Lib.hid (Sees.of_own ho)
 clear ho
 have CV1:=Lib.hid (U8 W3 HdC13.out HSW.out HPW.out)
 rw [HV.out] at CV1
 go_wp2_with fail
 refine CV1.out.mono ?_
 rintro e W4 ⟨rfl,hb⟩
 have Hb16:=Lib.hid ((Hb11.out.below hb).more hb.size)
 clear Hb11
 have Hd17:=Lib.hid (Hd12.out.below hb Hd12.out.lt)
 clear Hd12
 have HdC18:=Lib.hid ((HdC13.out.below hb).more hb.size)
 clear HdC13
 have He19:=Lib.hid ((He15.out.below hb).more hb.size)
 clear He15
 have Hw20:=Lib.hid (Hw14.out.trans (hb.mono Hw14.out.size))
 clear Hw14
 clear hb CV1
 clear d0 d1 d2 d3 d4 d5 d6 d7
 have CS:=Lib.hid (QQ (zv c) l true (zv c).length l.length W4.heap.size Ae a0 ke cap0 W4 (by rw [←HL.out];exact Zh l) rfl rfl (by rw [←HL.out];unfold maxLen;omega) (by unfold maxLen;omega) He19.out Hb16.out)
 go_wp2_with fail
 refine CS.out.mono ?_
 rintro e W5 ⟨rfl,n5,h5⟩
 have HZ:=Lib.hid (Hw20.out.trans ((h5 ▸ je (Below.refl W4.heap.size W4) n5:Below W4.heap.size W4 W5).mono Hw20.out.size))
 clear h5
 go_wp2
 go_ret
 exact ⟨rfl,HZ.out⟩
end Go.Proofs.YtnifhpbgmjcndaaGreat
