/- The walk of the statement on encoding and decoding (made by wip/lab/genccl.py). -/
import Derived.Test.YtnifhpbgmjcndaaGreatCcAwk
set_option linter.unusedVariables false
set_option linter.unusedSimpArgs false
set_option maxRecDepth 100000
set_option maxHeartbeats 16000000
namespace Go.Proofs.YtnifhpbgmjcndaaGreat
open Go.RowKit Go.Deep
theorem CertcodeBijection_walk(a0:Array Value)(w:World)(wc:IsCert w a0):
  Calls Tryz.prog 4 #[.agg a0] w fun e w'=>e= .returned (.bool true)∧Below w.heap.size w w':=by
 have mixed:Tryz.prog.follows .mixedOrders=true:=by kernel_rfl
 have AW:Hid (∀W,Calls Tryz.prog 8 #[] W fun e w'=>e= .returned (.bool true)∧Below W.heap.size W w'):=fun W=>ZP W
 obtain ⟨c,A1,k1,A2,k2,A3,k3,rfl,hce,hwf⟩:=wc
 have Hc1:=qH (CeK.start hce)
 have HWF:=qH hwf
 clear hce hwf
 go_enter Tryz.func4,Tryz.ntmps4
 go_upto_region 1 with fail
 generalize (w.alloc (.cells #[.int .i64 c.sa,.int .i64 c.sr,.slice A1 c.bs.length k1,.int .i64 c.ta,.int .i64 c.tr,.int .i64 c.ts,.slice A2 c.ms.length k2,.slice A3 c.inv.length k3] 31))=W0 at*
 go_wp2_with fail
 refine (AW.out _).mono ?_
 rintro e W1 ⟨rfl,hb⟩
 have Hc2:=qH (Hc1.out.next hb)
 clear Hc1
 clear hb
 have c0:=Hc2.out.row.k0;have c1:=Hc2.out.row.k1;have c2:=Hc2.out.row.k2;have c3:=Hc2.out.row.k3;have c4:=Hc2.out.row.k4;have c5:=Hc2.out.row.k5;have c6:=Hc2.out.row.k6;have c7:=Hc2.out.row.k7
 go_wp2_with fail
 refine (Yh W1 (Hc2.out.see.more Hc2.out.blw.size)).mono ?_
 rintro e W2 ⟨⟨bf,rfl,hF⟩,hb⟩
 have Hc3:=qH (Hc2.out.next hb)
 clear Hc2
 clear hb
 clear c0 c1 c2 c3 c4 c5 c6 c7
 by_cases hbf:bf=false
 ·subst hbf
  clear hF
  go_wp2_with fail
  refine (AW.out _).mono ?_
  rintro e W9 ⟨rfl,hb⟩
  go_wp2
  go_ret
  exact ⟨rfl,Hc3.out.blw.trans (hb.mono Hc3.out.blw.size)⟩
 obtain rfl:bf=true:=by cases bf;exact absurd rfl hbf;rfl
 have HSM:=qH (hF rfl)
 clear hF hbf
 have c0:=Hc3.out.row.k0;have c1:=Hc3.out.row.k1;have c2:=Hc3.out.row.k2;have c3:=Hc3.out.row.k3;have c4:=Hc3.out.row.k4;have c5:=Hc3.out.row.k5;have c6:=Hc3.out.row.k6;have c7:=Hc3.out.row.k7
 go_wp2_with fail
 refine (JK W2 (Hc3.out.see.more Hc3.out.blw.size) HSM.out HWF.out).mono ?_
 rintro e W3 ⟨hb,hcase⟩
 have Hc4:=qH (Hc3.out.next hb)
 clear Hc3
 clear hb
 clear c0 c1 c2 c3 c4 c5 c6 c7
 have c0:=Hc4.out.row.k0;have c1:=Hc4.out.row.k1;have c2:=Hc4.out.row.k2;have c3:=Hc4.out.row.k3;have c4:=Hc4.out.row.k4;have c5:=Hc4.out.row.k5;have c6:=Hc4.out.row.k6;have c7:=Hc4.out.row.k7
 have CV1:=qH (Q7 W3 (Hc4.out.see.more Hc4.out.blw.size) HSM.out HWF.out)
 rcases hcase with ⟨hv,Ab,kb,rfl,ho⟩|⟨hv,rfl⟩
 rotate_left
 ·obtain ⟨ve,hve⟩:∃y,zD c=y:=⟨_,rfl⟩
  rw [hve] at hv CV1⊢
  have d1:(ve !=0)=true:=by simp [hv]
  clear hve hv
  go_wp2_with fail
  refine CV1.out.mono ?_
  rintro e W4 ⟨rfl,hb⟩
  go_wp2
  go_ret
  exact ⟨rfl,Hc4.out.blw.trans (hb.mono Hc4.out.blw.size)⟩
 have HV:=qH (CV.of hv HSM.out (QH HWF.out))
 have HDE:=qH (UV hv HV.out.ci HV.out.cr HV.out.cl)
 rw [hv] at CV1
 have hcap:=zR ho
 have Hb5:=qH (Sees.of_own ho)
 clear hv ho
 go_wp2_with fail
 refine CV1.out.mono ?_
 rintro e W4 ⟨rfl,hb⟩
 have Hc6:=qH (Hc4.out.next hb)
 clear Hc4
 have Hb7:=qH ((Hb5.out.below hb).more hb.size)
 clear Hb5
 clear hb CV1
 clear c0 c1 c2 c3 c4 c5 c6 c7
 have CD:=qH (yZ Ab (zv c) kb W4 Hb7.out HV.out.byt (by have:=HV.out.size.2.2;omega) hcap.1 hcap.2)
 rw [HDE.out] at CD
 generalize (zv c).length=n at*
 go_wp2_with fail
 refine (CD.out).mono ?_
 rintro e W5 ⟨B1,j1,v1,B2,j2,v2,B3,j3,v3,rfl,n1,n2,n3,hb⟩
 have hal:=(Below.refl W5.heap.size W5).alloc (Nat.le_refl _) (.cells #[.int .i64 c.sa,.int .i64 c.sr,.slice B1 c.bs.length j1,.int .i64 c.ta,.int .i64 c.tr,.int .i64 c.ts,.slice B2 c.ms.length j2,.slice B3 c.inv.length j3] 31)
 have Hc8:=qH (Hc6.out.next hb)
 clear Hc6
 have Hb9:=qH ((Hb7.out.below hb).more hb.size)
 clear Hb7
 have Hc10:=qH (Hc8.out.next hal)
 clear Hc8
 have Hb11:=qH ((Hb9.out.below hal).more hal.size)
 clear Hb9
 have hcd:=J8 (c:=c) (inv:=c.inv) n1 n2 n3 HV.out.ok
 have Hd12:=qH (Row.new W5 31 #[.int .i64 c.sa,.int .i64 c.sr,.slice B1 c.bs.length j1,.int .i64 c.ta,.int .i64 c.tr,.int .i64 c.ts,.slice B2 c.ms.length j2,.slice B3 c.inv.length j3])
 have HdC13:=qH ((hcd.below hal).more hal.size)
 clear hb hal hcd n1 n2 n3
 go_upto_region 7 with fail
 generalize (W5.alloc (.cells #[.int .i64 c.sa,.int .i64 c.sr,.slice B1 c.bs.length j1,.int .i64 c.ta,.int .i64 c.tr,.int .i64 c.ts,.slice B2 c.ms.length j2,.slice B3 c.inv.length j3] 31))=W5n at*
 generalize W5.heap.size=bd at*
 have d0:=Hd12.out.k0;have d1:=Hd12.out.k1;have d2:=Hd12.out.k2;have d3:=Hd12.out.k3;have d4:=Hd12.out.k4;have d5:=Hd12.out.k5;have d6:=Hd12.out.k6;have d7:=Hd12.out.k7
 have c0:=Hc10.out.row.k0;have c1:=Hc10.out.row.k1;have c2:=Hc10.out.row.k2;have c3:=Hc10.out.row.k3;have c4:=Hc10.out.row.k4;have c5:=Hc10.out.row.k5;have c6:=Hc10.out.row.k6;have c7:=Hc10.out.row.k7
 go_wp2_with fail
 refine (JT (c:=c) (d:=c) W5n HdC13.out (Hc10.out.see.more Hc10.out.blw.size) ⟨by have:=HSM.out.f.1;omega,by have:=HSM.out.f.1;omega⟩ ⟨by have:=HSM.out.f.2.2;omega,by have:=HSM.out.f.2.2;omega⟩ ⟨by have:=HSM.out.m.1;omega,by have:=HSM.out.m.1;omega⟩ ⟨by have:=HSM.out.m.2.2.2;omega,by have:=HSM.out.m.2.2.2;omega⟩ ⟨by have:=HSM.out.n;omega,by have:=HSM.out.n;omega⟩ true (by simp)).mono ?_
 rintro e W6 ⟨rfl,hb⟩
 have HZ:=qH (Hc10.out.next hb)
 clear hb
 clear c0 c1 c2 c3 c4 c5 c6 c7
 clear d0 d1 d2 d3 d4 d5 d6 d7
 go_wp2
 go_ret
 exact ⟨rfl,HZ.out.blw⟩
end Go.Proofs.YtnifhpbgmjcndaaGreat
