/- The walk of the statement on the reference (made by wip/lab/genccl.py). -/
import Derived.Test.YtnifhpbgmjcndaaGreatCcAwk
import Derived.Test.YtnifhpbgmjcndaaGreatCcRe
import Derived.Test.YtnifhpbgmjcndaaGreatCcRd
set_option linter.unusedVariables false
set_option linter.unusedSimpArgs false
set_option maxRecDepth 100000
set_option maxHeartbeats 16000000
namespace Go.Proofs.YtnifhpbgmjcndaaGreat
open Go.RowKit Go.Deep
theorem CertcodeMatchesReference_walk(a0:Option Addr)(len0 cap0:Nat)(z0:List Int)(a1:Array Value)(w:World)(w0:IsRow .u8 w a0 len0 cap0 z0)(wc:IsCert w a1):
  Calls Tryz.prog 3 #[.slice a0 len0 cap0,.agg a1] w fun e w'=>e= .returned (.bool true)∧Below w.heap.size w w':=by
 have mixed:Tryz.prog.follows .mixedOrders=true:=by kernel_rfl
 have AW:Hid (∀W,Calls Tryz.prog 8 #[] W fun e w'=>e= .returned (.bool true)∧Below W.heap.size W w'):=fun W=>zbE W
 obtain ⟨l,rfl,hby,hs,hlc,hcm⟩:=w0.bytes
 clear w0
 obtain ⟨c,A1,k1,A2,k2,A3,k3,rfl,hce,hwf⟩:=wc
 have Hc1:=qH (CeK.start hce)
 have HWF:=qH hwf
 clear hce hwf
 have hal0:=(ld w.heap.size w).alloc (la _) (.cells #[.int .i64 c.sa,.int .i64 c.sr,.slice A1 c.bs.length k1,.int .i64 c.ta,.int .i64 c.tr,.int .i64 c.ts,.slice A2 c.ms.length k2,.slice A3 c.inv.length k3] 31)
 have Hb2:=qH ((hs.below hal0).more hal0.size)
 clear hs hal0
 have HBY:=qH hby
 clear hby
 go_enter Tryz.func3,Tryz.ntmps3
 go_upto_region 1 with fail
 generalize (w.alloc (.cells #[.int .i64 c.sa,.int .i64 c.sr,.slice A1 c.bs.length k1,.int .i64 c.ta,.int .i64 c.tr,.int .i64 c.ts,.slice A2 c.ms.length k2,.slice A3 c.inv.length k3] 31))=W0 at*
 go_wp2_with fail
 refine (AW.out _).mono ?_
 rintro e W1 ⟨rfl,hb⟩
 have Hc3:=qH (Hc1.out.next hb)
 clear Hc1
 have Hb4:=qH ((Hb2.out.below hb).more hb.size)
 clear Hb2
 clear hb
 by_cases hlong:3000<l.length
 ·have hlo:(3000:Int)<(l.length:Int):=by omega
  go_wp2_with fail
  refine (AW.out _).mono ?_
  rintro e W9 ⟨rfl,hb⟩
  go_wp2
  go_ret
  exact ⟨rfl,Hc3.out.blw.trans (hb.mono Hc3.out.blw.size)⟩
 have hlo:¬(3000:Int)<(l.length:Int):=by omega
 have c0:=Hc3.out.row.k0;have c1:=Hc3.out.row.k1;have c2:=Hc3.out.row.k2;have c3:=Hc3.out.row.k3;have c4:=Hc3.out.row.k4;have c5:=Hc3.out.row.k5;have c6:=Hc3.out.row.k6;have c7:=Hc3.out.row.k7
 go_wp2_with fail
 refine (zcf W1 (Hc3.out.see.more Hc3.out.blw.size)).mono ?_
 rintro e W2 ⟨⟨bf,rfl,hF⟩,hb⟩
 have Hc5:=qH (Hc3.out.next hb)
 clear Hc3
 have Hb6:=qH ((Hb4.out.below hb).more hb.size)
 clear Hb4
 clear hb
 clear c0 c1 c2 c3 c4 c5 c6 c7
 by_cases hbf:bf=false
 ·subst hbf
  clear hF
  go_wp2_with fail
  refine (AW.out _).mono ?_
  rintro e W9 ⟨rfl,hb⟩
  go_wp2
  go_ret
  exact ⟨rfl,Hc5.out.blw.trans (hb.mono Hc5.out.blw.size)⟩
 obtain rfl:bf=true:=by cases bf;exact absurd rfl hbf;rfl
 have HSM:=qH (hF rfl)
 clear hF hbf
 obtain ⟨⟨d,er⟩,hd⟩:∃y,yD l=y:=⟨_,rfl⟩
 have HDS:=qH (zey HBY.out (by omega) hd)
 have HD:=qH hd
 clear hd
 have CD:=qH (JM a0 l cap0 W2 Hb6.out HBY.out (by omega) hlc hcm)
 rw [HD.out] at CD
 go_wp2_with fail
 refine (CD.out).mono ?_
 rintro e W3 ⟨B1,j1,v1,B2,j2,v2,B3,j3,v3,rfl,n1,n2,n3,hb⟩
 have hal:=(ld W3.heap.size W3).alloc (la _) (.cells #[.int .i64 d.sa,.int .i64 d.sr,.slice B1 d.bs.length j1,.int .i64 d.ta,.int .i64 d.tr,.int .i64 d.ts,.slice B2 d.ms.length j2,.slice B3 d.inv.length j3] 31)
 have Hc7:=qH (Hc5.out.next hb)
 clear Hc5
 have Hb8:=qH ((Hb6.out.below hb).more hb.size)
 clear Hb6
 have Hc9:=qH (Hc7.out.next hal)
 clear Hc7
 have Hb10:=qH ((Hb8.out.below hal).more hal.size)
 clear Hb8
 have hcd:=UX (c:=d) (inv:=d.inv) n1 n2 n3 HDS.out.2
 have Hx11:=qH (Row.new W3 31 #[.int .i64 d.sa,.int .i64 d.sr,.slice B1 d.bs.length j1,.int .i64 d.ta,.int .i64 d.tr,.int .i64 d.ts,.slice B2 d.ms.length j2,.slice B3 d.inv.length j3])
 have HxC12:=qH ((hcd.below hal).more hal.size)
 clear hb hal hcd n1 n2 n3
 go_upto_region 4 with fail
 generalize (W3.alloc (.cells #[.int .i64 d.sa,.int .i64 d.sr,.slice B1 d.bs.length j1,.int .i64 d.ta,.int .i64 d.tr,.int .i64 d.ts,.slice B2 d.ms.length j2,.slice B3 d.inv.length j3] 31))=W3n at*
 generalize W3.heap.size=bx at*
 have CR:=qH (zcO a0 l cap0 W3n Hb10.out HBY.out (by omega) hlc hcm)
 rw [HD.out] at CR
 go_wp2_with fail
 refine (CR.out).mono ?_
 rintro e W4 ⟨D1,m1,v1,D2,m2,v2,D3,m3,v3,rfl,n1,n2,n3,hb⟩
 have hal:=(ld W4.heap.size W4).alloc (la _) (.cells #[.int .i64 d.sa,.int .i64 d.sr,.slice D1 d.bs.length m1,.int .i64 d.ta,.int .i64 d.tr,.int .i64 d.ts,.slice D2 d.ms.length m2,.slice D3 d.inv.length m3] 31)
 have Hc13:=qH (Hc9.out.next hb)
 clear Hc9
 have Hb14:=qH ((Hb10.out.below hb).more hb.size)
 clear Hb10
 have Hx15:=qH (Hx11.out.below hb Hx11.out.lt)
 clear Hx11
 have HxC16:=qH ((HxC12.out.below hb).more hb.size)
 clear HxC12
 have Hc17:=qH (Hc13.out.next hal)
 clear Hc13
 have Hb18:=qH ((Hb14.out.below hal).more hal.size)
 clear Hb14
 have Hx19:=qH (Hx15.out.below hal Hx15.out.lt)
 clear Hx15
 have HxC20:=qH ((HxC16.out.below hal).more hal.size)
 clear HxC16
 have hcd:=UX (c:=d) (inv:=d.inv) n1 n2 n3 HDS.out.2
 have Hyy21:=qH (Row.new W4 31 #[.int .i64 d.sa,.int .i64 d.sr,.slice D1 d.bs.length m1,.int .i64 d.ta,.int .i64 d.tr,.int .i64 d.ts,.slice D2 d.ms.length m2,.slice D3 d.inv.length m3])
 have HyyC22:=qH ((hcd.below hal).more hal.size)
 clear hb hal hcd n1 n2 n3
 go_upto_region 5 with fail
 generalize (W4.alloc (.cells #[.int .i64 d.sa,.int .i64 d.sr,.slice D1 d.bs.length m1,.int .i64 d.ta,.int .i64 d.tr,.int .i64 d.ts,.slice D2 d.ms.length m2,.slice D3 d.inv.length m3] 31))=W4n at*
 generalize W4.heap.size=byy at*
 have c0:=Hc17.out.row.k0;have c1:=Hc17.out.row.k1;have c2:=Hc17.out.row.k2;have c3:=Hc17.out.row.k3;have c4:=Hc17.out.row.k4;have c5:=Hc17.out.row.k5;have c6:=Hc17.out.row.k6;have c7:=Hc17.out.row.k7
 go_wp2_with fail
 refine (Yn W4n (Hc17.out.see.more Hc17.out.blw.size) HSM.out HWF.out).mono ?_
 rintro e W5 ⟨hb,hcase⟩
 have Hc23:=qH (Hc17.out.next hb)
 clear Hc17
 have Hb24:=qH ((Hb18.out.below hb).more hb.size)
 clear Hb18
 have Hx25:=qH (Hx19.out.below hb Hx19.out.lt)
 clear Hx19
 have HxC26:=qH ((HxC20.out.below hb).more hb.size)
 clear HxC20
 have Hyy27:=qH (Hyy21.out.below hb Hyy21.out.lt)
 clear Hyy21
 have HyyC28:=qH ((HyyC22.out.below hb).more hb.size)
 clear HyyC22
 clear hb
 clear c0 c1 c2 c3 c4 c5 c6 c7
 have c0:=Hc23.out.row.k0;have c1:=Hc23.out.row.k1;have c2:=Hc23.out.row.k2;have c3:=Hc23.out.row.k3;have c4:=Hc23.out.row.k4;have c5:=Hc23.out.row.k5;have c6:=Hc23.out.row.k6;have c7:=Hc23.out.row.k7
 have HRE:=qH (zcN W5 (Hc23.out.see.more Hc23.out.blw.size) HSM.out.w HWF.out.inv (fun hv=>CV.of hv HSM.out (zfV HWF.out)))
 have ee:(er==er)=true:=by simp
 rcases hcase with ⟨hv,Ap,kp,rfl,ho⟩|⟨hv,rfl⟩
 ·have Hp29:=qH (Sees.of_own ho)
  have hcap:=yj ho
  clear ho
  go_wp2_with fail
  refine HRE.out.mono ?_
  rintro e W6 ⟨hb,⟨_,Aq,kq,rfl,ho⟩|⟨h9,_⟩⟩
  rotate_left
  ·exact absurd hv h9
  have Hc30:=qH (Hc23.out.next hb)
  clear Hc23
  have Hb31:=qH ((Hb24.out.below hb).more hb.size)
  clear Hb24
  have Hx32:=qH (Hx25.out.below hb Hx25.out.lt)
  clear Hx25
  have HxC33:=qH ((HxC26.out.below hb).more hb.size)
  clear HxC26
  have Hyy34:=qH (Hyy27.out.below hb Hyy27.out.lt)
  clear Hyy27
  have HyyC35:=qH ((HyyC28.out.below hb).more hb.size)
  clear HyyC28
  have Hp36:=qH ((Hp29.out.below hb).more hb.size)
  clear Hp29
  have Hq37:=qH (Sees.of_own ho)
  have hcaq:=yj ho
  clear ho hb
  clear HRE hv
  clear c0 c1 c2 c3 c4 c5 c6 c7
  have x0:=Hx32.out.k0;have x1:=Hx32.out.k1;have x2:=Hx32.out.k2;have x3:=Hx32.out.k3;have x4:=Hx32.out.k4;have x5:=Hx32.out.k5;have x6:=Hx32.out.k6;have x7:=Hx32.out.k7
  have y0:=Hyy34.out.k0;have y1:=Hyy34.out.k1;have y2:=Hyy34.out.k2;have y3:=Hyy34.out.k3;have y4:=Hyy34.out.k4;have y5:=Hyy34.out.k5;have y6:=Hyy34.out.k6;have y7:=Hyy34.out.k7
  go_wp2_with fail
  refine (ZJ (c:=d) (d:=d) W6 HxC33.out HyyC35.out ⟨lf HDS.out.1.1 (by decide),lf HDS.out.1.1 (by decide)⟩ ⟨HDS.out.1.2.1,HDS.out.1.2.1⟩ ⟨lf HDS.out.1.2.2.1 (by decide),lf HDS.out.1.2.2.1 (by decide)⟩ ⟨HDS.out.1.2.2.2.1,HDS.out.1.2.2.2.1⟩ ⟨HDS.out.1.2.2.2.2,HDS.out.1.2.2.2.2⟩ true (by simp)).mono ?_
  rintro e W7 ⟨rfl,hb⟩
  have Hc38:=qH (Hc30.out.next hb)
  clear Hc30
  have Hb39:=qH ((Hb31.out.below hb).more hb.size)
  clear Hb31
  have Hx40:=qH (Hx32.out.below hb Hx32.out.lt)
  clear Hx32
  have HxC41:=qH ((HxC33.out.below hb).more hb.size)
  clear HxC33
  have Hyy42:=qH (Hyy34.out.below hb Hyy34.out.lt)
  clear Hyy34
  have HyyC43:=qH ((HyyC35.out.below hb).more hb.size)
  clear HyyC35
  have Hp44:=qH ((Hp36.out.below hb).more hb.size)
  clear Hp36
  have Hq45:=qH ((Hq37.out.below hb).more hb.size)
  clear Hq37
  clear hb
  clear x0 x1 x2 x3 x4 x5 x6 x7
  clear y0 y1 y2 y3 y4 y5 y6 y7
  have CS:=qH (zcZ (zP c) (zP c) true (zP c).length (zP c).length W7.heap.size Ap Aq kp kq W7 (Yc _) rfl rfl (lf hcap.1 hcap.2) (lf hcap.1 hcap.2) Hp44.out Hq45.out)
  go_wp2_with fail
  refine CS.out.mono ?_
  rintro e W8 ⟨rfl,n8,h8⟩
  have HZ:=qH (Hc38.out.blw.trans ((h8 ▸ jz (ld W7.heap.size W7) n8:Below W7.heap.size W7 W8).mono Hc38.out.blw.size))
  clear h8
  go_wp2
  go_ret
  exact ⟨rfl,HZ.out⟩
 ·go_wp2_with fail
  refine HRE.out.mono ?_
  rintro e W6 ⟨hb,⟨h9,_⟩|⟨_,rfl⟩⟩
  ·exact absurd h9 hv
  have Hc46:=qH (Hc23.out.next hb)
  clear Hc23
  have Hb47:=qH ((Hb24.out.below hb).more hb.size)
  clear Hb24
  have Hx48:=qH (Hx25.out.below hb Hx25.out.lt)
  clear Hx25
  have HxC49:=qH ((HxC26.out.below hb).more hb.size)
  clear HxC26
  have Hyy50:=qH (Hyy27.out.below hb Hyy27.out.lt)
  clear Hyy27
  have HyyC51:=qH ((HyyC28.out.below hb).more hb.size)
  clear HyyC28
  clear hb
  generalize zV c=ve at*
  have ev:(ve==ve)=true:=by simp
  clear HRE hv
  clear c0 c1 c2 c3 c4 c5 c6 c7
  have x0:=Hx48.out.k0;have x1:=Hx48.out.k1;have x2:=Hx48.out.k2;have x3:=Hx48.out.k3;have x4:=Hx48.out.k4;have x5:=Hx48.out.k5;have x6:=Hx48.out.k6;have x7:=Hx48.out.k7
  have y0:=Hyy50.out.k0;have y1:=Hyy50.out.k1;have y2:=Hyy50.out.k2;have y3:=Hyy50.out.k3;have y4:=Hyy50.out.k4;have y5:=Hyy50.out.k5;have y6:=Hyy50.out.k6;have y7:=Hyy50.out.k7
  go_wp2_with fail
  refine (ZJ (c:=d) (d:=d) W6 HxC49.out HyyC51.out ⟨lf HDS.out.1.1 (by decide),lf HDS.out.1.1 (by decide)⟩ ⟨HDS.out.1.2.1,HDS.out.1.2.1⟩ ⟨lf HDS.out.1.2.2.1 (by decide),lf HDS.out.1.2.2.1 (by decide)⟩ ⟨HDS.out.1.2.2.2.1,HDS.out.1.2.2.2.1⟩ ⟨HDS.out.1.2.2.2.2,HDS.out.1.2.2.2.2⟩ true (by simp)).mono ?_
  rintro e W7 ⟨rfl,hb⟩
  have Hc52:=qH (Hc46.out.next hb)
  clear Hc46
  have Hb53:=qH ((Hb47.out.below hb).more hb.size)
  clear Hb47
  have Hx54:=qH (Hx48.out.below hb Hx48.out.lt)
  clear Hx48
  have HxC55:=qH ((HxC49.out.below hb).more hb.size)
  clear HxC49
  have Hyy56:=qH (Hyy50.out.below hb Hyy50.out.lt)
  clear Hyy50
  have HyyC57:=qH ((HyyC51.out.below hb).more hb.size)
  clear HyyC51
  clear hb
  clear x0 x1 x2 x3 x4 x5 x6 x7
  clear y0 y1 y2 y3 y4 y5 y6 y7
  have CS:=qH (zcZ [] [] true 0 0 W7.heap.size none none 0 0 W7 (Yc _) rfl rfl (lF _) (lF _) Sees.nil Sees.nil)
  go_wp2_with fail
  refine CS.out.mono ?_
  rintro e W8 ⟨rfl,n8,h8⟩
  have HZ:=qH (Hc52.out.blw.trans ((h8 ▸ jz (ld W7.heap.size W7) n8:Below W7.heap.size W7 W8).mono Hc52.out.blw.size))
  clear h8
  go_wp2
  go_ret
  exact ⟨rfl,HZ.out⟩
end Go.Proofs.YtnifhpbgmjcndaaGreat
