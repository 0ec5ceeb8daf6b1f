/- The walk of the statement on damaged encodings (made by wip/lab/genccl.py). -/
import Derived.Test.YtnifhpbgmjcndaaGreatCcAwk
import Derived.Test.YtnifhpbgmjcndaaGreatCcRe
import Derived.Test.YtnifhpbgmjcndaaGreatVarAdd
set_option linter.unusedVariables false
set_option linter.unusedSimpArgs false
set_option linter.unusedSectionVars false
set_option maxRecDepth 100000
set_option maxHeartbeats 16000000
namespace Go.Proofs.YtnifhpbgmjcndaaGreat
open Go.RowKit Go.Deep
theorem zbJ{x:Int}(h:(Lit.int .u16 x).wf=true):0≤x∧x≤65535:=by
 simp [Lit.wf,IntKind.min,IntKind.max,IntKind.signed,IntKind.bits] at h
 omega
theorem QI{b:List Nat}(hb:Byt b)(hl:b.length≤900000){c:Ct}(hd:jw b=(c,0)):(c.bs.length≤1000000∧zN c.bs≤1000000∧c.ms.length≤1000000∧zw c.ms≤1000000∧c.inv.length≤1000000)∧∀y∈c.ms,∀x∈y.code,x.Ok:=by
 obtain ⟨h1,h2,h3⟩:=Us hb (by rw [hd])
 rw [hd] at h1 h2 h3
 dsimp only at h1 h2 h3
 have h4:=jG zo (zh c) rfl
 have h5:b.length=(zq zo (zh c)).length+3:=by rw [h3];unfold zv;simp
 have h6:jy (zh c)=1+zQ (zI c.f).length+(zI c.f).length+(1+zQ (yf c.g).length+(yf c.g).length+(1+zQ (zl c.inv).length+(zl c.inv).length+0)):=rfl
 have h7:=Zo (f:=c.f) (n:=(zI c.f).length) (Nat.le_refl _)
 have h8:=Yf (g:=c.g) (n:=(yf c.g).length) (Nat.le_refl _)
 have h9:=(jI c.inv).1
 have e1:c.f.bs=c.bs:=rfl
 have e2:c.g.ms=c.ms:=rfl
 rw [e1] at h7
 rw [e2] at h8
 obtain ⟨_,v2,_⟩:=Jj h1
 exact ⟨⟨by omega,by omega,by omega,by omega,by omega⟩,YB (g:=c.g) v2⟩
structure DG20(w:World)(A1:Option Addr)(k1:Nat)(A2:Option Addr)(k2:Nat)(A3:Option Addr)(k3:Nat)(c:Ct)(bz:Nat)(E1:Option Addr)(u1:Nat)(E2:Option Addr)(u2:Nat)(E3:Option Addr)(u3:Nat)(d:Ct)(g2:Nat)(L:List Nat)(W:World):Prop where
 c:CeK w w.heap.size A1 k1 A2 k2 A3 k3 c W
 row:Row W bz 31 #[.int .i64 d.sa,.int .i64 d.sr,.slice E1 d.bs.length u1,.int .i64 d.ta,.int .i64 d.tr,.int .i64 d.ts,.slice E2 d.ms.length u2,.slice E3 d.inv.length u3]
 d:CeAt W W.heap.size E1 u1 E2 u2 E3 u3 d
 s:Sees W W.heap.size (some ⟨g2,0,none⟩) (bts L)
 lt:bz<W.heap.size
section
variable {w : World} {A1 : Option Addr} {k1 : Nat} {A2 : Option Addr} {k2 : Nat} {A3 : Option Addr} {k3 : Nat} {c : Ct} {bz : Nat} {E1 : Option Addr} {u1 : Nat} {E2 : Option Addr} {u2 : Nat} {E3 : Option Addr} {u3 : Nat} {d : Ct} {g2 : Nat} {L : List Nat} {W W' : World}
theorem DG20.next(h:DG20 w A1 k1 A2 k2 A3 k3 c bz E1 u1 E2 u2 E3 u3 d g2 L W)(hb:Below W.heap.size W W'):DG20 w A1 k1 A2 k2 A3 k3 c bz E1 u1 E2 u2 E3 u3 d g2 L W':=
 ⟨h.c.next hb,h.row.below hb h.lt,(h.d.below hb).more hb.size,(h.s.below hb).more hb.size,Nat.lt_of_lt_of_le h.lt hb.size⟩
theorem DG20.drewN(h:DG20 w A1 k1 A2 k2 A3 k3 c bz E1 u1 E2 u2 E3 u3 d g2 L W)(n:Nat):DG20 w A1 k1 A2 k2 A3 k3 c bz E1 u1 E2 u2 E3 u3 d g2 L (W.drewN n):=h.next (jq (Below.refl _ _) n)
theorem DG20.drew(h:DG20 w A1 k1 A2 k2 A3 k3 c bz E1 u1 E2 u2 E3 u3 d g2 L W):DG20 w A1 k1 A2 k2 A3 k3 c bz E1 u1 E2 u2 E3 u3 d g2 L W.drew:=h.drewN 1
theorem DG20.cells(h:DG20 w A1 k1 A2 k2 A3 k3 c bz E1 u1 E2 u2 E3 u3 d g2 L W)(i y:Nat)(hy:L[i]?=some y):W.cell? ⟨bz,0,none⟩=some (.int .i64 d.sa)∧W.cell? ⟨bz,1,none⟩=some (.int .i64 d.sr)∧W.cell? ⟨bz,2,none⟩=some (.slice E1 d.bs.length u1)∧W.cell? ⟨bz,3,none⟩=some (.int .i64 d.ta)∧W.cell? ⟨bz,4,none⟩=some (.int .i64 d.tr)∧W.cell? ⟨bz,5,none⟩=some (.int .i64 d.ts)∧W.cell? ⟨bz,6,none⟩=some (.slice E2 d.ms.length u2)∧W.cell? ⟨bz,7,none⟩=some (.slice E3 d.inv.length u3)∧W.cell? ⟨w.heap.size,0,none⟩=some (.int .i64 c.sa)∧W.cell? ⟨w.heap.size,1,none⟩=some (.int .i64 c.sr)∧W.cell? ⟨w.heap.size,2,none⟩=some (.slice A1 c.bs.length k1)∧W.cell? ⟨w.heap.size,3,none⟩=some (.int .i64 c.ta)∧W.cell? ⟨w.heap.size,4,none⟩=some (.int .i64 c.tr)∧W.cell? ⟨w.heap.size,5,none⟩=some (.int .i64 c.ts)∧W.cell? ⟨w.heap.size,6,none⟩=some (.slice A2 c.ms.length k2)∧W.cell? ⟨w.heap.size,7,none⟩=some (.slice A3 c.inv.length k3)∧W.cell? ⟨g2,i,none⟩=some (.int .u8 (y:Int)):=by
 refine ⟨h.row.cell 0,h.row.cell 1,h.row.cell 2,h.row.cell 3,h.row.cell 4,h.row.cell 5,h.row.cell 6,h.row.cell 7,h.c.row.cell 0,h.c.row.cell 1,h.c.row.cell 2,h.c.row.cell 3,h.c.row.cell 4,h.c.row.cell 5,h.c.row.cell 6,h.c.row.cell 7,?_⟩
 have hn:bts L≠ []:=by
  intro e
  have:L= []:=by simpa [bts] using e
  subst this
  cases hy
 obtain ⟨b,o,e,_,hc⟩:=h.s hn
 injection e with e
 injection e with e1 e2
 subst e1;subst e2
 have:=hc i (.int .u8 (y:Int)) (by simp [bts,hy])
 rwa [Nat.zero_add] at this
end
theorem CertcodeDamage_walk(a0:Array Value)(a1 a2 a3 a4:Int)(w:World)(wc:IsCert w a0)(w1:(Lit.int .u16 a1).wf=true)(w2:(Lit.int .u8 a2).wf=true)(w3:(Lit.int .u16 a3).wf=true)(w4:(Lit.int .u8 a4).wf=true):
  Calls Tryz.prog 6 #[.agg a0,.int .u16 a1,.int .u8 a2,.int .u16 a3,.int .u8 a4] w fun e w'=>e= .returned (.bool true)∧Below w.heap.size w w':=by
 have mixed:Tryz.prog.follows .mixedOrders=true:=by kernel_rfl
 have AW:Hid (∀W,Calls Tryz.prog 8 #[] W fun e w'=>e= .returned (.bool true)∧Below W.heap.size W w'):=fun W=>ZP W
 obtain ⟨u10,u11⟩:=zbJ w1
 obtain ⟨u20,u21⟩:=zal w2
 obtain ⟨u30,u31⟩:=zbJ w3
 obtain ⟨u40,u41⟩:=zal w4
 clear w1 w2 w3 w4
 obtain ⟨cut,rfl⟩:=Int.eq_ofNat_of_zero_le u10
 obtain ⟨more,rfl⟩:=Int.eq_ofNat_of_zero_le u20
 obtain ⟨att,rfl⟩:=Int.eq_ofNat_of_zero_le u30
 obtain ⟨v,rfl⟩:=Int.eq_ofNat_of_zero_le u40
 have hmore:more<256:=by omega
 have hvv:v<256:=by omega
 obtain ⟨i0,hi0,hz0,hz1,hz2⟩:=info_parts Tryz.infoU8c
 obtain ⟨c,A1,k1,A2,k2,A3,k3,rfl,hce,hwf⟩:=wc
 have Hc1:=qH (CeK.start hce)
 have HWF:=qH hwf
 clear hce hwf
 go_enter Tryz.func6,Tryz.ntmps6
 go_upto_region 1 with fail
 generalize (w.alloc (.cells #[.int .i64 c.sa,.int .i64 c.sr,.slice A1 c.bs.length k1,.int .i64 c.ta,.int .i64 c.tr,.int .i64 c.ts,.slice A2 c.ms.length k2,.slice A3 c.inv.length k3] 31))=W0 at*
 go_wp2_with fail
 refine (AW.out _).mono ?_
 rintro e W1 ⟨rfl,hb⟩
 have Hc2:=qH (Hc1.out.next hb)
 clear Hc1
 clear hb
 have c0:=Hc2.out.row.k0;have c1:=Hc2.out.row.k1;have c2:=Hc2.out.row.k2;have c3:=Hc2.out.row.k3;have c4:=Hc2.out.row.k4;have c5:=Hc2.out.row.k5;have c6:=Hc2.out.row.k6;have c7:=Hc2.out.row.k7
 go_wp2_with fail
 refine (Yh W1 (Hc2.out.see.more Hc2.out.blw.size)).mono ?_
 rintro e W2 ⟨⟨bf,rfl,hF⟩,hb⟩
 have Hc3:=qH (Hc2.out.next hb)
 clear Hc2
 clear hb
 clear c0 c1 c2 c3 c4 c5 c6 c7
 by_cases hbf:bf=false
 ·subst hbf
  clear hF
  go_wp2_with fail
  refine (AW.out _).mono ?_
  rintro e W9 ⟨rfl,hb⟩
  go_wp2
  go_ret
  exact ⟨rfl,Hc3.out.blw.trans (hb.mono Hc3.out.blw.size)⟩
 obtain rfl:bf=true:=by cases bf;exact absurd rfl hbf;rfl
 have HSM:=qH (hF rfl)
 clear hF hbf
 have c0:=Hc3.out.row.k0;have c1:=Hc3.out.row.k1;have c2:=Hc3.out.row.k2;have c3:=Hc3.out.row.k3;have c4:=Hc3.out.row.k4;have c5:=Hc3.out.row.k5;have c6:=Hc3.out.row.k6;have c7:=Hc3.out.row.k7
 go_wp2_with fail
 refine (zcS W2 (Hc3.out.see.more Hc3.out.blw.size) HSM.out.w HWF.out.inv (fun hv=>CV.of hv HSM.out (QH HWF.out))).mono ?_
 rintro e W3 ⟨hb,hcase⟩
 have Hc4:=qH (Hc3.out.next hb)
 clear Hc3
 clear c0 c1 c2 c3 c4 c5 c6 c7
 rcases hcase with ⟨hv,Ab,kb,rfl,ho⟩|⟨hv,rfl⟩
 rotate_left
 ·clear hb
  generalize zD c=ve at*
  have d1:(ve !=0)=true:=by simp [hv]
  clear hv
  go_wp2
  go_ret
  exact ⟨rfl,Hc4.out.blw⟩
 have HV:=qH (CV.of hv HSM.out (QH HWF.out))
 have HV0:=qH hv
 have hlen3:3≤(zv c).length:=by unfold zv;simp
 have hlenm:=HV.out.size.2.2
 have HCUT:Hid (∀j,j<(zv c).length→jw ((zv c).take j)=(zCt,1)):=fun j hj=>zfh HV.out.cl hj
 have HLONG:Hid (jw (zv c++ [more])=(zCt,2)):=zd3 HV.out.cl more
 have HBYL:=qH HV.out.byt
 have HEQ:Hid (∀(x:List Nat) (d:Ct),Byt x→jw x=(d,0)→(d=c↔x=zv c)):=fun x d hx hd=>⟨fun h=>Classical.byContradiction fun h9=>zcj hx hd h9 h,fun h=>zfi HV0.out HV.out.ci HV.out.cr HV.out.cl hx hd h⟩
 obtain ⟨hcap1,hcap2⟩:=zR ho
 clear hv hb
 generalize hLL:zv c=L at*
 clear hLL
 obtain ⟨g2,kb2,hg2,hg2a,hg2b⟩:=ho.form (by omega)
 injection hg2 with e1 e2 e3
 subst e1
 subst e3
 clear e2
 have HO2:=qH ho
 have hsp:Sees W3 W3.heap.size (some ⟨g2,0,none⟩) (bts L):=Sees.of_own ho
 obtain ⟨k,hkr,hkl⟩:∃k:Nat,(cut:Int)%(L.length:Int)=(k:Int)∧k<L.length:=⟨cut%L.length,by simp,Nat.mod_lt _ (by omega)⟩
 obtain ⟨i,hir,hil⟩:∃i:Nat,(att:Int)%(L.length:Int)=(i:Int)∧i<L.length:=⟨att%L.length,by simp,Nat.mod_lt _ (by omega)⟩
 have hlz:0<L.length:=by omega
 have hst:Sees W3 W3.heap.size (some ⟨g2,0,none⟩) (bts (L.take k)):=by have:=hsp.take (k:=k);unfold bts at*;rwa [List.map_take]
 have htk:(L.take k).length=k:=by rw [List.length_take];omega
 have Hb5:=qH (hsp)
 have CD1:Hid (Calls Tryz.prog 10 #[.slice (some ⟨g2,0,none⟩) k kb] W3 (DecP W3 (zCt,1))):=by
  have q:=yZ (some ⟨g2,0,none⟩) (L.take k) kb W3 hst (fun c hc=>HBYL.out c (List.mem_of_mem_take hc)) (by omega) (by omega) hcap2
  rw [htk,HCUT.out k hkl] at q
  exact q
 clear ho hsp hst htk HCUT hg2a hg2b
 have Hw6:=qH (Hc4.out.blw)
 go_wp2_with fail
 refine (CD1.out).mono ?_
 rintro e W4 ⟨B1,j1,v1,B2,j2,v2,B3,j3,v3,rfl,n1,n2,n3,hb⟩
 have hal:=(Below.refl W4.heap.size W4).alloc (Nat.le_refl _) (.cells #[.int .i64 zCt.sa,.int .i64 zCt.sr,.slice B1 zCt.bs.length j1,.int .i64 zCt.ta,.int .i64 zCt.tr,.int .i64 zCt.ts,.slice B2 zCt.ms.length j2,.slice B3 zCt.inv.length j3] 31)
 have Hc7:=qH (Hc4.out.next hb)
 clear Hc4
 have Hb8:=qH ((Hb5.out.below hb).more hb.size)
 clear Hb5
 have Hw9:=qH (Hw6.out.trans (hb.mono Hw6.out.size))
 clear Hw6
 have Hc10:=qH (Hc7.out.next hal)
 clear Hc7
 have Hb11:=qH ((Hb8.out.below hal).more hal.size)
 clear Hb8
 have Hw12:=qH (Hw9.out.trans (hal.mono Hw9.out.size))
 clear Hw9
 have hcd:=J8 (c:=zCt) (inv:=zCt.inv) n1 n2 n3 (fun y hy=>by cases hy)
 have Hp13:=qH (Row.new W4 31 #[.int .i64 zCt.sa,.int .i64 zCt.sr,.slice B1 zCt.bs.length j1,.int .i64 zCt.ta,.int .i64 zCt.tr,.int .i64 zCt.ts,.slice B2 zCt.ms.length j2,.slice B3 zCt.inv.length j3])
 have HpC14:=qH ((hcd.below hal).more hal.size)
 clear hb hal hcd n1 n2 n3
 go_upto_region 7 with fail
 generalize (W4.alloc (.cells #[.int .i64 zCt.sa,.int .i64 zCt.sr,.slice B1 zCt.bs.length j1,.int .i64 zCt.ta,.int .i64 zCt.tr,.int .i64 zCt.ts,.slice B2 zCt.ms.length j2,.slice B3 zCt.inv.length j3] 31))=W4n at*
 generalize W4.heap.size=bp at*
 go_wp2_with fail
 refine (zgO _ _ L [more] _ _ (W4n.alloc (.cells #[.int .u8 more] 5)) ((Hb11.out.alloc (Nat.le_refl _) _).more (by simp)) ((Jl W4n #[.int .u8 more] 5 [more] rfl).more (by simp)) (by simp;omega)).mono ?_
 rintro e W5 ⟨A4,c4,rfl,ho4,hb4⟩
 have hb5:Below W4n.heap.size W4n W5:=((Below.refl _ _).alloc (Nat.le_refl _) _).trans (hb4.mono (by simp))
 obtain ⟨q41,q42⟩:=zR ho4
 have Hc15:=qH (Hc10.out.next hb5)
 clear Hc10
 have Hb16:=qH ((Hb11.out.below hb5).more hb5.size)
 clear Hb11
 have Hp17:=qH (Hp13.out.below hb5 Hp13.out.lt)
 clear Hp13
 have HpC18:=qH ((HpC14.out.below hb5).more hb5.size)
 clear HpC14
 have Hw19:=qH (Hw12.out.trans (hb5.mono Hw12.out.size))
 clear Hw12
 have CD2:=qH (yZ A4 (L++ [more]) c4 W5 (Sees.of_own ho4) (fun c hc=>by
  rcases List.mem_append.1 hc with hc|hc
  ·exact HBYL.out c hc
  ·rw [List.mem_singleton.1 hc];exact hmore) (by simp;omega) q41 q42)
 rw [HLONG.out] at CD2
 have hpl:(L++ [more]).length=L.length+1:=by simp
 rw [hpl] at CD2⊢
 clear hb5 hb4 ho4 HLONG q41 q42 hpl
 go_wp2_with fail
 refine (CD2.out).mono ?_
 rintro e W6 ⟨D1,m1,v1,D2,m2,v2,D3,m3,v3,rfl,n1,n2,n3,hb⟩
 have hal:=(Below.refl W6.heap.size W6).alloc (Nat.le_refl _) (.cells #[.int .i64 zCt.sa,.int .i64 zCt.sr,.slice D1 zCt.bs.length m1,.int .i64 zCt.ta,.int .i64 zCt.tr,.int .i64 zCt.ts,.slice D2 zCt.ms.length m2,.slice D3 zCt.inv.length m3] 31)
 have Hc20:=qH (Hc15.out.next hb)
 clear Hc15
 have Hb21:=qH ((Hb16.out.below hb).more hb.size)
 clear Hb16
 have Hp22:=qH (Hp17.out.below hb Hp17.out.lt)
 clear Hp17
 have HpC23:=qH ((HpC18.out.below hb).more hb.size)
 clear HpC18
 have Hw24:=qH (Hw19.out.trans (hb.mono Hw19.out.size))
 clear Hw19
 have Hc25:=qH (Hc20.out.next hal)
 clear Hc20
 have Hb26:=qH ((Hb21.out.below hal).more hal.size)
 clear Hb21
 have Hp27:=qH (Hp22.out.below hal Hp22.out.lt)
 clear Hp22
 have HpC28:=qH ((HpC23.out.below hal).more hal.size)
 clear HpC23
 have Hw29:=qH (Hw24.out.trans (hal.mono Hw24.out.size))
 clear Hw24
 have hcd:=J8 (c:=zCt) (inv:=zCt.inv) n1 n2 n3 (fun y hy=>by cases hy)
 have Hq30:=qH (Row.new W6 31 #[.int .i64 zCt.sa,.int .i64 zCt.sr,.slice D1 zCt.bs.length m1,.int .i64 zCt.ta,.int .i64 zCt.tr,.int .i64 zCt.ts,.slice D2 zCt.ms.length m2,.slice D3 zCt.inv.length m3])
 have HqC31:=qH ((hcd.below hal).more hal.size)
 clear hb hal hcd n1 n2 n3
 go_upto_region 8 with fail
 generalize (W6.alloc (.cells #[.int .i64 zCt.sa,.int .i64 zCt.sr,.slice D1 zCt.bs.length m1,.int .i64 zCt.ta,.int .i64 zCt.tr,.int .i64 zCt.ts,.slice D2 zCt.ms.length m2,.slice D3 zCt.inv.length m3] 31))=W6n at*
 generalize W6.heap.size=bq at*
 go_wp2_with (at_builtin;refine zt _ rfl (.tmp 55) (.tmp 56) 22 rfl W6n.heap.size 5 i0 (.int .u8 0) 1 Tryz.underlying22 hi0 hz0 hz1 hz2 rfl _ _ _ rfl (World.ownsRow_made W6n #[] 0 (Nat.le_refl _) (by decide) rfl) W6n.heap.size _ _ _ (bts L) rfl (Hb26.out.alloc (Nat.le_refl _) _) (zm L) (yh L) ?c1 ?c2 ?c3 ?_)
 case c1=>unfold maxLen;omega
 case c2=>omega
 case c3=>simp
 intro v6 W7 ho6 hg6
 have hb7:Below W6n.heap.size W6n W7:=((Below.refl _ _).alloc (Nat.le_refl _) _).grown hg6 (by simp) (fun k hk=>by simp [Value.ownBlock] at hk;omega)
 obtain ⟨g6,c6,rfl,hg6a,hg6b⟩:=ho6.form hlz
 replace ho6:W7.ownsRow W6n.heap.size 5 1 (.slice (some ⟨g6,0,none⟩) L.length c6) L.length (bts L):=by simpa using ho6
 clear Hp27
 clear HpC28
 clear Hq30
 clear HqC31
 have hcell:W7.cell? ⟨g6,i,none⟩=some (.int .u8 (L[i]:Int)):=(ho6.cellAt i (by omega)).trans (by simp [bts,hil])
 have hfr:=ho6.frozenAt i
 have hg6a':W6n.heap.size≤g6:=hg6a
 obtain ⟨q61,q62⟩:=zR ho6
 have ho7:=(ho6.stored i (.int .u8 (v:Int))).1
 rw [QR] at ho7
 have hb9:Below W6n.heap.size W6n (W7.setCell ⟨g6,i,none⟩ (.int .u8 (v:Int))):=hb7.trans ((Below.refl _ _).setCell (p:=⟨g6,i,none⟩) hg6a' _)
 have HO7:=qH ho7
 have Hc32:=qH (Hc25.out.next hb9)
 clear Hc25
 have Hb33:=qH ((Hb26.out.below hb9).more hb9.size)
 clear Hb26
 have Hw34:=qH (Hw29.out.trans (hb9.mono Hw29.out.size))
 clear Hw29
 clear hb9 hb7 hg6 ho6 ho7
 have HXB:Hid (Byt (L.set i v)):=fun x hx=>by
  rcases List.mem_or_eq_of_mem_set hx with h|h
  ·exact HBYL.out x h
  ·rw [h];exact hvv
 obtain ⟨⟨d,er⟩,hd⟩:∃y,jw (L.set i v)=y:=⟨_,rfl⟩
 have hle:=zdg (L.set i v)
 rw [hd] at hle
 have hle2:=hle.2
 have HOK:Hid (∀y∈d.ms,∀x∈y.code,x.Ok):=by
  by_cases h0:er=0
  ·subst h0
   exact (QI HXB.out (by rw [List.length_set];omega) hd).2
  ·intro y hy
   rw [show d=zCt from hle2 h0] at hy
   cases hy
 have HD:=qH hd
 clear hd hle hle2
 go_wp2_with fail
 generalize (W7.setCell ⟨g6,i,none⟩ (.int .u8 (v:Int)))=W8 at*
 have CD3:=qH (yZ (some ⟨g6,0,none⟩) (L.set i v) c6 W8 (Sees.of_own HO7.out) HXB.out (by rw [List.length_set];omega) (by rw [List.length_set];exact q61) q62)
 rw [List.length_set,HD.out] at CD3
 clear HO7 hcell hfr q61 q62 hg6a hg6b
 go_wp2_with fail
 refine (CD3.out).mono ?_
 rintro e W9 ⟨E1,u1,v1,E2,u2,v2,E3,u3,v3,rfl,n1,n2,n3,hb⟩
 have hal:=(Below.refl W9.heap.size W9).alloc (Nat.le_refl _) (.cells #[.int .i64 d.sa,.int .i64 d.sr,.slice E1 d.bs.length u1,.int .i64 d.ta,.int .i64 d.tr,.int .i64 d.ts,.slice E2 d.ms.length u2,.slice E3 d.inv.length u3] 31)
 have Hc35:=qH (Hc32.out.next hb)
 clear Hc32
 have Hb36:=qH ((Hb33.out.below hb).more hb.size)
 clear Hb33
 have Hw37:=qH (Hw34.out.trans (hb.mono Hw34.out.size))
 clear Hw34
 have Hc38:=qH (Hc35.out.next hal)
 clear Hc35
 have Hb39:=qH ((Hb36.out.below hal).more hal.size)
 clear Hb36
 have Hw40:=qH (Hw37.out.trans (hal.mono Hw37.out.size))
 clear Hw37
 have hcd:=J8 (c:=d) (inv:=d.inv) n1 n2 n3 HOK.out
 have Hz41:=qH (Row.new W9 31 #[.int .i64 d.sa,.int .i64 d.sr,.slice E1 d.bs.length u1,.int .i64 d.ta,.int .i64 d.tr,.int .i64 d.ts,.slice E2 d.ms.length u2,.slice E3 d.inv.length u3])
 have HzC42:=qH ((hcd.below hal).more hal.size)
 clear hb hal hcd n1 n2 n3
 go_upto_region 12 with fail
 generalize (W9.alloc (.cells #[.int .i64 d.sa,.int .i64 d.sr,.slice E1 d.bs.length u1,.int .i64 d.ta,.int .i64 d.tr,.int .i64 d.ts,.slice E2 d.ms.length u2,.slice E3 d.inv.length u3] 31))=W9n at*
 generalize W9.heap.size=bz at*
 by_cases he:er≠0
 ·have d0:(er !=0)=true:=by simp [he]
  have HZ:=qH Hw40.out
  clear he
  go_quiet (fail)
  go_wp2
  go_ret
  exact ⟨rfl,jq HZ.out _⟩
 obtain rfl:er=0:=by omega
 clear he
 obtain ⟨l1,l2,l3,l4,l5⟩:=(QI HXB.out (by rw [List.length_set];omega) HD.out).1
 have HG0:Hid (DG20 w A1 k1 A2 k2 A3 k3 c bz E1 u1 E2 u2 E3 u3 d g2 L W9n):=⟨Hc38.out,Hz41.out,HzC42.out,Hb39.out,Hz41.out.lt⟩
 have CS:Hid (∀W,DG20 w A1 k1 A2 k2 A3 k3 c bz E1 u1 E2 u2 E3 u3 d g2 L W→Calls Tryz.prog 14 #[.agg #[.int .i64 d.sa,.int .i64 d.sr,.slice E1 d.bs.length u1,.int .i64 d.ta,.int .i64 d.tr,.int .i64 d.ts,.slice E2 d.ms.length u2,.slice E3 d.inv.length u3],.agg #[.int .i64 c.sa,.int .i64 c.sr,.slice A1 c.bs.length k1,.int .i64 c.ta,.int .i64 c.tr,.int .i64 c.ts,.slice A2 c.ms.length k2,.slice A3 c.inv.length k3]] W fun e w'=>e= .returned (.bool ((v:Int)==(L[i]:Int)))∧DG20 w A1 k1 A2 k2 A3 k3 c bz E1 u1 E2 u2 E3 u3 d g2 L w'):=fun W h=>
  (JT (c:=d) (d:=c) W h.d (h.c.see.more h.c.blw.size) ⟨l1,by have:=HSM.out.f.1;omega⟩ ⟨l2,by have:=HSM.out.f.2.2;omega⟩ ⟨l3,by have:=HSM.out.m.1;omega⟩ ⟨l4,by have:=HSM.out.m.2.2.2;omega⟩ ⟨l5,by have:=HSM.out.n;omega⟩ ((v:Int)==(L[i]:Int)) (by
   rw [HEQ.out _ _ HXB.out HD.out]
   constructor
   ·intro h9
    have h7:(v:Int)=(L[i]:Int):=by simpa using h9
    have h8:v=L[i]:=by omega
    rw [h8]
    exact List.set_getElem_self hil
   ·intro h9
    have h8:(L.set i v)[i]'(by rw [List.length_set];exact hil)=L[i]:=by simp only [h9]
    rw [List.getElem_set_self] at h8
    simp [h8])).mono fun e w' ⟨he,hb⟩=>⟨he,h.next hb⟩
 have hG:=HG0.out
 clear HG0 HEQ HD HXB HOK l1 l2 l3 l4 l5
 have q1:(i:Int)<(L.length:Int):=by omega
 obtain ⟨y,hy⟩:∃y,L[i]=y:=⟨_,rfl⟩
 have HY:Hid (L[i]?=some y):=by show _=_;rw [←hy];exact List.getElem?_eq_getElem hil
 rw [hy] at CS
 clear hy
 obtain ⟨z0,z1,z2,z3,z4,z5,z6,z7,y0,y1,y2,y3,y4,y5,y6,y7,yb⟩:=hG.cells i y HY.out
 go_region_held3 (fun w'=>w'.cell? ⟨bz,0,none⟩=some (.int .i64 d.sa)∧w'.cell? ⟨bz,1,none⟩=some (.int .i64 d.sr)∧w'.cell? ⟨bz,2,none⟩=some (.slice E1 d.bs.length u1)∧w'.cell? ⟨bz,3,none⟩=some (.int .i64 d.ta)∧w'.cell? ⟨bz,4,none⟩=some (.int .i64 d.tr)∧w'.cell? ⟨bz,5,none⟩=some (.int .i64 d.ts)∧w'.cell? ⟨bz,6,none⟩=some (.slice E2 d.ms.length u2)∧w'.cell? ⟨bz,7,none⟩=some (.slice E3 d.inv.length u3)∧w'.cell? ⟨w.heap.size,0,none⟩=some (.int .i64 c.sa)∧w'.cell? ⟨w.heap.size,1,none⟩=some (.int .i64 c.sr)∧w'.cell? ⟨w.heap.size,2,none⟩=some (.slice A1 c.bs.length k1)∧w'.cell? ⟨w.heap.size,3,none⟩=some (.int .i64 c.ta)∧w'.cell? ⟨w.heap.size,4,none⟩=some (.int .i64 c.tr)∧w'.cell? ⟨w.heap.size,5,none⟩=some (.int .i64 c.ts)∧w'.cell? ⟨w.heap.size,6,none⟩=some (.slice A2 c.ms.length k2)∧w'.cell? ⟨w.heap.size,7,none⟩=some (.slice A3 c.inv.length k3)∧w'.cell? ⟨g2,i,none⟩=some (.int .u8 (y:Int))) (first|exact hG.cells i y (HY.out)|exact hG.drew.cells i y HY.out|exact (hG.drewN _).cells i y HY.out) (first
  |(go_at_call 14;go_must ((with_reducible refine (CS.out _ (by first|exact hG|exact hG.drew|exact hG.drewN _)).mono ?_);rintro e Wa ⟨rfl,hG⟩)))
 all_goals
  have HZ:=qH hG.c.blw
  go_wp2
  go_ret
  first|exact ⟨rfl,HZ.out⟩|exact ⟨by simp,jq HZ.out _⟩
end Go.Proofs.YtnifhpbgmjcndaaGreat
