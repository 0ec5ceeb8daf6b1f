/- The reference's Copy of a certificate (two regions of it are written by wip/lab/genccopy.py). -/
import Derived.Test.YtnifhpbgmjcndaaGreatSrcCopy
import Derived.Test.YtnifhpbgmjcndaaGreatCkVal
import Derived.Test.YtnifhpbgmjcndaaGreatPk18
set_option linter.unusedVariables false
set_option linter.unusedSimpArgs false
set_option maxRecDepth 100000
set_option maxHeartbeats 16000000
namespace Go.Proofs.YtnifhpbgmjcndaaGreat
open Go.RowKit
theorem NestV.aside{α:Type}{S:Shp α}{w w':World}{base:Nat}{v:Value}{vs:List Value}{xs:List α}{p:Nat}{T:TypeId}{cs:Array Value}(h:NestV S w base v vs xs)(hr:Row w p T cs)(h1:S.eo≠T)(h2:S.ei≠T)(hm:Mods (Is p) w w'):NestV S w' base v vs xs:=
 ⟨hm.ownS h.outer fun k hk e=>JQ h.outer hr h1 k hk e,h.len,fun i u x a b=>hm.ownS (h.inner i u x a b) fun k hk e=>JQ (h.inner i u x a b) hr h2 k hk e,h.dist⟩
def zgP(w:World)(c:Ct)(e:Ending)(w':World):Prop:=
 ∃Av1 cv1 vs1 Av2 cv2 vs2 Av3 cv3 vs3,e= .returned (.agg #[.int .i64 c.sa,.int .i64 c.sr,.slice Av1 c.bs.length cv1,.int .i64 c.ta,.int .i64 c.tr,.int .i64 c.ts,.slice Av2 c.ms.length cv2,.slice Av3 c.inv.length cv3])∧
  NestV jC w' w.heap.size (.slice Av1 c.bs.length cv1) vs1 c.bs∧NestV jv w' w.heap.size (.slice Av2 c.ms.length cv2) vs2 c.ms∧NestV jV w' w.heap.size (.slice Av3 c.inv.length cv3) vs3 c.inv∧Below w.heap.size w w'
structure CcS(wl:World)(ob:Nat)(c:Ct)(Av1:Option Addr)(n1 cv1:Nat)(Av2:Option Addr)(n2 cv2:Nat)(k:Nat)(v:Value)(W:World):Prop where
 md:Mods (Is ob) wl W
 out:Row W ob 31 #[.int .i64 c.sa,.int .i64 c.sr,.slice Av1 n1 cv1,.int .i64 c.ta,.int .i64 c.tr,.int .i64 c.ts,.slice Av2 n2 cv2,v]
 nest:∃vs,NestV jV W wl.heap.size v vs (c.inv.take k)
 lt:ob<wl.heap.size
theorem CcS.step{wl wr W:World}{ob:Nat}{c:Ct}{Av1:Option Addr}{n1 cv1:Nat}{Av2:Option Addr}{n2 cv2 k:Nat}{v v':Value}(h:CcS wl ob c Av1 n1 cv1 Av2 n2 cv2 k v wr)(hb:Below wl.heap.size wr W)(hn:∃vs,NestV jV W wl.heap.size v' vs (c.inv.take (k+1))):
  CcS wl ob c Av1 n1 cv1 Av2 n2 cv2 (k+1) v' (W.setCell ⟨ob,7,none⟩ v') where
 md:=(⟨hb.os.trans h.md.os,hb.tape.trans h.md.tape,hb.output.trans h.md.output,Nat.le_trans h.md.size hb.size,fun k hk hn=>(hb.block k hk).trans (h.md.block k hk hn)⟩:Mods (Is ob) wl W).put 7 v'
 out:=(h.out.below hb h.lt).put 7 v'
 nest:=by
  obtain ⟨vs,hn⟩:=hn
  exact ⟨vs,hn.mods ((Mods.refl (Is ob) W).put 7 v') fun k h1 _ h2=>by
   unfold Is at h2
   have:=h.lt
   omega⟩
 lt:=h.lt
theorem zL{w wr W:World}{b o n cc k c1 m:Nat}{A1:Option Addr}(hbl:b<w.heap.size)(hb:Below (w.heap.size+1) wr W)
  (h:wr.cell? ⟨w.heap.size,7,none⟩=some (.slice (some ⟨b,o,none⟩) n cc)∧wr.cell? ⟨b,o+k,none⟩=some (.slice A1 m c1)):
  W.cell? ⟨w.heap.size,7,none⟩=some (.slice (some ⟨b,o,none⟩) n cc)∧W.cell? ⟨b,o+k,none⟩=some (.slice A1 m c1):=
 ⟨(hb.cell (p:=⟨w.heap.size,7,none⟩) (Nat.lt_succ_self _)).trans h.1,(hb.cell (p:=⟨b,o+k,none⟩) (Nat.lt_succ_of_lt hbl)).trans h.2⟩
theorem zbK{A1:Option Addr}{k1:Nat}{A2:Option Addr}{k2:Nat}{A3:Option Addr}{k3:Nat}{c:Ct}(w:World)(h:CeAt w w.heap.size A1 k1 A2 k2 A3 k3 c)(hs:SmC c):
  Calls Tryz.prog 18 #[.agg #[.int .i64 c.sa,.int .i64 c.sr,.slice A1 c.bs.length k1,.int .i64 c.ta,.int .i64 c.tr,.int .i64 c.ts,.slice A2 c.ms.length k2,.slice A3 c.inv.length k3]] w (zgP w c):=by
 have mixed:Tryz.prog.follows .mixedOrders=true:=by kernel_rfl
 obtain ⟨i0,hi0,hz0,hz1,hz2⟩:=info_parts zhk
 obtain ⟨i1,hi1,hy0,hy1,hy2⟩:=info_parts zco
 obtain ⟨⟨s1,s2,s3⟩,⟨s4,s5,s6,s7⟩,s8,s9⟩:=hs
 have S9:=qH s9
 have hb0:=((Below.refl w.heap.size w).alloc (Nat.le_refl _) (.cells #[.int .i64 c.sa,.int .i64 c.sr,.slice A1 c.bs.length k1,.int .i64 c.ta,.int .i64 c.tr,.int .i64 c.ts,.slice A2 c.ms.length k2,.slice A3 c.inv.length k3] 31)).alloc (by simp) (.cells #[.int .i64 0,.int .i64 0,.slice none 0 0,.int .i64 0,.int .i64 0,.int .i64 0,.slice none 0 0,.slice none 0 0] 31)
 have HBX:=qH ((Row.new w 31 #[.int .i64 c.sa,.int .i64 c.sr,.slice A1 c.bs.length k1,.int .i64 c.ta,.int .i64 c.tr,.int .i64 c.ts,.slice A2 c.ms.length k2,.slice A3 c.inv.length k3]).alloc (.cells #[.int .i64 0,.int .i64 0,.slice none 0 0,.int .i64 0,.int .i64 0,.int .i64 0,.slice none 0 0,.slice none 0 0] 31))
 have HRS:=qH (Row.new' (W:=w.alloc (.cells #[.int .i64 c.sa,.int .i64 c.sr,.slice A1 c.bs.length k1,.int .i64 c.ta,.int .i64 c.tr,.int .i64 c.ts,.slice A2 c.ms.length k2,.slice A3 c.inv.length k3] 31)) (p:=w.heap.size+1) (by simp) 31 #[.int .i64 0,.int .i64 0,.slice none 0 0,.int .i64 0,.int .i64 0,.int .i64 0,.slice none 0 0,.slice none 0 0])
 have HB0:=qH hb0
 have HSE:=qH (h.below hb0)
 have HSZ:Hid (((w.alloc (.cells #[.int .i64 c.sa,.int .i64 c.sr,.slice A1 c.bs.length k1,.int .i64 c.ta,.int .i64 c.tr,.int .i64 c.ts,.slice A2 c.ms.length k2,.slice A3 c.inv.length k3] 31)).alloc (.cells #[.int .i64 0,.int .i64 0,.slice none 0 0,.int .i64 0,.int .i64 0,.int .i64 0,.slice none 0 0,.slice none 0 0] 31)).heap.size=w.heap.size+1+1):=by show _=_;simp
 clear h s9 hb0
 go_enter Tryz.func18,Tryz.ntmps18
 go_upto_region 1 with fail
 generalize ((w.alloc (.cells #[.int .i64 c.sa,.int .i64 c.sr,.slice A1 c.bs.length k1,.int .i64 c.ta,.int .i64 c.tr,.int .i64 c.ts,.slice A2 c.ms.length k2,.slice A3 c.inv.length k3] 31)).alloc (.cells #[.int .i64 0,.int .i64 0,.slice none 0 0,.int .i64 0,.int .i64 0,.int .i64 0,.slice none 0 0,.slice none 0 0] 31))=W0 at*
 go_cut [3] from 3 to 11 (fun s3 wx=>∃ob Av1 cv1 vs1 Av2 cv2 vs2,s3= .pointer (some ⟨ob,0,none⟩)∧Hid (NestV jC wx (w.heap.size+1+1) (.slice Av1 c.bs.length cv1) vs1 c.bs)∧Hid (NestV jv wx (w.heap.size+1+1) (.slice Av2 c.ms.length cv2) vs2 c.ms)∧Hid (Below W0.heap.size W0 wx)∧Hid (Row wx ob 31 #[.int .i64 c.sa,.int .i64 c.sr,.slice Av1 c.bs.length cv1,.int .i64 c.ta,.int .i64 c.tr,.int .i64 c.ts,.slice Av2 c.ms.length cv2,.slice none 0 0])∧w.heap.size+1<ob)
 case first=>
  have HSB:Hid (∀V,Below W0.heap.size W0 V→V.cell? ⟨w.heap.size,0,none⟩=some (.int .i64 c.sa)∧V.cell? ⟨w.heap.size,1,none⟩=some (.int .i64 c.sr)∧V.cell? ⟨w.heap.size,2,none⟩=some (.slice A1 c.bs.length k1)∧V.cell? ⟨w.heap.size,3,none⟩=some (.int .i64 c.ta)∧V.cell? ⟨w.heap.size,4,none⟩=some (.int .i64 c.tr)∧V.cell? ⟨w.heap.size,5,none⟩=some (.int .i64 c.ts)∧V.cell? ⟨w.heap.size,6,none⟩=some (.slice A2 c.ms.length k2)):=fun V hV=>by
   have hx:=HBX.out.below hV HBX.out.lt
   exact ⟨hx.cell 0,hx.cell 1,hx.cell 2,hx.cell 3,hx.cell 4,hx.cell 5,hx.cell 6⟩
  have C7:Hid (∀V,Below W0.heap.size W0 V→Calls Tryz.prog 56 #[.agg #[.int .i64 c.sa,.int .i64 c.sr,.slice A1 c.bs.length k1]] V (zgT V c.sa c.sr c.bs)):=fun V hV=>zd0 w.heap.size A1 c.bs k1 c.sa c.sr V (HSE.out.bs.below (hV.mono HB0.out.size)) (Nat.le_trans HB0.out.size hV.size) (by omega) (by omega)
  have C10:Hid (∀V,Below W0.heap.size W0 V→Calls Tryz.prog 57 #[.agg #[.int .i64 c.ta,.int .i64 c.tr,.int .i64 c.ts,.slice A2 c.ms.length k2]] V (zfb V c.ta c.tr c.ts c.ms)):=fun V hV=>zcf w.heap.size A2 c.ms k2 c.ta c.tr c.ts V (HSE.out.ms.below (hV.mono HB0.out.size)) (Nat.le_trans HB0.out.size hV.size) (by omega) (by omega)
  go_wp2_with fail
  refine wp_region_held_drew (S:=fun w'=>w'.cell? ⟨w.heap.size,0,none⟩=some (.int .i64 c.sa)∧w'.cell? ⟨w.heap.size,1,none⟩=some (.int .i64 c.sr)∧w'.cell? ⟨w.heap.size,2,none⟩=some (.slice A1 c.bs.length k1)∧w'.cell? ⟨w.heap.size,3,none⟩=some (.int .i64 c.ta)∧w'.cell? ⟨w.heap.size,4,none⟩=some (.int .i64 c.tr)∧w'.cell? ⟨w.heap.size,5,none⟩=some (.int .i64 c.ts)∧w'.cell? ⟨w.heap.size,6,none⟩=some (.slice A2 c.ms.length k2)) (by kernel_rfl) (HSB.out _ (Below.refl _ _).drew) (fun hHeld=> ?_)
  have HC0:Hid (Below W0.heap.size W0 W0.drew):=(Below.refl _ _).drew
  have hz8:w.heap.size+1+1≤W0.heap.size:=Nat.le_of_eq HSZ.out.symm
  generalize hVV:W0.drew=V0 at*
  clear hVV
  refine ze 0 5 (.pointer (some ⟨w.heap.size,0,none⟩)) rfl rfl (by kernel_rfl) (by kernel_rfl) (by kernel_rfl) (fun _ _ _ h=>h) (Or.inl ⟨by rfl,?_⟩) hHeld ?_
  ·intro w9 hSw
   (try dsimp only at hSw)
   go_simp
  (try simp only [Act.put,List.setIfInBounds_toArray,List.set_cons_zero,List.set_cons_succ])
  refine ze 1 6 (.agg #[.int .i64 c.sa,.int .i64 c.sr,.slice A1 c.bs.length k1]) rfl rfl (by kernel_rfl) (by kernel_rfl) (by kernel_rfl) (fun _ _ _ h=>h) (Or.inl ⟨by rfl,?_⟩) hHeld ?_
  ·intro w9 hSw
   (try dsimp only at hSw)
   go_simp
  (try simp only [Act.put,List.setIfInBounds_toArray,List.set_cons_zero,List.set_cons_succ])
  refine ze 3 8 (.pointer (some ⟨w.heap.size,3,none⟩)) rfl rfl (by kernel_rfl) (by kernel_rfl) (by kernel_rfl) (fun _ _ _ h=>h) (Or.inl ⟨by rfl,?_⟩) hHeld ?_
  ·intro w9 hSw
   (try dsimp only at hSw)
   go_simp
  (try simp only [Act.put,List.setIfInBounds_toArray,List.set_cons_zero,List.set_cons_succ])
  refine ze 4 9 (.agg #[.int .i64 c.ta,.int .i64 c.tr,.int .i64 c.ts,.slice A2 c.ms.length k2]) rfl rfl (by kernel_rfl) (by kernel_rfl) (by kernel_rfl) (fun _ _ _ h=>h) (Or.inl ⟨by rfl,?_⟩) hHeld ?_
  ·intro w9 hSw
   (try dsimp only at hSw)
   go_simp
  (try simp only [Act.put,List.setIfInBounds_toArray,List.set_cons_zero,List.set_cons_succ])
  refine wpAnyH_ready (rs:= [2,7]) (by kernel_rfl) (by simp) ?_
  refine AllReadyH.cons rfl (fun K hK=> ?_) ?_
  ·go_simp
   refine (C7.out V0 HC0.out).mono ?_
   rintro e V1 ⟨v1,vs1,rfl,hn,hb⟩
   (try go_wp2_with fail)
   have hvl:=hn.len
   obtain ⟨Av1,cv1,rfl,_,_⟩:=zg hn.outer
   rw [hvl] at hn
   have hzz:=HC0.out.size
   have HN1:=qH (hn.rebase (show w.heap.size+1+1≤V0.heap.size by omega))
   have HC1:=qH (HC0.out.trans (hb.mono hzz))
   rw [hvl]
   refine hK.out _ _ (HSB.out _ HC1.out) (fun hHeld=> ?_)
   clear hK K hn hb hvl
   refine wpAnyH_ready (rs:= [5,7]) (by kernel_rfl) (by simp) ?_
   refine AllReadyH.cons rfl (fun K hK=> ?_) ?_
   ·go_simp
    refine (C10.out V1 HC1.out).mono ?_
    rintro e V2 ⟨v2,vs2,rfl,hn,hb⟩
    (try go_wp2_with fail)
    have hvl:=hn.len
    obtain ⟨Av2,cv2,rfl,_,_⟩:=zg hn.outer
    rw [hvl] at hn
    have hzz:=HC1.out.size
    have HN2:=qH (hn.rebase (show w.heap.size+1+1≤V1.heap.size by omega))
    have HC2:=qH (HC1.out.trans (hb.mono hzz))
    have HT1:=qH (HN1.out.below hb)
    clear HN1
    have HN1:=HT1
    clear HT1
    rw [hvl]
    refine hK.out _ _ (HSB.out _ HC2.out) (fun hHeld=> ?_)
    clear hK K hn hb hvl
    refine ze 6 11 (.agg #[.int .i64 c.sa,.int .i64 c.sr,.slice Av1 c.bs.length cv1,.int .i64 c.ta,.int .i64 c.tr,.int .i64 c.ts,.slice Av2 c.ms.length cv2,.slice none 0 0]) rfl rfl (by kernel_rfl) (by kernel_rfl) (by kernel_rfl) (fun _ _ _ h=>h) (Or.inl ⟨by rfl,?_⟩) hHeld ?_
    ·intro w9 hSw
     (try dsimp only at hSw)
     go_simp
    (try simp only [Act.put,List.setIfInBounds_toArray,List.set_cons_zero,List.set_cons_succ])
    refine wpAnyH_ready (rs:= [7]) (by kernel_rfl) (by simp) ?_
    refine AllReadyH.cons rfl (fun K hK=> ?_) ?_
    ·go_simp
     have HC3:=qH (HC2.out.alloc HC2.out.size (.cells #[.int .i64 0,.int .i64 0,.slice none 0 0,.int .i64 0,.int .i64 0,.int .i64 0,.slice none 0 0,.slice none 0 0] 31))
     have HRO:=qH (Row.new V2 31 #[.int .i64 0,.int .i64 0,.slice none 0 0,.int .i64 0,.int .i64 0,.int .i64 0,.slice none 0 0,.slice none 0 0])
     have hob:W0.heap.size≤V2.heap.size:=HC2.out.size
     have hob2:w.heap.size+1+1≤V2.heap.size:=by omega
     have HT1:=qH (HN1.out.below ((Below.refl V2.heap.size V2).alloc (Nat.le_refl _) (.cells #[.int .i64 0,.int .i64 0,.slice none 0 0,.int .i64 0,.int .i64 0,.int .i64 0,.slice none 0 0,.slice none 0 0] 31)))
     clear HN1
     have HN1:=HT1
     clear HT1
     have HT2:=qH (HN2.out.below ((Below.refl V2.heap.size V2).alloc (Nat.le_refl _) (.cells #[.int .i64 0,.int .i64 0,.slice none 0 0,.int .i64 0,.int .i64 0,.int .i64 0,.slice none 0 0,.slice none 0 0] 31)))
     clear HN2
     have HN2:=HT2
     clear HT2
     refine hK.out _ _ (HSB.out _ HC3.out) (fun hHeld=> ?_)
     clear hK K
     generalize V2.heap.size=ob at*
     generalize V2.alloc (.cells #[.int .i64 0,.int .i64 0,.slice none 0 0,.int .i64 0,.int .i64 0,.int .i64 0,.slice none 0 0,.slice none 0 0] 31)=V3 at*
     refine wpAnyH_ready (rs:= [8]) (by kernel_rfl) (by simp) ?_
     refine AllReadyH.cons rfl (fun K hK=> ?_) ?_
     ·have hrow:=HRO.out
      have f0:=hrow.k0;have f1:=hrow.k1;have f2:=hrow.k2;have f3:=hrow.k3;have f4:=hrow.k4;have f5:=hrow.k5;have f6:=hrow.k6;have f7:=hrow.k7
      have g0:=hrow.frozen 0;have g1:=hrow.frozen 1;have g2:=hrow.frozen 2;have g3:=hrow.frozen 3;have g4:=hrow.frozen 4;have g5:=hrow.frozen 5;have g6:=hrow.frozen 6;have g7:=hrow.frozen 7
      have HRW:=qH (((((((((hrow.put 0 (.int .i64 c.sa)).put 1 (.int .i64 c.sr)).put 2 (.slice Av1 c.bs.length cv1)).put 3 (.int .i64 c.ta)).put 4 (.int .i64 c.tr)).put 5 (.int .i64 c.ts)).put 6 (.slice Av2 c.ms.length cv2)).put 7 (.slice none 0 0)))
      have hmm:=(((((((((Mods.refl (Is ob) V3).put 0 (.int .i64 c.sa)).put 1 (.int .i64 c.sr)).put 2 (.slice Av1 c.bs.length cv1)).put 3 (.int .i64 c.ta)).put 4 (.int .i64 c.tr)).put 5 (.int .i64 c.ts)).put 6 (.slice Av2 c.ms.length cv2)).put 7 (.slice none 0 0))
      have HM1:=qH (HN1.out.aside hrow (by decide) (by decide) hmm)
      have HM2:=qH (HN2.out.aside hrow (by decide) (by decide) hmm)
      have HB9:=qH (HC3.out.trans (hmm.below (B:=W0.heap.size) HC3.out.size (fun k hk=>by have:k=ob:=hk;omega)))
      go_simp
      refine hK.out _ _ (HSB.out _ HB9.out) (fun hHeld=> ?_)
      clear hK K f0 f1 f2 f3 f4 f5 f6 f7 g0 g1 g2 g3 g4 g5 g6 g7 hrow hmm
      refine wpAnyH_done (by kernel_rfl) ?_ _
      clear hHeld
      go_wp2_with fail
      go_meet
      case rel=>exact ⟨ob,Av1,cv1,vs1,Av2,cv2,vs2,rfl,HM1.out,HM2.out,HB9.out,HRW.out,by omega⟩
     exact AllReadyH.nil
    exact AllReadyH.nil
   refine AllReadyH.cons rfl (fun K hK=> ?_) ?_
   ·go_simp
    have HC2:=qH (HC1.out.alloc HC1.out.size (.cells #[.int .i64 0,.int .i64 0,.slice none 0 0,.int .i64 0,.int .i64 0,.int .i64 0,.slice none 0 0,.slice none 0 0] 31))
    have HRO:=qH (Row.new V1 31 #[.int .i64 0,.int .i64 0,.slice none 0 0,.int .i64 0,.int .i64 0,.int .i64 0,.slice none 0 0,.slice none 0 0])
    have hob:W0.heap.size≤V1.heap.size:=HC1.out.size
    have hob2:w.heap.size+1+1≤V1.heap.size:=by omega
    have HT1:=qH (HN1.out.below ((Below.refl V1.heap.size V1).alloc (Nat.le_refl _) (.cells #[.int .i64 0,.int .i64 0,.slice none 0 0,.int .i64 0,.int .i64 0,.int .i64 0,.slice none 0 0,.slice none 0 0] 31)))
    clear HN1
    have HN1:=HT1
    clear HT1
    refine hK.out _ _ (HSB.out _ HC2.out) (fun hHeld=> ?_)
    clear hK K
    generalize V1.heap.size=ob at*
    generalize V1.alloc (.cells #[.int .i64 0,.int .i64 0,.slice none 0 0,.int .i64 0,.int .i64 0,.int .i64 0,.slice none 0 0,.slice none 0 0] 31)=V2 at*
    refine wpAnyH_ready (rs:= [5]) (by kernel_rfl) (by simp) ?_
    refine AllReadyH.cons rfl (fun K hK=> ?_) ?_
    ·go_simp
     refine (C10.out V2 HC2.out).mono ?_
     rintro e V3 ⟨v2,vs2,rfl,hn,hb⟩
     (try go_wp2_with fail)
     have hvl:=hn.len
     obtain ⟨Av2,cv2,rfl,_,_⟩:=zg hn.outer
     rw [hvl] at hn
     have hzz:=HC2.out.size
     have HN2:=qH (hn.rebase (show w.heap.size+1+1≤V2.heap.size by omega))
     have HC3:=qH (HC2.out.trans (hb.mono hzz))
     have HT1:=qH (HN1.out.below hb)
     clear HN1
     have HN1:=HT1
     clear HT1
     have HT3:=qH (HRO.out.below hb HRO.out.lt)
     clear HRO
     have HRO:=HT3
     clear HT3
     rw [hvl]
     refine hK.out _ _ (HSB.out _ HC3.out) (fun hHeld=> ?_)
     clear hK K hn hb hvl
     refine ze 6 11 (.agg #[.int .i64 c.sa,.int .i64 c.sr,.slice Av1 c.bs.length cv1,.int .i64 c.ta,.int .i64 c.tr,.int .i64 c.ts,.slice Av2 c.ms.length cv2,.slice none 0 0]) rfl rfl (by kernel_rfl) (by kernel_rfl) (by kernel_rfl) (fun _ _ _ h=>h) (Or.inl ⟨by rfl,?_⟩) hHeld ?_
     ·intro w9 hSw
      (try dsimp only at hSw)
      go_simp
     (try simp only [Act.put,List.setIfInBounds_toArray,List.set_cons_zero,List.set_cons_succ])
     refine wpAnyH_ready (rs:= [8]) (by kernel_rfl) (by simp) ?_
     refine AllReadyH.cons rfl (fun K hK=> ?_) ?_
     ·have hrow:=HRO.out
      have f0:=hrow.k0;have f1:=hrow.k1;have f2:=hrow.k2;have f3:=hrow.k3;have f4:=hrow.k4;have f5:=hrow.k5;have f6:=hrow.k6;have f7:=hrow.k7
      have g0:=hrow.frozen 0;have g1:=hrow.frozen 1;have g2:=hrow.frozen 2;have g3:=hrow.frozen 3;have g4:=hrow.frozen 4;have g5:=hrow.frozen 5;have g6:=hrow.frozen 6;have g7:=hrow.frozen 7
      have HRW:=qH (((((((((hrow.put 0 (.int .i64 c.sa)).put 1 (.int .i64 c.sr)).put 2 (.slice Av1 c.bs.length cv1)).put 3 (.int .i64 c.ta)).put 4 (.int .i64 c.tr)).put 5 (.int .i64 c.ts)).put 6 (.slice Av2 c.ms.length cv2)).put 7 (.slice none 0 0)))
      have hmm:=(((((((((Mods.refl (Is ob) V3).put 0 (.int .i64 c.sa)).put 1 (.int .i64 c.sr)).put 2 (.slice Av1 c.bs.length cv1)).put 3 (.int .i64 c.ta)).put 4 (.int .i64 c.tr)).put 5 (.int .i64 c.ts)).put 6 (.slice Av2 c.ms.length cv2)).put 7 (.slice none 0 0))
      have HM1:=qH (HN1.out.aside hrow (by decide) (by decide) hmm)
      have HM2:=qH (HN2.out.aside hrow (by decide) (by decide) hmm)
      have HB9:=qH (HC3.out.trans (hmm.below (B:=W0.heap.size) HC3.out.size (fun k hk=>by have:k=ob:=hk;omega)))
      go_simp
      refine hK.out _ _ (HSB.out _ HB9.out) (fun hHeld=> ?_)
      clear hK K f0 f1 f2 f3 f4 f5 f6 f7 g0 g1 g2 g3 g4 g5 g6 g7 hrow hmm
      refine wpAnyH_done (by kernel_rfl) ?_ _
      clear hHeld
      go_wp2_with fail
      go_meet
      case rel=>exact ⟨ob,Av1,cv1,vs1,Av2,cv2,vs2,rfl,HM1.out,HM2.out,HB9.out,HRW.out,by omega⟩
     exact AllReadyH.nil
    exact AllReadyH.nil
   exact AllReadyH.nil
  refine AllReadyH.cons rfl (fun K hK=> ?_) ?_
  ·go_simp
   have HC1:=qH (HC0.out.alloc HC0.out.size (.cells #[.int .i64 0,.int .i64 0,.slice none 0 0,.int .i64 0,.int .i64 0,.int .i64 0,.slice none 0 0,.slice none 0 0] 31))
   have HRO:=qH (Row.new V0 31 #[.int .i64 0,.int .i64 0,.slice none 0 0,.int .i64 0,.int .i64 0,.int .i64 0,.slice none 0 0,.slice none 0 0])
   have hob:W0.heap.size≤V0.heap.size:=HC0.out.size
   have hob2:w.heap.size+1+1≤V0.heap.size:=by omega
   refine hK.out _ _ (HSB.out _ HC1.out) (fun hHeld=> ?_)
   clear hK K
   generalize V0.heap.size=ob at*
   generalize V0.alloc (.cells #[.int .i64 0,.int .i64 0,.slice none 0 0,.int .i64 0,.int .i64 0,.int .i64 0,.slice none 0 0,.slice none 0 0] 31)=V1 at*
   refine wpAnyH_ready (rs:= [2]) (by kernel_rfl) (by simp) ?_
   refine AllReadyH.cons rfl (fun K hK=> ?_) ?_
   ·go_simp
    refine (C7.out V1 HC1.out).mono ?_
    rintro e V2 ⟨v1,vs1,rfl,hn,hb⟩
    (try go_wp2_with fail)
    have hvl:=hn.len
    obtain ⟨Av1,cv1,rfl,_,_⟩:=zg hn.outer
    rw [hvl] at hn
    have hzz:=HC1.out.size
    have HN1:=qH (hn.rebase (show w.heap.size+1+1≤V1.heap.size by omega))
    have HC2:=qH (HC1.out.trans (hb.mono hzz))
    have HT3:=qH (HRO.out.below hb HRO.out.lt)
    clear HRO
    have HRO:=HT3
    clear HT3
    rw [hvl]
    refine hK.out _ _ (HSB.out _ HC2.out) (fun hHeld=> ?_)
    clear hK K hn hb hvl
    refine wpAnyH_ready (rs:= [5]) (by kernel_rfl) (by simp) ?_
    refine AllReadyH.cons rfl (fun K hK=> ?_) ?_
    ·go_simp
     refine (C10.out V2 HC2.out).mono ?_
     rintro e V3 ⟨v2,vs2,rfl,hn,hb⟩
     (try go_wp2_with fail)
     have hvl:=hn.len
     obtain ⟨Av2,cv2,rfl,_,_⟩:=zg hn.outer
     rw [hvl] at hn
     have hzz:=HC2.out.size
     have HN2:=qH (hn.rebase (show w.heap.size+1+1≤V2.heap.size by omega))
     have HC3:=qH (HC2.out.trans (hb.mono hzz))
     have HT1:=qH (HN1.out.below hb)
     clear HN1
     have HN1:=HT1
     clear HT1
     have HT3:=qH (HRO.out.below hb HRO.out.lt)
     clear HRO
     have HRO:=HT3
     clear HT3
     rw [hvl]
     refine hK.out _ _ (HSB.out _ HC3.out) (fun hHeld=> ?_)
     clear hK K hn hb hvl
     refine ze 6 11 (.agg #[.int .i64 c.sa,.int .i64 c.sr,.slice Av1 c.bs.length cv1,.int .i64 c.ta,.int .i64 c.tr,.int .i64 c.ts,.slice Av2 c.ms.length cv2,.slice none 0 0]) rfl rfl (by kernel_rfl) (by kernel_rfl) (by kernel_rfl) (fun _ _ _ h=>h) (Or.inl ⟨by rfl,?_⟩) hHeld ?_
     ·intro w9 hSw
      (try dsimp only at hSw)
      go_simp
     (try simp only [Act.put,List.setIfInBounds_toArray,List.set_cons_zero,List.set_cons_succ])
     refine wpAnyH_ready (rs:= [8]) (by kernel_rfl) (by simp) ?_
     refine AllReadyH.cons rfl (fun K hK=> ?_) ?_
     ·have hrow:=HRO.out
      have f0:=hrow.k0;have f1:=hrow.k1;have f2:=hrow.k2;have f3:=hrow.k3;have f4:=hrow.k4;have f5:=hrow.k5;have f6:=hrow.k6;have f7:=hrow.k7
      have g0:=hrow.frozen 0;have g1:=hrow.frozen 1;have g2:=hrow.frozen 2;have g3:=hrow.frozen 3;have g4:=hrow.frozen 4;have g5:=hrow.frozen 5;have g6:=hrow.frozen 6;have g7:=hrow.frozen 7
      have HRW:=qH (((((((((hrow.put 0 (.int .i64 c.sa)).put 1 (.int .i64 c.sr)).put 2 (.slice Av1 c.bs.length cv1)).put 3 (.int .i64 c.ta)).put 4 (.int .i64 c.tr)).put 5 (.int .i64 c.ts)).put 6 (.slice Av2 c.ms.length cv2)).put 7 (.slice none 0 0)))
      have hmm:=(((((((((Mods.refl (Is ob) V3).put 0 (.int .i64 c.sa)).put 1 (.int .i64 c.sr)).put 2 (.slice Av1 c.bs.length cv1)).put 3 (.int .i64 c.ta)).put 4 (.int .i64 c.tr)).put 5 (.int .i64 c.ts)).put 6 (.slice Av2 c.ms.length cv2)).put 7 (.slice none 0 0))
      have HM1:=qH (HN1.out.aside hrow (by decide) (by decide) hmm)
      have HM2:=qH (HN2.out.aside hrow (by decide) (by decide) hmm)
      have HB9:=qH (HC3.out.trans (hmm.below (B:=W0.heap.size) HC3.out.size (fun k hk=>by have:k=ob:=hk;omega)))
      go_simp
      refine hK.out _ _ (HSB.out _ HB9.out) (fun hHeld=> ?_)
      clear hK K f0 f1 f2 f3 f4 f5 f6 f7 g0 g1 g2 g3 g4 g5 g6 g7 hrow hmm
      refine wpAnyH_done (by kernel_rfl) ?_ _
      clear hHeld
      go_wp2_with fail
      go_meet
      case rel=>exact ⟨ob,Av1,cv1,vs1,Av2,cv2,vs2,rfl,HM1.out,HM2.out,HB9.out,HRW.out,by omega⟩
     exact AllReadyH.nil
    exact AllReadyH.nil
   exact AllReadyH.nil
  exact AllReadyH.nil
 case rest=>
  obtain ⟨ob,Av1,cv1,vs1,Av2,cv2,vs2,rfl,HN1,HN2,HB2,HOB,hob⟩:=hcut
  obtain ⟨WL,hWL⟩:∃z,z=wc:=⟨_,rfl⟩
  subst hWL
  have HBXL:=qH (HBX.out.below HB2.out (by rw [HSZ.out];omega))
  have HRSL:=qH (HRS.out.below HB2.out (by rw [HSZ.out];omega))
  have HBL:=qH (HB0.out.trans (HB2.out.mono (by rw [HSZ.out];omega)))
  have HSEL:=qH (HSE.out.below (HB2.out.mono (by rw [HSZ.out];omega)))
  clear HBX HRS HB0 HSE HB2
  have HS0:Hid (CcS WL ob c Av1 c.bs.length cv1 Av2 c.ms.length cv2 0 (.slice none 0 0) WL):=⟨Mods.refl _ _,HOB.out,⟨[],by rw [List.take_zero];exact NestV.nil _ _⟩,HOB.out.lt⟩
  go_upto_region 2 with fail
  go_wp2
  go_loopg [4] c.inv.length (fun g s4 wr=>∃(k:Nat) (v:Value),k+g=c.inv.length∧s4= .int .i64 (k:Int)∧Hid (CcS WL ob c Av1 c.bs.length cv1 Av2 c.ms.length cv2 k v wr))
  case atStart=>exact ⟨0,_,by omega,by go_num,HS0.out⟩
  case round=>
   clear HS0
   obtain ⟨k,v,hgk,rfl,HC⟩:=hrel
   have hne:¬w.heap.size=ob:=by omega
   have d7:=(HBXL.out.mods HC.out.md hne).k7
   by_cases hlt:k<c.inv.length
   ·have hltz:(k:Int)<(c.inv.length:Int):=by omega
    obtain ⟨b,o,Al,cl,rfl,hb,hc0,hl1,hl2,hsl⟩:=HSEL.out.inv.at_ hlt
    have hc1:=(HC.out.md.cell (p:=⟨b,o+k,none⟩) (Nat.lt_of_lt_of_le hb HBL.out.size) (show¬b=ob by omega)).trans hc0
    have f2:=HC.out.out.k7
    have HX:=qH (And.intro d7 hc1)
    have hbz:WL.heap.size≤wr.heap.size:=HC.out.md.size
    have hwl:w.heap.size+1<WL.heap.size:=HRSL.out.lt
    obtain ⟨vs,hnest⟩:=HC.out.nest
    have HN:=qH hnest
    have hvl:vs.length=k:=by rw [hnest.len,List.length_take];omega
    have hwb:Below w.heap.size WL wr:=HC.out.md.below (by omega) fun k hk=>by have:k=ob:=hk;omega
    have HSX0:=qH (hsl.below hwb)
    have hyl:=S9.out _ (List.getElem_mem hlt)
    have HT:=qH (show c.inv.take (k+1)=c.inv.take k++ [c.inv[k]] from List.take_succ_eq_append_getElem hlt)
    have kb:=Below.refl wr.heap.size wr
    obtain ⟨Av,cv,rfl,_,_⟩:=zg hnest.outer
    rw [hvl] at f2 HN
    have hil:=s8
    clear hnest hc0 hc1 hsl hwb
    generalize c.inv[k]=y at*
    have HOut:Hid (wr.ownsRow WL.heap.size jV.eo jV.so (.slice Av k cv) k ((vs.zip (c.inv.take k)).flatMap fun p=>jV.oc p.1 p.2)):=by
     have:=HN.out.outer
     rw [hvl] at this
     exact this
    have HE:=qH (YT wr 55 2)
    have HSX:=qH (HSX0.out.below (((Below.refl w.heap.size wr).alloc (by omega) (.cells #[] 55))))
    have hlo:=HC.out.lt
    have hw1:w.heap.size+1≤(⟨ob,7,none⟩:Addr).block:=(by show w.heap.size+1≤ob;omega)
    have hw2:w.heap.size+1≤WL.heap.size:=by omega
    have hw3:w.heap.size+1≤wr.heap.size:=by omega
    have hw4:ob<wr.heap.size:=by omega
    have hz9:wr.heap.size≤(wr.alloc (.cells #[] 55)).heap.size:=by simp
    have HK0:=qH (((Below.refl wr.heap.size wr).alloc (Nat.le_refl _) (.cells #[] 55)))
    go_wp2_with fail
    refine wp_region_held_drew (S:=(fun w'=>w'.cell? ⟨w.heap.size,7,none⟩=some (.slice (some ⟨b,o,none⟩) c.inv.length k3)∧w'.cell? ⟨b,o+k,none⟩=some (.slice Al y.length cl))) (by kernel_rfl) (zL hb (kb.drew.mono hw3) HX.out) (fun hHeld=> ?_)
    refine ze 0 19 (.pointer (some ⟨ob,7,none⟩)) rfl rfl (by kernel_rfl) (by kernel_rfl) (by kernel_rfl) (fun _ _ _ h=>h) (Or.inl ⟨by rfl,?_⟩) hHeld ?_
    ·intro w9 hSw
     (try dsimp only at hSw)
     go_simp
    (try simp only [Act.put,List.setIfInBounds_toArray,List.set_cons_zero,List.set_cons_succ])
    refine ze 3 22 (.pointer (some ⟨w.heap.size,7,none⟩)) rfl rfl (by kernel_rfl) (by kernel_rfl) (by kernel_rfl) (fun _ _ _ h=>h) (Or.inl ⟨by rfl,?_⟩) hHeld ?_
    ·intro w9 hSw
     (try dsimp only at hSw)
     go_simp
    (try simp only [Act.put,List.setIfInBounds_toArray,List.set_cons_zero,List.set_cons_succ])
    refine ze 4 23 (.slice (some ⟨b,o,none⟩) c.inv.length k3) rfl rfl (by kernel_rfl) (by kernel_rfl) (by kernel_rfl) (fun _ _ _ h=>h) (Or.inl ⟨by rfl,?_⟩) hHeld ?_
    ·intro w9 hSw
     (try dsimp only at hSw)
     go_simp
    (try simp only [Act.put,List.setIfInBounds_toArray,List.set_cons_zero,List.set_cons_succ])
    refine ze 5 24 (.int .i64 k) rfl rfl (by kernel_rfl) (by kernel_rfl) (by kernel_rfl) (fun _ _ _ h=>h) (Or.inl ⟨by rfl,?_⟩) hHeld ?_
    ·intro w9 hSw
     (try dsimp only at hSw)
     go_simp
    (try simp only [Act.put,List.setIfInBounds_toArray,List.set_cons_zero,List.set_cons_succ])
    refine ze 6 25 (.pointer (some ⟨b,o+k,none⟩)) rfl rfl (by kernel_rfl) (by kernel_rfl) (by kernel_rfl) (fun _ _ _ h=>h) (Or.inl ⟨by rfl,?_⟩) hHeld ?_
    ·intro w9 hSw
     (try dsimp only at hSw)
     go_simp
    (try simp only [Act.put,List.setIfInBounds_toArray,List.set_cons_zero,List.set_cons_succ])
    refine ze 7 26 (.slice Al y.length cl) rfl rfl (by kernel_rfl) (by kernel_rfl) (by kernel_rfl) (fun _ _ _ h=>h) (Or.inl ⟨by rfl,?_⟩) hHeld ?_
    ·intro w9 hSw
     (try dsimp only at hSw)
     go_simp
    (try simp only [Act.put,List.setIfInBounds_toArray,List.set_cons_zero,List.set_cons_succ])
    refine wpAnyH_ready (rs:= [1,2]) (by kernel_rfl) (by simp) ?_
    refine AllReadyH.cons rfl (fun K hK=> ?_) ?_
    ·go_simp
     refine hK.out _ _ (zL hb (kb.drew.mono hw3) HX.out) (fun hHeld=> ?_)
     clear hK K
     refine wpAnyH_ready (rs:= [2]) (by kernel_rfl) (by simp) ?_
     refine AllReadyH.cons rfl (fun K hK=> ?_) ?_
     ·go_simp
      refine hK.out _ _ (zL hb (HK0.out.drew.mono hw3) HX.out) (fun hHeld=> ?_)
      clear hK K
      refine wpAnyH_ready (rs:= [8]) (by kernel_rfl) (by simp) ?_
      refine AllReadyH.cons rfl (fun K hK=> ?_) ?_
      ·refine zj _ rfl (.tmp 21) (.tmp 26) 52 rfl wr.heap.size 55 i0 _ 2 16 Tryz.underlying52 hi0 hz0 hz1 hz2 rfl (by decide) _ 0 [] rfl HE.out w.heap.size Al _ cl (prs y) rfl HSX.out (jF _) (QO _) (by unfold maxLen;omega) (by omega) hz9 ?_
       intro v1 W1 ho1 hg1 ha1
       rw [Nat.zero_add,List.nil_append] at ho1
       obtain ⟨A2,c2,rfl,_,_⟩:=zg ho1
       have HO1:=qH ho1
       have kb1:=(HK0.out.grown (⟨hg1.os,hg1.tape,hg1.output,hg1.size,hg1.block⟩:World.grownBy (wr.alloc (.cells #[] 55)) W1 (some wr.heap.size)) hz9 (fun k hk=>(by injection hk with hk;omega)))
       have f3:=(kb1.cell (p:=⟨ob,7,none⟩) hw4).trans f2
       have hw5:=Nat.lt_of_lt_of_le hw4 kb1.size
       clear ho1 hg1 ha1
       refine hK.out _ _ (zL hb (kb1.mono hw3) HX.out) (fun hHeld=> ?_)
       clear hK K
       refine wpAnyH_ready (rs:= [9]) (by kernel_rfl) (by simp) ?_
       refine AllReadyH.cons rfl (fun K hK=> ?_) ?_
       ·go_simp
        refine hK.out _ _ (zL hb ((kb1.alloc kb1.size _).mono hw3) HX.out) (fun hHeld=> ?_)
        clear hK K
        refine wpAnyH_ready (rs:= [10]) (by kernel_rfl) (by simp) ?_
        refine AllReadyH.cons rfl (fun K hK=> ?_) ?_
        ·refine zj _ rfl (.tmp 20) (.tmp 28) 29 rfl WL.heap.size 52 i1 _ 1 24 Tryz.underlying29 hi1 hy0 hy1 hy2 rfl (by decide) _ k _ rfl ((Mods.of_below (S:=No) (kb1.alloc kb1.size (.cells #[.slice A2 y.length c2] 52))).ownS HOut.out (fun _ _ h=>h)) (W1.heap.size+1) (some ⟨W1.heap.size,0,none⟩) 1 1 (jV.oc (.slice A2 y.length c2) y) rfl (yn rfl #[.slice A2 y.length c2] 52 rfl) rfl (YH y A2 _ c2) (by unfold maxLen;omega) (by omega) (Nat.le_trans hbz (kb1.alloc kb1.size (.cells #[.slice A2 y.length c2] 52)).size) ?_
         intro v2 W2 ho2 hg2 ha2
         obtain ⟨A3,c3,rfl,_,_⟩:=zg ho2
         have hgg:World.grownBy (W1.alloc (.cells #[.slice A2 y.length c2] 52)) W2 (Value.slice Av k cv).ownBlock:=⟨hg2.os,hg2.tape,hg2.output,hg2.size,hg2.block⟩
         have HG2:=qH hgg
         have HO2:=qH ho2
         have kc:=(((kb1.mono hbz).alloc (Nat.le_trans hbz kb1.size) (.cells #[.slice A2 y.length c2] 52)).grown hgg (Nat.le_trans hbz (kb1.alloc kb1.size _).size) (fun k hk=>(z9 HOut.out k hk).1))
         have hfr:=(HC.out.out.below kc hlo).frozen 7
         have f4:=(kc.cell (p:=⟨ob,7,none⟩) hlo).trans f2
         clear ho2 hg2 ha2 hgg
         refine hK.out _ _ (zL hb (kc.mono hw2) HX.out) (fun hHeld=> ?_)
         clear hK K
         refine ze 11 30 (.pointer (some ⟨ob,7,none⟩)) rfl rfl (by kernel_rfl) (by kernel_rfl) (by kernel_rfl) (fun _ _ _ h=>h) (Or.inl ⟨by rfl,?_⟩) hHeld ?_
         ·intro w9 hSw
          (try dsimp only at hSw)
          go_simp
         (try simp only [Act.put,List.setIfInBounds_toArray,List.set_cons_zero,List.set_cons_succ])
         refine wpAnyH_ready (rs:= [12]) (by kernel_rfl) (by simp) ?_
         refine AllReadyH.cons rfl (fun K hK=> ?_) ?_
         ·go_simp
          refine hK.out _ _ (zL hb ((kc.mono hw2).setCell hw1 _) HX.out) (fun hHeld=> ?_)
          clear hK K
          refine wpAnyH_done (by kernel_rfl) ?_ _
          have hN2:∃vs,NestV jV W2 WL.heap.size (.slice A3 (k+1) c3) vs (c.inv.take (k+1)):=⟨_,by rw [HT.out];exact NestV.snoc (M:=No) HN.out (Mods.of_below kb1) (fun _ h=>h.elim) hbz HO1.out _ (by rw [hvl];exact HO2.out) HG2.out⟩
          have HS9:=qH (HC.out.step kc hN2)
          clear hHeld hN2 f2 f3 f4 hfr d7
          go_wp2
          go_roundg (c.inv.length - (k+1))
          case measure=>omega
          case rel=>exact ⟨k+1,_,by omega,by go_num,HS9.out⟩
         exact AllReadyH.nil
        exact AllReadyH.nil
       exact AllReadyH.nil
      exact AllReadyH.nil
     exact AllReadyH.nil
    refine AllReadyH.cons rfl (fun K hK=> ?_) ?_
    ·go_simp
     refine hK.out _ _ (zL hb (HK0.out.drew.mono hw3) HX.out) (fun hHeld=> ?_)
     clear hK K
     refine wpAnyH_ready (rs:= [1,8]) (by kernel_rfl) (by simp) ?_
     refine AllReadyH.cons rfl (fun K hK=> ?_) ?_
     ·go_simp
      refine hK.out _ _ (zL hb (HK0.out.drew.mono hw3) HX.out) (fun hHeld=> ?_)
      clear hK K
      refine wpAnyH_ready (rs:= [8]) (by kernel_rfl) (by simp) ?_
      refine AllReadyH.cons rfl (fun K hK=> ?_) ?_
      ·refine zj _ rfl (.tmp 21) (.tmp 26) 52 rfl wr.heap.size 55 i0 _ 2 16 Tryz.underlying52 hi0 hz0 hz1 hz2 rfl (by decide) _ 0 [] rfl HE.out w.heap.size Al _ cl (prs y) rfl HSX.out (jF _) (QO _) (by unfold maxLen;omega) (by omega) hz9 ?_
       intro v1 W1 ho1 hg1 ha1
       rw [Nat.zero_add,List.nil_append] at ho1
       obtain ⟨A2,c2,rfl,_,_⟩:=zg ho1
       have HO1:=qH ho1
       have kb1:=(HK0.out.grown (⟨hg1.os,hg1.tape,hg1.output,hg1.size,hg1.block⟩:World.grownBy (wr.alloc (.cells #[] 55)) W1 (some wr.heap.size)) hz9 (fun k hk=>(by injection hk with hk;omega)))
       have f3:=(kb1.cell (p:=⟨ob,7,none⟩) hw4).trans f2
       have hw5:=Nat.lt_of_lt_of_le hw4 kb1.size
       clear ho1 hg1 ha1
       refine hK.out _ _ (zL hb (kb1.mono hw3) HX.out) (fun hHeld=> ?_)
       clear hK K
       refine wpAnyH_ready (rs:= [9]) (by kernel_rfl) (by simp) ?_
       refine AllReadyH.cons rfl (fun K hK=> ?_) ?_
       ·go_simp
        refine hK.out _ _ (zL hb ((kb1.alloc kb1.size _).mono hw3) HX.out) (fun hHeld=> ?_)
        clear hK K
        refine wpAnyH_ready (rs:= [10]) (by kernel_rfl) (by simp) ?_
        refine AllReadyH.cons rfl (fun K hK=> ?_) ?_
        ·refine zj _ rfl (.tmp 20) (.tmp 28) 29 rfl WL.heap.size 52 i1 _ 1 24 Tryz.underlying29 hi1 hy0 hy1 hy2 rfl (by decide) _ k _ rfl ((Mods.of_below (S:=No) (kb1.alloc kb1.size (.cells #[.slice A2 y.length c2] 52))).ownS HOut.out (fun _ _ h=>h)) (W1.heap.size+1) (some ⟨W1.heap.size,0,none⟩) 1 1 (jV.oc (.slice A2 y.length c2) y) rfl (yn rfl #[.slice A2 y.length c2] 52 rfl) rfl (YH y A2 _ c2) (by unfold maxLen;omega) (by omega) (Nat.le_trans hbz (kb1.alloc kb1.size (.cells #[.slice A2 y.length c2] 52)).size) ?_
         intro v2 W2 ho2 hg2 ha2
         obtain ⟨A3,c3,rfl,_,_⟩:=zg ho2
         have hgg:World.grownBy (W1.alloc (.cells #[.slice A2 y.length c2] 52)) W2 (Value.slice Av k cv).ownBlock:=⟨hg2.os,hg2.tape,hg2.output,hg2.size,hg2.block⟩
         have HG2:=qH hgg
         have HO2:=qH ho2
         have kc:=(((kb1.mono hbz).alloc (Nat.le_trans hbz kb1.size) (.cells #[.slice A2 y.length c2] 52)).grown hgg (Nat.le_trans hbz (kb1.alloc kb1.size _).size) (fun k hk=>(z9 HOut.out k hk).1))
         have hfr:=(HC.out.out.below kc hlo).frozen 7
         have f4:=(kc.cell (p:=⟨ob,7,none⟩) hlo).trans f2
         clear ho2 hg2 ha2 hgg
         refine hK.out _ _ (zL hb (kc.mono hw2) HX.out) (fun hHeld=> ?_)
         clear hK K
         refine ze 11 30 (.pointer (some ⟨ob,7,none⟩)) rfl rfl (by kernel_rfl) (by kernel_rfl) (by kernel_rfl) (fun _ _ _ h=>h) (Or.inl ⟨by rfl,?_⟩) hHeld ?_
         ·intro w9 hSw
          (try dsimp only at hSw)
          go_simp
         (try simp only [Act.put,List.setIfInBounds_toArray,List.set_cons_zero,List.set_cons_succ])
         refine wpAnyH_ready (rs:= [12]) (by kernel_rfl) (by simp) ?_
         refine AllReadyH.cons rfl (fun K hK=> ?_) ?_
         ·go_simp
          refine hK.out _ _ (zL hb ((kc.mono hw2).setCell hw1 _) HX.out) (fun hHeld=> ?_)
          clear hK K
          refine wpAnyH_done (by kernel_rfl) ?_ _
          have hN2:∃vs,NestV jV W2 WL.heap.size (.slice A3 (k+1) c3) vs (c.inv.take (k+1)):=⟨_,by rw [HT.out];exact NestV.snoc (M:=No) HN.out (Mods.of_below kb1) (fun _ h=>h.elim) hbz HO1.out _ (by rw [hvl];exact HO2.out) HG2.out⟩
          have HS9:=qH (HC.out.step kc hN2)
          clear hHeld hN2 f2 f3 f4 hfr d7
          go_wp2
          go_roundg (c.inv.length - (k+1))
          case measure=>omega
          case rel=>exact ⟨k+1,_,by omega,by go_num,HS9.out⟩
         exact AllReadyH.nil
        exact AllReadyH.nil
       exact AllReadyH.nil
      exact AllReadyH.nil
     refine AllReadyH.cons rfl (fun K hK=> ?_) ?_
     ·refine zj _ rfl (.tmp 21) (.tmp 26) 52 rfl wr.heap.size 55 i0 _ 2 16 Tryz.underlying52 hi0 hz0 hz1 hz2 rfl (by decide) _ 0 [] rfl HE.out w.heap.size Al _ cl (prs y) rfl HSX.out (jF _) (QO _) (by unfold maxLen;omega) (by omega) hz9 ?_
      intro v1 W1 ho1 hg1 ha1
      rw [Nat.zero_add,List.nil_append] at ho1
      obtain ⟨A2,c2,rfl,_,_⟩:=zg ho1
      have HO1:=qH ho1
      have kb1:=(HK0.out.grown (⟨hg1.os,hg1.tape,hg1.output,hg1.size,hg1.block⟩:World.grownBy (wr.alloc (.cells #[] 55)) W1 (some wr.heap.size)) hz9 (fun k hk=>(by injection hk with hk;omega)))
      have f3:=(kb1.cell (p:=⟨ob,7,none⟩) hw4).trans f2
      have hw5:=Nat.lt_of_lt_of_le hw4 kb1.size
      clear ho1 hg1 ha1
      refine hK.out _ _ (zL hb (kb1.mono hw3) HX.out) (fun hHeld=> ?_)
      clear hK K
      refine wpAnyH_ready (rs:= [1,9]) (by kernel_rfl) (by simp) ?_
      refine AllReadyH.cons rfl (fun K hK=> ?_) ?_
      ·go_simp
       refine hK.out _ _ (zL hb (kb1.mono hw3) HX.out) (fun hHeld=> ?_)
       clear hK K
       refine wpAnyH_ready (rs:= [9]) (by kernel_rfl) (by simp) ?_
       refine AllReadyH.cons rfl (fun K hK=> ?_) ?_
       ·go_simp
        refine hK.out _ _ (zL hb ((kb1.alloc kb1.size _).mono hw3) HX.out) (fun hHeld=> ?_)
        clear hK K
        refine wpAnyH_ready (rs:= [10]) (by kernel_rfl) (by simp) ?_
        refine AllReadyH.cons rfl (fun K hK=> ?_) ?_
        ·refine zj _ rfl (.tmp 20) (.tmp 28) 29 rfl WL.heap.size 52 i1 _ 1 24 Tryz.underlying29 hi1 hy0 hy1 hy2 rfl (by decide) _ k _ rfl ((Mods.of_below (S:=No) (kb1.alloc kb1.size (.cells #[.slice A2 y.length c2] 52))).ownS HOut.out (fun _ _ h=>h)) (W1.heap.size+1) (some ⟨W1.heap.size,0,none⟩) 1 1 (jV.oc (.slice A2 y.length c2) y) rfl (yn rfl #[.slice A2 y.length c2] 52 rfl) rfl (YH y A2 _ c2) (by unfold maxLen;omega) (by omega) (Nat.le_trans hbz (kb1.alloc kb1.size (.cells #[.slice A2 y.length c2] 52)).size) ?_
         intro v2 W2 ho2 hg2 ha2
         obtain ⟨A3,c3,rfl,_,_⟩:=zg ho2
         have hgg:World.grownBy (W1.alloc (.cells #[.slice A2 y.length c2] 52)) W2 (Value.slice Av k cv).ownBlock:=⟨hg2.os,hg2.tape,hg2.output,hg2.size,hg2.block⟩
         have HG2:=qH hgg
         have HO2:=qH ho2
         have kc:=(((kb1.mono hbz).alloc (Nat.le_trans hbz kb1.size) (.cells #[.slice A2 y.length c2] 52)).grown hgg (Nat.le_trans hbz (kb1.alloc kb1.size _).size) (fun k hk=>(z9 HOut.out k hk).1))
         have hfr:=(HC.out.out.below kc hlo).frozen 7
         have f4:=(kc.cell (p:=⟨ob,7,none⟩) hlo).trans f2
         clear ho2 hg2 ha2 hgg
         refine hK.out _ _ (zL hb (kc.mono hw2) HX.out) (fun hHeld=> ?_)
         clear hK K
         refine ze 11 30 (.pointer (some ⟨ob,7,none⟩)) rfl rfl (by kernel_rfl) (by kernel_rfl) (by kernel_rfl) (fun _ _ _ h=>h) (Or.inl ⟨by rfl,?_⟩) hHeld ?_
         ·intro w9 hSw
          (try dsimp only at hSw)
          go_simp
         (try simp only [Act.put,List.setIfInBounds_toArray,List.set_cons_zero,List.set_cons_succ])
         refine wpAnyH_ready (rs:= [12]) (by kernel_rfl) (by simp) ?_
         refine AllReadyH.cons rfl (fun K hK=> ?_) ?_
         ·go_simp
          refine hK.out _ _ (zL hb ((kc.mono hw2).setCell hw1 _) HX.out) (fun hHeld=> ?_)
          clear hK K
          refine wpAnyH_done (by kernel_rfl) ?_ _
          have hN2:∃vs,NestV jV W2 WL.heap.size (.slice A3 (k+1) c3) vs (c.inv.take (k+1)):=⟨_,by rw [HT.out];exact NestV.snoc (M:=No) HN.out (Mods.of_below kb1) (fun _ h=>h.elim) hbz HO1.out _ (by rw [hvl];exact HO2.out) HG2.out⟩
          have HS9:=qH (HC.out.step kc hN2)
          clear hHeld hN2 f2 f3 f4 hfr d7
          go_wp2
          go_roundg (c.inv.length - (k+1))
          case measure=>omega
          case rel=>exact ⟨k+1,_,by omega,by go_num,HS9.out⟩
         exact AllReadyH.nil
        exact AllReadyH.nil
       exact AllReadyH.nil
      refine AllReadyH.cons rfl (fun K hK=> ?_) ?_
      ·go_simp
       refine hK.out _ _ (zL hb ((kb1.alloc kb1.size _).mono hw3) HX.out) (fun hHeld=> ?_)
       clear hK K
       refine wpAnyH_ready (rs:= [1]) (by kernel_rfl) (by simp) ?_
       refine AllReadyH.cons rfl (fun K hK=> ?_) ?_
       ·go_simp
        refine hK.out _ _ (zL hb ((kb1.alloc kb1.size _).mono hw3) HX.out) (fun hHeld=> ?_)
        clear hK K
        refine wpAnyH_ready (rs:= [10]) (by kernel_rfl) (by simp) ?_
        refine AllReadyH.cons rfl (fun K hK=> ?_) ?_
        ·refine zj _ rfl (.tmp 20) (.tmp 28) 29 rfl WL.heap.size 52 i1 _ 1 24 Tryz.underlying29 hi1 hy0 hy1 hy2 rfl (by decide) _ k _ rfl ((Mods.of_below (S:=No) (kb1.alloc kb1.size (.cells #[.slice A2 y.length c2] 52))).ownS HOut.out (fun _ _ h=>h)) (W1.heap.size+1) (some ⟨W1.heap.size,0,none⟩) 1 1 (jV.oc (.slice A2 y.length c2) y) rfl (yn rfl #[.slice A2 y.length c2] 52 rfl) rfl (YH y A2 _ c2) (by unfold maxLen;omega) (by omega) (Nat.le_trans hbz (kb1.alloc kb1.size (.cells #[.slice A2 y.length c2] 52)).size) ?_
         intro v2 W2 ho2 hg2 ha2
         obtain ⟨A3,c3,rfl,_,_⟩:=zg ho2
         have hgg:World.grownBy (W1.alloc (.cells #[.slice A2 y.length c2] 52)) W2 (Value.slice Av k cv).ownBlock:=⟨hg2.os,hg2.tape,hg2.output,hg2.size,hg2.block⟩
         have HG2:=qH hgg
         have HO2:=qH ho2
         have kc:=(((kb1.mono hbz).alloc (Nat.le_trans hbz kb1.size) (.cells #[.slice A2 y.length c2] 52)).grown hgg (Nat.le_trans hbz (kb1.alloc kb1.size _).size) (fun k hk=>(z9 HOut.out k hk).1))
         have hfr:=(HC.out.out.below kc hlo).frozen 7
         have f4:=(kc.cell (p:=⟨ob,7,none⟩) hlo).trans f2
         clear ho2 hg2 ha2 hgg
         refine hK.out _ _ (zL hb (kc.mono hw2) HX.out) (fun hHeld=> ?_)
         clear hK K
         refine ze 11 30 (.pointer (some ⟨ob,7,none⟩)) rfl rfl (by kernel_rfl) (by kernel_rfl) (by kernel_rfl) (fun _ _ _ h=>h) (Or.inl ⟨by rfl,?_⟩) hHeld ?_
         ·intro w9 hSw
          (try dsimp only at hSw)
          go_simp
         (try simp only [Act.put,List.setIfInBounds_toArray,List.set_cons_zero,List.set_cons_succ])
         refine wpAnyH_ready (rs:= [12]) (by kernel_rfl) (by simp) ?_
         refine AllReadyH.cons rfl (fun K hK=> ?_) ?_
         ·go_simp
          refine hK.out _ _ (zL hb ((kc.mono hw2).setCell hw1 _) HX.out) (fun hHeld=> ?_)
          clear hK K
          refine wpAnyH_done (by kernel_rfl) ?_ _
          have hN2:∃vs,NestV jV W2 WL.heap.size (.slice A3 (k+1) c3) vs (c.inv.take (k+1)):=⟨_,by rw [HT.out];exact NestV.snoc (M:=No) HN.out (Mods.of_below kb1) (fun _ h=>h.elim) hbz HO1.out _ (by rw [hvl];exact HO2.out) HG2.out⟩
          have HS9:=qH (HC.out.step kc hN2)
          clear hHeld hN2 f2 f3 f4 hfr d7
          go_wp2
          go_roundg (c.inv.length - (k+1))
          case measure=>omega
          case rel=>exact ⟨k+1,_,by omega,by go_num,HS9.out⟩
         exact AllReadyH.nil
        exact AllReadyH.nil
       exact AllReadyH.nil
      exact AllReadyH.nil
     exact AllReadyH.nil
    exact AllReadyH.nil
   ·have hltz:¬(k:Int)<(c.inv.length:Int):=by omega
    obtain rfl:k=c.inv.length:=by omega
    have hrr:Row wr (w.heap.size+1) 31 #[.int .i64 0,.int .i64 0,.slice none 0 0,.int .i64 0,.int .i64 0,.int .i64 0,.slice none 0 0,.slice none 0 0]:=HRSL.out.mods HC.out.md (fun e=>by have:w.heap.size+1=ob:=e;omega)
    have f0:=HC.out.out.cell 0;have f1:=HC.out.out.cell 1;have f2:=HC.out.out.cell 2;have f3:=HC.out.out.cell 3
    have f4:=HC.out.out.cell 4;have f5:=HC.out.out.cell 5;have f6:=HC.out.out.cell 6;have f7:=HC.out.out.cell 7
    have g0:=hrr.cell 0;have g1:=hrr.cell 1;have g2:=hrr.cell 2;have g3:=hrr.cell 3;have g4:=hrr.cell 4;have g5:=hrr.cell 5;have g6:=hrr.cell 6;have g7:=hrr.cell 7
    have r0:=hrr.frozen 0;have r1:=hrr.frozen 1;have r2:=hrr.frozen 2;have r3:=hrr.frozen 3;have r4:=hrr.frozen 4;have r5:=hrr.frozen 5;have r6:=hrr.frozen 6;have r7:=hrr.frozen 7
    obtain ⟨vs3,hnest⟩:=HC.out.nest
    rw [List.take_length] at hnest
    obtain ⟨Av3,cv3,rfl,_,_⟩:=zg hnest.outer
    have h3l:=hnest.len
    rw [h3l] at hnest f7
    simp only [List.getElem?_toArray,List.getElem?_cons_zero,List.getElem?_cons_succ] at f0 f1 f2 f3 f4 f5 f6 f7 g0 g1 g2 g3 g4 g5 g6 g7
    have HN3:=qH hnest
    have HM1:=qH (HN1.out.aside HOB.out (by decide) (by decide) HC.out.md)
    have HM2:=qH (HN2.out.aside HOB.out (by decide) (by decide) HC.out.md)
    have hmm:=(((((((((Mods.refl (Is (w.heap.size+1)) wr).put 0 (.int .i64 c.sa)).put 1 (.int .i64 c.sr)).put 2 (.slice Av1 c.bs.length cv1)).put 3 (.int .i64 c.ta)).put 4 (.int .i64 c.tr)).put 5 (.int .i64 c.ts)).put 6 (.slice Av2 c.ms.length cv2)).put 7 (.slice Av3 c.inv.length cv3))
    have HQ1:=qH ((HM1.out.aside hrr (by decide) (by decide) hmm).rebase (base':=w.heap.size) (by omega))
    have HQ2:=qH ((HM2.out.aside hrr (by decide) (by decide) hmm).rebase (base':=w.heap.size) (by omega))
    have HQ3:=qH ((HN3.out.aside hrr (by decide) (by decide) hmm).rebase (base':=w.heap.size) HBL.out.size)
    have HB8:=qH ((HBL.out.trans (HC.out.md.below (B:=w.heap.size) HBL.out.size fun k hk=>by have:k=ob:=hk;omega)).trans (hmm.below (B:=w.heap.size) (Nat.le_trans HBL.out.size HC.out.md.size) fun k hk=>by have:k=w.heap.size+1:=hk;omega))
    have HRR:=qH hrr
    have hzr:w.heap.size<wr.heap.size:=Nat.lt_of_succ_lt hrr.lt
    clear hnest hmm hrr HM1 HM2 HN3 HC HOB HN1 HN2 HSEL S9
    go_wp2
    (try simp only [Exit.inBlock,Exit.then])
    refine bodyPost_ret (v:= .agg #[.int .i64 c.sa,.int .i64 c.sr,.slice Av1 c.bs.length cv1,.int .i64 c.ta,.int .i64 c.tr,.int .i64 c.ts,.slice Av2 c.ms.length cv2,.slice Av3 c.inv.length cv3]) ?_ rfl ⟨Av1,cv1,vs1,Av2,cv2,vs2,Av3,cv3,vs3,rfl,HQ1.out,HQ2.out,HQ3.out,HB8.out⟩
    exact results_cell_row rfl _ _ (w.heap.size+1) 31 #[.int .i64 c.sa,.int .i64 c.sr,.slice Av1 c.bs.length cv1,.int .i64 c.ta,.int .i64 c.tr,.int .i64 c.ts,.slice Av2 c.ms.length cv2,.slice Av3 c.inv.length cv3] (0,0) _ rfl ((((((((HRR.out.put 0 (.int .i64 c.sa)).put 1 (.int .i64 c.sr)).put 2 (.slice Av1 c.bs.length cv1)).put 3 (.int .i64 c.ta)).put 4 (.int .i64 c.tr)).put 5 (.int .i64 c.ts)).put 6 (.slice Av2 c.ms.length cv2)).put 7 (.slice Av3 c.inv.length cv3)) Tryz.underlying31 rfl (by kernel_rfl)
end Go.Proofs.YtnifhpbgmjcndaaGreat
