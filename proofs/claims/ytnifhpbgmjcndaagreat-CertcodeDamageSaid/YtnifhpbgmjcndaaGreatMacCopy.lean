/- The machine reference's Copy (written by wip/lab/genmcopy.py). -/
import Derived.Test.YtnifhpbgmjcndaaGreatPk3
set_option linter.unusedVariables false
set_option linter.unusedSimpArgs false
set_option maxRecDepth 100000
set_option maxHeartbeats 4000000
namespace Go.Proofs.YtnifhpbgmjcndaaGreat
open Go.RowKit
theorem zcc:(Tryz.prog.info? 131).map (fun i=>(i.zero,i.size,i.bytes))=some (some (.agg #[.int .i64 0,.int .i64 0,.int .i64 0,.int .i64 0,.int .i64 0,.int .i64 0,.int .i64 0]),7,56):=by kernel_rfl
theorem zcd:(Tryz.prog.info? 63).map (fun i=>(i.zero,i.size,i.bytes))=some (some (.agg #[.slice none 0 0,.int .i64 0,.int .i64 0,.int .i64 0,.int .i64 0]),5,56):=by kernel_rfl
def jv:Shp MBlk where
 eo:=63
 ei:=131
 so:=5
 si:=7
 oc:=fun u x=> [u,.int .i64 x.term.kind,.int .i64 x.term.a,.int .i64 x.term.to,.int .i64 x.term.el]
 ic:=fun x=>jx x.code
 il:=fun x=>x.code.length
 ne:=by decide
 hoc:=fun _ _=>rfl
theorem zce{w:World}{B:Nat}{A:Option Addr}{xs:List Mi}(h:MisAt w B A xs):Sees w B A (jx xs):=fun hn=>by
 obtain ⟨b,o,e,hb,hc⟩:=h (by rintro rfl;exact hn rfl)
 refine ⟨b,o,e,hb,fun i u hu=> ?_⟩
 obtain ⟨k,j,x,h1,h2,rfl⟩:=UR Mi.cells 7 (fun _=>rfl) xs i u hu
 have hx:=hc k x h1
 have hj:j<7:=(List.getElem?_eq_some_iff.1 h2).1
 rcases (by omega:j=0∨j=1∨j=2∨j=3∨j=4∨j=5∨j=6) with rfl|rfl|rfl|rfl|rfl|rfl|rfl
 ·rw [←h2];exact hx.c0
 ·rw [←h2,←Nat.add_assoc];exact hx.c1
 ·rw [←h2,←Nat.add_assoc];exact hx.c2
 ·rw [←h2,←Nat.add_assoc];exact hx.c3
 ·rw [←h2,←Nat.add_assoc];exact hx.c4
 ·rw [←h2,←Nat.add_assoc];exact hx.c5
 ·rw [←h2,←Nat.add_assoc];exact hx.c6
def zfb(w:World)(args regs slots:Int)(bs:List MBlk)(e:Ending)(w':World):Prop:=
 ∃v vs,e= .returned (.agg #[.int .i64 args,.int .i64 regs,.int .i64 slots,v])∧NestV jv w' w.heap.size v vs bs∧Below w.heap.size w w'
structure MCopyS(w:World)(args regs slots:Int)(A:Option Addr)(bs:List MBlk)(c k:Nat)(v:Value)(W:World):Prop where
 below:Below w.heap.size w W
 box:Row W w.heap.size 28 #[.int .i64 args,.int .i64 regs,.int .i64 slots,.slice A bs.length c]
 res:Row W (w.heap.size+1) 28 #[.int .i64 0,.int .i64 0,.int .i64 0,.slice none 0 0]
 out:Row W (w.heap.size+1+1) 28 #[.int .i64 args,.int .i64 regs,.int .i64 slots,v]
 nest:∃vs,NestV jv W (w.heap.size+1+1+1) v vs (bs.take k)
theorem MCopyS.start(w:World)(args regs slots:Int)(A:Option Addr)(bs:List MBlk)(c:Nat):
  MCopyS w args regs slots A bs c 0 (.slice none 0 0) (((w.alloc (.cells #[.int .i64 args,.int .i64 regs,.int .i64 slots,.slice A bs.length c] 28)).alloc (.cells #[.int .i64 0,.int .i64 0,.int .i64 0,.slice none 0 0] 28)).alloc (.cells #[.int .i64 args,.int .i64 regs,.int .i64 slots,.slice none 0 0] 28)) where
 below:=(((Below.refl w.heap.size w).alloc (Nat.le_refl _) _).alloc (by simp) _).alloc (by simp;omega) _
 box:=((Row.new w _ _).alloc _).alloc _
 res:=(Row.new' (p:=w.heap.size+1) (by simp) _ _).alloc _
 out:=Row.new' (p:=w.heap.size+1+1) (by simp) _ _
 nest:=⟨[],by rw [List.take_zero];exact NestV.nil _ _⟩
theorem MCopyS.step{w wr W:World}{args regs slots:Int}{A:Option Addr}{bs:List MBlk}{c k:Nat}{v v':Value}(h:MCopyS w args regs slots A bs c k v wr)(hb:Below (w.heap.size+1+1+1) wr W)(hn:∃vs,NestV jv W (w.heap.size+1+1+1) v' vs (bs.take (k+1))):
  MCopyS w args regs slots A bs c (k+1) v' (W.setCell ⟨w.heap.size+1+1,3,none⟩ v') where
 below:=by
  refine (h.below.trans (hb.mono (by omega))).setCell ?_ _
  show w.heap.size≤w.heap.size+1+1
  omega
 box:=(h.box.below hb (by omega)).far (by show w.heap.size≠w.heap.size+1+1;omega) _
 res:=(h.res.below hb (by omega)).far (by show w.heap.size+1≠w.heap.size+1+1;omega) _
 out:=(h.out.below hb (by omega)).put 3 v'
 nest:=by
  obtain ⟨vs,hn⟩:=hn
  exact ⟨vs,hn.mods ((Mods.refl (Is (w.heap.size+1+1)) W).put 3 v') fun k h1 _ h2=>by
   unfold Is at h2
   omega⟩
theorem Ur(y:MBlk)(A:Option Addr)(n c:Nat):∀u∈jv.oc (.slice A n c) y,u.oneCell'=true:=by
 intro u hu
 simp only [jv,List.mem_cons,List.not_mem_nil,or_false] at hu
 rcases hu with rfl|rfl|rfl|rfl|rfl<;>rfl
theorem zK{w wr W:World}{b o n c k c1 m:Nat}{A1:Option Addr}{t0 t1 t2 t3:Int}(hbl:b<w.heap.size)(hb:Below (w.heap.size+1) wr W)
  (h:wr.cell? ⟨w.heap.size,3,none⟩=some (.slice (some ⟨b,o,none⟩) n c)∧wr.cell? ⟨b,o+k*5,none⟩=some (.slice A1 m c1)∧wr.cell? ⟨b,o+k*5+1,none⟩=some (.int .i64 t0)∧wr.cell? ⟨b,o+k*5+2,none⟩=some (.int .i64 t1)∧wr.cell? ⟨b,o+k*5+3,none⟩=some (.int .i64 t2)∧wr.cell? ⟨b,o+k*5+4,none⟩=some (.int .i64 t3)):
  W.cell? ⟨w.heap.size,3,none⟩=some (.slice (some ⟨b,o,none⟩) n c)∧W.cell? ⟨b,o+k*5,none⟩=some (.slice A1 m c1)∧W.cell? ⟨b,o+k*5+1,none⟩=some (.int .i64 t0)∧W.cell? ⟨b,o+k*5+2,none⟩=some (.int .i64 t1)∧W.cell? ⟨b,o+k*5+3,none⟩=some (.int .i64 t2)∧W.cell? ⟨b,o+k*5+4,none⟩=some (.int .i64 t3):=by
 obtain ⟨h1,h2,h3,h4,h5,h6⟩:=h
 have e:=fun q (hq:q<w.heap.size+1) i=>hb.cell (p:=⟨q,i,none⟩) hq
 exact ⟨(e _ (by omega) _).trans h1,(e _ (by omega) _).trans h2,(e _ (by omega) _).trans h3,(e _ (by omega) _).trans h4,(e _ (by omega) _).trans h5,(e _ (by omega) _).trans h6⟩
theorem zcf(B:Nat)(A:Option Addr)(bs:List MBlk)(c:Nat)(args regs slots:Int)(w:World)(hs:MBlksAt w B A bs)(hB:B≤w.heap.size)(hm:bs.length≤1000)(hn:zw bs≤1000000):
  Calls Tryz.prog 57 #[.agg #[.int .i64 args,.int .i64 regs,.int .i64 slots,.slice A bs.length c]] w (zfb w args regs slots bs):=by
 obtain ⟨i0,hi0,hz0,hz1,hz2⟩:=info_parts zcc
 obtain ⟨i1,hi1,hy0,hy1,hy2⟩:=info_parts zcd
 go_enter Tryz.func57,Tryz.ntmps57
 go_wp2
 have HS0:=qH (MCopyS.start w args regs slots A bs c)
 go_loopw [4] (fun i wr=>∃(k:Nat) (v:Value),k≤bs.length∧i= .int .i64 k∧Hid (MCopyS w args regs slots A bs c k v wr)) (fun i _=>bs.length - (intOf i).toNat)
 case atStart=>exact ⟨0,_,Nat.zero_le _,rfl,HS0.out⟩
 case round=>
  obtain ⟨k,v,hk,rfl,HC⟩:=hrel
  clear HS0
  by_cases hlt:k<bs.length
  ·obtain ⟨b,o,rfl,hb,hat⟩:=((hs.more hB).below HC.out.below).at_ hlt
   obtain ⟨A1,c1,hc0,hl1,hl2,hin⟩:=hat.code
   have d2:=HC.out.box.k3;have f2:=HC.out.out.k3
   have HX:=qH (And.intro d2 (And.intro hc0 (And.intro hat.t0 (And.intro hat.t1 (And.intro hat.t2 hat.t3)))))
   have hbz:w.heap.size+1+1+1≤wr.heap.size:=HC.out.out.lt
   obtain ⟨vs,hnest⟩:=HC.out.nest
   have HN:=qH hnest
   have hvl:vs.length=k:=by rw [hnest.len,List.length_take];omega
   have HSE:=qH (zce hin)
   have hyl:bs[k].code.length≤1000000:=by have:=JE bs k hlt;omega
   have HT:=qH (show bs.take (k+1)=bs.take k++ [bs[k]] from List.take_succ_eq_append_getElem hlt)
   have kb:=Below.refl wr.heap.size wr
   obtain ⟨Av,cv,rfl,_,_⟩:=zg hnest.outer
   rw [hvl] at f2 HN
   clear hat hin hnest hs hc0
   generalize bs[k]=y at*
   have HOut:Hid (wr.ownsRow (w.heap.size+1+1+1) jv.eo jv.so (.slice Av k cv) k ((vs.zip (bs.take k)).flatMap fun p=>jv.oc p.1 p.2)):=by
    have:=HN.out.outer
    rw [hvl] at this
    exact this
   have HE:=qH (YT wr 131 7)
   have HSX:=qH (HSE.out.below (((Below.refl w.heap.size wr).alloc (by omega) (.cells #[] 131))))
   have hw1:w.heap.size+1≤(⟨w.heap.size+1+1,3,none⟩:Addr).block:=Nat.le_succ _
   have hw2:w.heap.size+1≤w.heap.size+1+1+1:=by omega
   have hw3:w.heap.size+1≤wr.heap.size:=by omega
   have hw4:w.heap.size+1+1<wr.heap.size:=by omega
   have hz9:wr.heap.size≤(wr.alloc (.cells #[] 131)).heap.size:=by simp
   have HK0:=qH (((Below.refl wr.heap.size wr).alloc (Nat.le_refl _) (.cells #[] 131)))
   go_wp2_with fail
   refine wp_region_held_drew (S:=(fun w'=>w'.cell? ⟨w.heap.size,3,none⟩=some (.slice (some ⟨b,o,none⟩) bs.length c)∧w'.cell? ⟨b,o+k*5,none⟩=some (.slice A1 y.code.length c1)∧w'.cell? ⟨b,o+k*5+1,none⟩=some (.int .i64 y.term.kind)∧w'.cell? ⟨b,o+k*5+2,none⟩=some (.int .i64 y.term.a)∧w'.cell? ⟨b,o+k*5+3,none⟩=some (.int .i64 y.term.to)∧w'.cell? ⟨b,o+k*5+4,none⟩=some (.int .i64 y.term.el))) (by kernel_rfl) (zK hb (kb.drew.mono hw3) HX.out) (fun hHeld=> ?_)
   refine ze 0 19 (.pointer (some ⟨w.heap.size+1+1,3,none⟩)) rfl rfl (by kernel_rfl) (by kernel_rfl) (by kernel_rfl) (fun _ _ _ h=>h) (Or.inl ⟨by rfl,?_⟩) hHeld ?_
   ·intro w9 hSw
    (try dsimp only at hSw)
    go_simp
   (try simp only [Act.put,List.setIfInBounds_toArray,List.set_cons_zero,List.set_cons_succ])
   refine ze 3 22 (.pointer (some ⟨w.heap.size,3,none⟩)) rfl rfl (by kernel_rfl) (by kernel_rfl) (by kernel_rfl) (fun _ _ _ h=>h) (Or.inl ⟨by rfl,?_⟩) hHeld ?_
   ·intro w9 hSw
    (try dsimp only at hSw)
    go_simp
   (try simp only [Act.put,List.setIfInBounds_toArray,List.set_cons_zero,List.set_cons_succ])
   refine ze 4 23 (.slice (some ⟨b,o,none⟩) bs.length c) rfl rfl (by kernel_rfl) (by kernel_rfl) (by kernel_rfl) (fun _ _ _ h=>h) (Or.inl ⟨by rfl,?_⟩) hHeld ?_
   ·intro w9 hSw
    (try dsimp only at hSw)
    go_simp
   (try simp only [Act.put,List.setIfInBounds_toArray,List.set_cons_zero,List.set_cons_succ])
   refine ze 5 24 (.int .i64 k) rfl rfl (by kernel_rfl) (by kernel_rfl) (by kernel_rfl) (fun _ _ _ h=>h) (Or.inl ⟨by rfl,?_⟩) hHeld ?_
   ·intro w9 hSw
    (try dsimp only at hSw)
    go_simp
   (try simp only [Act.put,List.setIfInBounds_toArray,List.set_cons_zero,List.set_cons_succ])
   refine ze 6 25 (.pointer (some ⟨b,o+k*5,none⟩)) rfl rfl (by kernel_rfl) (by kernel_rfl) (by kernel_rfl) (fun _ _ _ h=>h) (Or.inl ⟨by rfl,?_⟩) hHeld ?_
   ·intro w9 hSw
    (try dsimp only at hSw)
    go_simp
   (try simp only [Act.put,List.setIfInBounds_toArray,List.set_cons_zero,List.set_cons_succ])
   refine ze 7 26 (.pointer (some ⟨b,o+k*5,none⟩)) rfl rfl (by kernel_rfl) (by kernel_rfl) (by kernel_rfl) (fun _ _ _ h=>h) (Or.inl ⟨by rfl,?_⟩) hHeld ?_
   ·intro w9 hSw
    (try dsimp only at hSw)
    go_simp
   (try simp only [Act.put,List.setIfInBounds_toArray,List.set_cons_zero,List.set_cons_succ])
   refine ze 8 27 (.slice A1 y.code.length c1) rfl rfl (by kernel_rfl) (by kernel_rfl) (by kernel_rfl) (fun _ _ _ h=>h) (Or.inl ⟨by rfl,?_⟩) hHeld ?_
   ·intro w9 hSw
    (try dsimp only at hSw)
    go_simp
   (try simp only [Act.put,List.setIfInBounds_toArray,List.set_cons_zero,List.set_cons_succ])
   refine ze 10 29 (.pointer (some ⟨w.heap.size,3,none⟩)) rfl rfl (by kernel_rfl) (by kernel_rfl) (by kernel_rfl) (fun _ _ _ h=>h) (Or.inl ⟨by rfl,?_⟩) hHeld ?_
   ·intro w9 hSw
    (try dsimp only at hSw)
    go_simp
   (try simp only [Act.put,List.setIfInBounds_toArray,List.set_cons_zero,List.set_cons_succ])
   refine ze 11 30 (.slice (some ⟨b,o,none⟩) bs.length c) rfl rfl (by kernel_rfl) (by kernel_rfl) (by kernel_rfl) (fun _ _ _ h=>h) (Or.inl ⟨by rfl,?_⟩) hHeld ?_
   ·intro w9 hSw
    (try dsimp only at hSw)
    go_simp
   (try simp only [Act.put,List.setIfInBounds_toArray,List.set_cons_zero,List.set_cons_succ])
   refine ze 12 31 (.int .i64 k) rfl rfl (by kernel_rfl) (by kernel_rfl) (by kernel_rfl) (fun _ _ _ h=>h) (Or.inl ⟨by rfl,?_⟩) hHeld ?_
   ·intro w9 hSw
    (try dsimp only at hSw)
    go_simp
   (try simp only [Act.put,List.setIfInBounds_toArray,List.set_cons_zero,List.set_cons_succ])
   refine ze 13 32 (.pointer (some ⟨b,o+k*5,none⟩)) rfl rfl (by kernel_rfl) (by kernel_rfl) (by kernel_rfl) (fun _ _ _ h=>h) (Or.inl ⟨by rfl,?_⟩) hHeld ?_
   ·intro w9 hSw
    (try dsimp only at hSw)
    go_simp
   (try simp only [Act.put,List.setIfInBounds_toArray,List.set_cons_zero,List.set_cons_succ])
   refine ze 14 33 (.pointer (some ⟨b,o+k*5+1,none⟩)) rfl rfl (by kernel_rfl) (by kernel_rfl) (by kernel_rfl) (fun _ _ _ h=>h) (Or.inl ⟨by rfl,?_⟩) hHeld ?_
   ·intro w9 hSw
    (try dsimp only at hSw)
    go_simp
   (try simp only [Act.put,List.setIfInBounds_toArray,List.set_cons_zero,List.set_cons_succ])
   refine ze 15 34 (.agg #[.int .i64 y.term.kind,.int .i64 y.term.a,.int .i64 y.term.to,.int .i64 y.term.el]) rfl rfl (by kernel_rfl) (by kernel_rfl) (by kernel_rfl) (fun _ _ _ h=>h) (Or.inl ⟨by rfl,?_⟩) hHeld ?_
   ·intro w9 hSw
    (try dsimp only at hSw)
    go_simp
   (try simp only [Act.put,List.setIfInBounds_toArray,List.set_cons_zero,List.set_cons_succ])
   refine wpAnyH_ready (rs:= [1,2]) (by kernel_rfl) (by simp) ?_
   refine AllReadyH.cons rfl (fun K hK=> ?_) ?_
   ·go_simp
    refine hK.out _ _ (zK hb (kb.drew.mono hw3) HX.out) (fun hHeld=> ?_)
    clear hK K
    refine wpAnyH_ready (rs:= [2]) (by kernel_rfl) (by simp) ?_
    refine AllReadyH.cons rfl (fun K hK=> ?_) ?_
    ·go_simp
     refine hK.out _ _ (zK hb (HK0.out.drew.mono hw3) HX.out) (fun hHeld=> ?_)
     clear hK K
     refine wpAnyH_ready (rs:= [9]) (by kernel_rfl) (by simp) ?_
     refine AllReadyH.cons rfl (fun K hK=> ?_) ?_
     ·refine zj _ rfl (.tmp 21) (.tmp 27) 61 rfl wr.heap.size 131 i0 _ 7 56 Tryz.underlying61 hi0 hz0 hz1 hz2 rfl (by decide) _ 0 [] rfl HE.out w.heap.size A1 _ c1 (jx y.code) rfl HSX.out (Js _) (JU _) (by unfold maxLen;omega) (by omega) hz9 ?_
      intro v1 W1 ho1 hg1 ha1
      rw [Nat.zero_add,List.nil_append] at ho1
      obtain ⟨A2,c2,rfl,_,_⟩:=zg ho1
      have HO1:=qH ho1
      have kb1:=(HK0.out.grown (⟨hg1.os,hg1.tape,hg1.output,hg1.size,hg1.block⟩:World.grownBy (wr.alloc (.cells #[] 131)) W1 (some wr.heap.size)) hz9 (fun k hk=>(by injection hk with hk;omega)))
      have f3:=(kb1.cell (p:=⟨w.heap.size+1+1,3,none⟩) hw4).trans f2
      have hw5:=Nat.lt_of_lt_of_le hw4 kb1.size
      clear ho1 hg1 ha1
      refine hK.out _ _ (zK hb (kb1.mono hw3) HX.out) (fun hHeld=> ?_)
      clear hK K
      refine ze 16 35 (.agg #[.slice A2 y.code.length c2,.int .i64 y.term.kind,.int .i64 y.term.a,.int .i64 y.term.to,.int .i64 y.term.el]) rfl rfl (by kernel_rfl) (by kernel_rfl) (by kernel_rfl) (fun _ _ _ h=>h) (Or.inl ⟨by rfl,?_⟩) hHeld ?_
      ·intro w9 hSw
       (try dsimp only at hSw)
       go_simp
      (try simp only [Act.put,List.setIfInBounds_toArray,List.set_cons_zero,List.set_cons_succ])
      refine wpAnyH_ready (rs:= [17]) (by kernel_rfl) (by simp) ?_
      refine AllReadyH.cons rfl (fun K hK=> ?_) ?_
      ·go_simp
       refine hK.out _ _ (zK hb ((kb1.alloc kb1.size _).mono hw3) HX.out) (fun hHeld=> ?_)
       clear hK K
       refine wpAnyH_ready (rs:= [18]) (by kernel_rfl) (by simp) ?_
       refine AllReadyH.cons rfl (fun K hK=> ?_) ?_
       ·refine zj _ rfl (.tmp 20) (.tmp 36) 26 rfl (w.heap.size+1+1+1) 63 i1 _ 5 56 Tryz.underlying26 hi1 hy0 hy1 hy2 rfl (by decide) _ k _ rfl ((Mods.of_below (S:=No) (kb1.alloc kb1.size (.cells #[.slice A2 y.code.length c2,.int .i64 y.term.kind,.int .i64 y.term.a,.int .i64 y.term.to,.int .i64 y.term.el] 63))).ownS HOut.out (fun _ _ h=>h)) (W1.heap.size+1) (some ⟨W1.heap.size,0,none⟩) 1 1 (jv.oc (.slice A2 y.code.length c2) y) rfl (yn rfl #[.slice A2 y.code.length c2,.int .i64 y.term.kind,.int .i64 y.term.a,.int .i64 y.term.to,.int .i64 y.term.el] 63 rfl) rfl (Ur y A2 _ c2) (by unfold maxLen;omega) (by omega) (Nat.le_trans hbz (kb1.alloc kb1.size (.cells #[.slice A2 y.code.length c2,.int .i64 y.term.kind,.int .i64 y.term.a,.int .i64 y.term.to,.int .i64 y.term.el] 63)).size) ?_
        intro v2 W2 ho2 hg2 ha2
        obtain ⟨A3,c3,rfl,_,_⟩:=zg ho2
        have hgg:World.grownBy (W1.alloc (.cells #[.slice A2 y.code.length c2,.int .i64 y.term.kind,.int .i64 y.term.a,.int .i64 y.term.to,.int .i64 y.term.el] 63)) W2 (Value.slice Av k cv).ownBlock:=⟨hg2.os,hg2.tape,hg2.output,hg2.size,hg2.block⟩
        have HG2:=qH hgg
        have HO2:=qH ho2
        have kc:=(((kb1.mono hbz).alloc (Nat.le_trans hbz kb1.size) (.cells #[.slice A2 y.code.length c2,.int .i64 y.term.kind,.int .i64 y.term.a,.int .i64 y.term.to,.int .i64 y.term.el] 63)).grown hgg (Nat.le_trans hbz (kb1.alloc kb1.size _).size) (fun k hk=>(z9 HOut.out k hk).1))
        have hfr:=(HC.out.out.below kc (by omega)).frozen 3
        have f4:=(kc.cell (p:=⟨w.heap.size+1+1,3,none⟩) (Nat.lt_succ_self _)).trans f2
        clear ho2 hg2 ha2 hgg
        refine hK.out _ _ (zK hb (kc.mono hw2) HX.out) (fun hHeld=> ?_)
        clear hK K
        refine ze 19 38 (.pointer (some ⟨w.heap.size+1+1,3,none⟩)) rfl rfl (by kernel_rfl) (by kernel_rfl) (by kernel_rfl) (fun _ _ _ h=>h) (Or.inl ⟨by rfl,?_⟩) hHeld ?_
        ·intro w9 hSw
         (try dsimp only at hSw)
         go_simp
        (try simp only [Act.put,List.setIfInBounds_toArray,List.set_cons_zero,List.set_cons_succ])
        refine wpAnyH_ready (rs:= [20]) (by kernel_rfl) (by simp) ?_
        refine AllReadyH.cons rfl (fun K hK=> ?_) ?_
        ·go_simp
         refine hK.out _ _ (zK hb ((kc.mono hw2).setCell (p:=⟨w.heap.size+1+1,3,none⟩) hw1 _) HX.out) (fun hHeld=> ?_)
         clear hK K
         refine wpAnyH_done (by kernel_rfl) ?_ _
         have hN2:∃vs,NestV jv W2 (w.heap.size+1+1+1) (.slice A3 (k+1) c3) vs (bs.take (k+1)):=⟨_,by rw [HT.out];exact NestV.snoc (M:=No) HN.out (Mods.of_below kb1) (fun _ h=>h.elim) hbz HO1.out _ (by rw [hvl];exact HO2.out) HG2.out⟩
         have HS9:=qH (HC.out.step kc hN2)
         clear hHeld hN2 f2 f3 f4 hfr d2
         go_wp2
         go_roundw
         case rel=>exact ⟨k+1,_,by omega,by go_num,HS9.out⟩
         case measure=>simp [intOf];omega
        exact AllReadyH.nil
       exact AllReadyH.nil
      exact AllReadyH.nil
     exact AllReadyH.nil
    exact AllReadyH.nil
   refine AllReadyH.cons rfl (fun K hK=> ?_) ?_
   ·go_simp
    refine hK.out _ _ (zK hb (HK0.out.drew.mono hw3) HX.out) (fun hHeld=> ?_)
    clear hK K
    refine wpAnyH_ready (rs:= [1,9]) (by kernel_rfl) (by simp) ?_
    refine AllReadyH.cons rfl (fun K hK=> ?_) ?_
    ·go_simp
     refine hK.out _ _ (zK hb (HK0.out.drew.mono hw3) HX.out) (fun hHeld=> ?_)
     clear hK K
     refine wpAnyH_ready (rs:= [9]) (by kernel_rfl) (by simp) ?_
     refine AllReadyH.cons rfl (fun K hK=> ?_) ?_
     ·refine zj _ rfl (.tmp 21) (.tmp 27) 61 rfl wr.heap.size 131 i0 _ 7 56 Tryz.underlying61 hi0 hz0 hz1 hz2 rfl (by decide) _ 0 [] rfl HE.out w.heap.size A1 _ c1 (jx y.code) rfl HSX.out (Js _) (JU _) (by unfold maxLen;omega) (by omega) hz9 ?_
      intro v1 W1 ho1 hg1 ha1
      rw [Nat.zero_add,List.nil_append] at ho1
      obtain ⟨A2,c2,rfl,_,_⟩:=zg ho1
      have HO1:=qH ho1
      have kb1:=(HK0.out.grown (⟨hg1.os,hg1.tape,hg1.output,hg1.size,hg1.block⟩:World.grownBy (wr.alloc (.cells #[] 131)) W1 (some wr.heap.size)) hz9 (fun k hk=>(by injection hk with hk;omega)))
      have f3:=(kb1.cell (p:=⟨w.heap.size+1+1,3,none⟩) hw4).trans f2
      have hw5:=Nat.lt_of_lt_of_le hw4 kb1.size
      clear ho1 hg1 ha1
      refine hK.out _ _ (zK hb (kb1.mono hw3) HX.out) (fun hHeld=> ?_)
      clear hK K
      refine ze 16 35 (.agg #[.slice A2 y.code.length c2,.int .i64 y.term.kind,.int .i64 y.term.a,.int .i64 y.term.to,.int .i64 y.term.el]) rfl rfl (by kernel_rfl) (by kernel_rfl) (by kernel_rfl) (fun _ _ _ h=>h) (Or.inl ⟨by rfl,?_⟩) hHeld ?_
      ·intro w9 hSw
       (try dsimp only at hSw)
       go_simp
      (try simp only [Act.put,List.setIfInBounds_toArray,List.set_cons_zero,List.set_cons_succ])
      refine wpAnyH_ready (rs:= [17]) (by kernel_rfl) (by simp) ?_
      refine AllReadyH.cons rfl (fun K hK=> ?_) ?_
      ·go_simp
       refine hK.out _ _ (zK hb ((kb1.alloc kb1.size _).mono hw3) HX.out) (fun hHeld=> ?_)
       clear hK K
       refine wpAnyH_ready (rs:= [18]) (by kernel_rfl) (by simp) ?_
       refine AllReadyH.cons rfl (fun K hK=> ?_) ?_
       ·refine zj _ rfl (.tmp 20) (.tmp 36) 26 rfl (w.heap.size+1+1+1) 63 i1 _ 5 56 Tryz.underlying26 hi1 hy0 hy1 hy2 rfl (by decide) _ k _ rfl ((Mods.of_below (S:=No) (kb1.alloc kb1.size (.cells #[.slice A2 y.code.length c2,.int .i64 y.term.kind,.int .i64 y.term.a,.int .i64 y.term.to,.int .i64 y.term.el] 63))).ownS HOut.out (fun _ _ h=>h)) (W1.heap.size+1) (some ⟨W1.heap.size,0,none⟩) 1 1 (jv.oc (.slice A2 y.code.length c2) y) rfl (yn rfl #[.slice A2 y.code.length c2,.int .i64 y.term.kind,.int .i64 y.term.a,.int .i64 y.term.to,.int .i64 y.term.el] 63 rfl) rfl (Ur y A2 _ c2) (by unfold maxLen;omega) (by omega) (Nat.le_trans hbz (kb1.alloc kb1.size (.cells #[.slice A2 y.code.length c2,.int .i64 y.term.kind,.int .i64 y.term.a,.int .i64 y.term.to,.int .i64 y.term.el] 63)).size) ?_
        intro v2 W2 ho2 hg2 ha2
        obtain ⟨A3,c3,rfl,_,_⟩:=zg ho2
        have hgg:World.grownBy (W1.alloc (.cells #[.slice A2 y.code.length c2,.int .i64 y.term.kind,.int .i64 y.term.a,.int .i64 y.term.to,.int .i64 y.term.el] 63)) W2 (Value.slice Av k cv).ownBlock:=⟨hg2.os,hg2.tape,hg2.output,hg2.size,hg2.block⟩
        have HG2:=qH hgg
        have HO2:=qH ho2
        have kc:=(((kb1.mono hbz).alloc (Nat.le_trans hbz kb1.size) (.cells #[.slice A2 y.code.length c2,.int .i64 y.term.kind,.int .i64 y.term.a,.int .i64 y.term.to,.int .i64 y.term.el] 63)).grown hgg (Nat.le_trans hbz (kb1.alloc kb1.size _).size) (fun k hk=>(z9 HOut.out k hk).1))
        have hfr:=(HC.out.out.below kc (by omega)).frozen 3
        have f4:=(kc.cell (p:=⟨w.heap.size+1+1,3,none⟩) (Nat.lt_succ_self _)).trans f2
        clear ho2 hg2 ha2 hgg
        refine hK.out _ _ (zK hb (kc.mono hw2) HX.out) (fun hHeld=> ?_)
        clear hK K
        refine ze 19 38 (.pointer (some ⟨w.heap.size+1+1,3,none⟩)) rfl rfl (by kernel_rfl) (by kernel_rfl) (by kernel_rfl) (fun _ _ _ h=>h) (Or.inl ⟨by rfl,?_⟩) hHeld ?_
        ·intro w9 hSw
         (try dsimp only at hSw)
         go_simp
        (try simp only [Act.put,List.setIfInBounds_toArray,List.set_cons_zero,List.set_cons_succ])
        refine wpAnyH_ready (rs:= [20]) (by kernel_rfl) (by simp) ?_
        refine AllReadyH.cons rfl (fun K hK=> ?_) ?_
        ·go_simp
         refine hK.out _ _ (zK hb ((kc.mono hw2).setCell (p:=⟨w.heap.size+1+1,3,none⟩) hw1 _) HX.out) (fun hHeld=> ?_)
         clear hK K
         refine wpAnyH_done (by kernel_rfl) ?_ _
         have hN2:∃vs,NestV jv W2 (w.heap.size+1+1+1) (.slice A3 (k+1) c3) vs (bs.take (k+1)):=⟨_,by rw [HT.out];exact NestV.snoc (M:=No) HN.out (Mods.of_below kb1) (fun _ h=>h.elim) hbz HO1.out _ (by rw [hvl];exact HO2.out) HG2.out⟩
         have HS9:=qH (HC.out.step kc hN2)
         clear hHeld hN2 f2 f3 f4 hfr d2
         go_wp2
         go_roundw
         case rel=>exact ⟨k+1,_,by omega,by go_num,HS9.out⟩
         case measure=>simp [intOf];omega
        exact AllReadyH.nil
       exact AllReadyH.nil
      exact AllReadyH.nil
     exact AllReadyH.nil
    refine AllReadyH.cons rfl (fun K hK=> ?_) ?_
    ·refine zj _ rfl (.tmp 21) (.tmp 27) 61 rfl wr.heap.size 131 i0 _ 7 56 Tryz.underlying61 hi0 hz0 hz1 hz2 rfl (by decide) _ 0 [] rfl HE.out w.heap.size A1 _ c1 (jx y.code) rfl HSX.out (Js _) (JU _) (by unfold maxLen;omega) (by omega) hz9 ?_
     intro v1 W1 ho1 hg1 ha1
     rw [Nat.zero_add,List.nil_append] at ho1
     obtain ⟨A2,c2,rfl,_,_⟩:=zg ho1
     have HO1:=qH ho1
     have kb1:=(HK0.out.grown (⟨hg1.os,hg1.tape,hg1.output,hg1.size,hg1.block⟩:World.grownBy (wr.alloc (.cells #[] 131)) W1 (some wr.heap.size)) hz9 (fun k hk=>(by injection hk with hk;omega)))
     have f3:=(kb1.cell (p:=⟨w.heap.size+1+1,3,none⟩) hw4).trans f2
     have hw5:=Nat.lt_of_lt_of_le hw4 kb1.size
     clear ho1 hg1 ha1
     refine hK.out _ _ (zK hb (kb1.mono hw3) HX.out) (fun hHeld=> ?_)
     clear hK K
     refine ze 16 35 (.agg #[.slice A2 y.code.length c2,.int .i64 y.term.kind,.int .i64 y.term.a,.int .i64 y.term.to,.int .i64 y.term.el]) rfl rfl (by kernel_rfl) (by kernel_rfl) (by kernel_rfl) (fun _ _ _ h=>h) (Or.inl ⟨by rfl,?_⟩) hHeld ?_
     ·intro w9 hSw
      (try dsimp only at hSw)
      go_simp
     (try simp only [Act.put,List.setIfInBounds_toArray,List.set_cons_zero,List.set_cons_succ])
     refine wpAnyH_ready (rs:= [1,17]) (by kernel_rfl) (by simp) ?_
     refine AllReadyH.cons rfl (fun K hK=> ?_) ?_
     ·go_simp
      refine hK.out _ _ (zK hb (kb1.mono hw3) HX.out) (fun hHeld=> ?_)
      clear hK K
      refine wpAnyH_ready (rs:= [17]) (by kernel_rfl) (by simp) ?_
      refine AllReadyH.cons rfl (fun K hK=> ?_) ?_
      ·go_simp
       refine hK.out _ _ (zK hb ((kb1.alloc kb1.size _).mono hw3) HX.out) (fun hHeld=> ?_)
       clear hK K
       refine wpAnyH_ready (rs:= [18]) (by kernel_rfl) (by simp) ?_
       refine AllReadyH.cons rfl (fun K hK=> ?_) ?_
       ·refine zj _ rfl (.tmp 20) (.tmp 36) 26 rfl (w.heap.size+1+1+1) 63 i1 _ 5 56 Tryz.underlying26 hi1 hy0 hy1 hy2 rfl (by decide) _ k _ rfl ((Mods.of_below (S:=No) (kb1.alloc kb1.size (.cells #[.slice A2 y.code.length c2,.int .i64 y.term.kind,.int .i64 y.term.a,.int .i64 y.term.to,.int .i64 y.term.el] 63))).ownS HOut.out (fun _ _ h=>h)) (W1.heap.size+1) (some ⟨W1.heap.size,0,none⟩) 1 1 (jv.oc (.slice A2 y.code.length c2) y) rfl (yn rfl #[.slice A2 y.code.length c2,.int .i64 y.term.kind,.int .i64 y.term.a,.int .i64 y.term.to,.int .i64 y.term.el] 63 rfl) rfl (Ur y A2 _ c2) (by unfold maxLen;omega) (by omega) (Nat.le_trans hbz (kb1.alloc kb1.size (.cells #[.slice A2 y.code.length c2,.int .i64 y.term.kind,.int .i64 y.term.a,.int .i64 y.term.to,.int .i64 y.term.el] 63)).size) ?_
        intro v2 W2 ho2 hg2 ha2
        obtain ⟨A3,c3,rfl,_,_⟩:=zg ho2
        have hgg:World.grownBy (W1.alloc (.cells #[.slice A2 y.code.length c2,.int .i64 y.term.kind,.int .i64 y.term.a,.int .i64 y.term.to,.int .i64 y.term.el] 63)) W2 (Value.slice Av k cv).ownBlock:=⟨hg2.os,hg2.tape,hg2.output,hg2.size,hg2.block⟩
        have HG2:=qH hgg
        have HO2:=qH ho2
        have kc:=(((kb1.mono hbz).alloc (Nat.le_trans hbz kb1.size) (.cells #[.slice A2 y.code.length c2,.int .i64 y.term.kind,.int .i64 y.term.a,.int .i64 y.term.to,.int .i64 y.term.el] 63)).grown hgg (Nat.le_trans hbz (kb1.alloc kb1.size _).size) (fun k hk=>(z9 HOut.out k hk).1))
        have hfr:=(HC.out.out.below kc (by omega)).frozen 3
        have f4:=(kc.cell (p:=⟨w.heap.size+1+1,3,none⟩) (Nat.lt_succ_self _)).trans f2
        clear ho2 hg2 ha2 hgg
        refine hK.out _ _ (zK hb (kc.mono hw2) HX.out) (fun hHeld=> ?_)
        clear hK K
        refine ze 19 38 (.pointer (some ⟨w.heap.size+1+1,3,none⟩)) rfl rfl (by kernel_rfl) (by kernel_rfl) (by kernel_rfl) (fun _ _ _ h=>h) (Or.inl ⟨by rfl,?_⟩) hHeld ?_
        ·intro w9 hSw
         (try dsimp only at hSw)
         go_simp
        (try simp only [Act.put,List.setIfInBounds_toArray,List.set_cons_zero,List.set_cons_succ])
        refine wpAnyH_ready (rs:= [20]) (by kernel_rfl) (by simp) ?_
        refine AllReadyH.cons rfl (fun K hK=> ?_) ?_
        ·go_simp
         refine hK.out _ _ (zK hb ((kc.mono hw2).setCell (p:=⟨w.heap.size+1+1,3,none⟩) hw1 _) HX.out) (fun hHeld=> ?_)
         clear hK K
         refine wpAnyH_done (by kernel_rfl) ?_ _
         have hN2:∃vs,NestV jv W2 (w.heap.size+1+1+1) (.slice A3 (k+1) c3) vs (bs.take (k+1)):=⟨_,by rw [HT.out];exact NestV.snoc (M:=No) HN.out (Mods.of_below kb1) (fun _ h=>h.elim) hbz HO1.out _ (by rw [hvl];exact HO2.out) HG2.out⟩
         have HS9:=qH (HC.out.step kc hN2)
         clear hHeld hN2 f2 f3 f4 hfr d2
         go_wp2
         go_roundw
         case rel=>exact ⟨k+1,_,by omega,by go_num,HS9.out⟩
         case measure=>simp [intOf];omega
        exact AllReadyH.nil
       exact AllReadyH.nil
      exact AllReadyH.nil
     refine AllReadyH.cons rfl (fun K hK=> ?_) ?_
     ·go_simp
      refine hK.out _ _ (zK hb ((kb1.alloc kb1.size _).mono hw3) HX.out) (fun hHeld=> ?_)
      clear hK K
      refine wpAnyH_ready (rs:= [1]) (by kernel_rfl) (by simp) ?_
      refine AllReadyH.cons rfl (fun K hK=> ?_) ?_
      ·go_simp
       refine hK.out _ _ (zK hb ((kb1.alloc kb1.size _).mono hw3) HX.out) (fun hHeld=> ?_)
       clear hK K
       refine wpAnyH_ready (rs:= [18]) (by kernel_rfl) (by simp) ?_
       refine AllReadyH.cons rfl (fun K hK=> ?_) ?_
       ·refine zj _ rfl (.tmp 20) (.tmp 36) 26 rfl (w.heap.size+1+1+1) 63 i1 _ 5 56 Tryz.underlying26 hi1 hy0 hy1 hy2 rfl (by decide) _ k _ rfl ((Mods.of_below (S:=No) (kb1.alloc kb1.size (.cells #[.slice A2 y.code.length c2,.int .i64 y.term.kind,.int .i64 y.term.a,.int .i64 y.term.to,.int .i64 y.term.el] 63))).ownS HOut.out (fun _ _ h=>h)) (W1.heap.size+1) (some ⟨W1.heap.size,0,none⟩) 1 1 (jv.oc (.slice A2 y.code.length c2) y) rfl (yn rfl #[.slice A2 y.code.length c2,.int .i64 y.term.kind,.int .i64 y.term.a,.int .i64 y.term.to,.int .i64 y.term.el] 63 rfl) rfl (Ur y A2 _ c2) (by unfold maxLen;omega) (by omega) (Nat.le_trans hbz (kb1.alloc kb1.size (.cells #[.slice A2 y.code.length c2,.int .i64 y.term.kind,.int .i64 y.term.a,.int .i64 y.term.to,.int .i64 y.term.el] 63)).size) ?_
        intro v2 W2 ho2 hg2 ha2
        obtain ⟨A3,c3,rfl,_,_⟩:=zg ho2
        have hgg:World.grownBy (W1.alloc (.cells #[.slice A2 y.code.length c2,.int .i64 y.term.kind,.int .i64 y.term.a,.int .i64 y.term.to,.int .i64 y.term.el] 63)) W2 (Value.slice Av k cv).ownBlock:=⟨hg2.os,hg2.tape,hg2.output,hg2.size,hg2.block⟩
        have HG2:=qH hgg
        have HO2:=qH ho2
        have kc:=(((kb1.mono hbz).alloc (Nat.le_trans hbz kb1.size) (.cells #[.slice A2 y.code.length c2,.int .i64 y.term.kind,.int .i64 y.term.a,.int .i64 y.term.to,.int .i64 y.term.el] 63)).grown hgg (Nat.le_trans hbz (kb1.alloc kb1.size _).size) (fun k hk=>(z9 HOut.out k hk).1))
        have hfr:=(HC.out.out.below kc (by omega)).frozen 3
        have f4:=(kc.cell (p:=⟨w.heap.size+1+1,3,none⟩) (Nat.lt_succ_self _)).trans f2
        clear ho2 hg2 ha2 hgg
        refine hK.out _ _ (zK hb (kc.mono hw2) HX.out) (fun hHeld=> ?_)
        clear hK K
        refine ze 19 38 (.pointer (some ⟨w.heap.size+1+1,3,none⟩)) rfl rfl (by kernel_rfl) (by kernel_rfl) (by kernel_rfl) (fun _ _ _ h=>h) (Or.inl ⟨by rfl,?_⟩) hHeld ?_
        ·intro w9 hSw
         (try dsimp only at hSw)
         go_simp
        (try simp only [Act.put,List.setIfInBounds_toArray,List.set_cons_zero,List.set_cons_succ])
        refine wpAnyH_ready (rs:= [20]) (by kernel_rfl) (by simp) ?_
        refine AllReadyH.cons rfl (fun K hK=> ?_) ?_
        ·go_simp
         refine hK.out _ _ (zK hb ((kc.mono hw2).setCell (p:=⟨w.heap.size+1+1,3,none⟩) hw1 _) HX.out) (fun hHeld=> ?_)
         clear hK K
         refine wpAnyH_done (by kernel_rfl) ?_ _
         have hN2:∃vs,NestV jv W2 (w.heap.size+1+1+1) (.slice A3 (k+1) c3) vs (bs.take (k+1)):=⟨_,by rw [HT.out];exact NestV.snoc (M:=No) HN.out (Mods.of_below kb1) (fun _ h=>h.elim) hbz HO1.out _ (by rw [hvl];exact HO2.out) HG2.out⟩
         have HS9:=qH (HC.out.step kc hN2)
         clear hHeld hN2 f2 f3 f4 hfr d2
         go_wp2
         go_roundw
         case rel=>exact ⟨k+1,_,by omega,by go_num,HS9.out⟩
         case measure=>simp [intOf];omega
        exact AllReadyH.nil
       exact AllReadyH.nil
      exact AllReadyH.nil
     exact AllReadyH.nil
    exact AllReadyH.nil
   exact AllReadyH.nil
  ·obtain rfl:k=bs.length:=by omega
   have d2:=HC.out.box.k3
   have f0:=HC.out.out.k0;have f1:=HC.out.out.k1;have f2:=HC.out.out.k2;have f3:=HC.out.out.k3
   have g0:=HC.out.res.k0;have g1:=HC.out.res.k1;have g2:=HC.out.res.k2;have g3:=HC.out.res.k3
   have r0:=HC.out.res.frozen 0;have r1:=HC.out.res.frozen 1;have r2:=HC.out.res.frozen 2;have r3:=HC.out.res.frozen 3
   obtain ⟨vs,hnest⟩:=HC.out.nest
   rw [List.take_length] at hnest
   obtain ⟨Av,cv,rfl,_,_⟩:=zg hnest.outer
   have HN:=qH hnest
   clear hnest hs
   go_wp2
   (try simp only [Exit.inBlock,Exit.then])
   refine bodyPost_ret (v:= .agg #[.int .i64 args,.int .i64 regs,.int .i64 slots,.slice Av vs.length cv]) ?_ rfl ⟨_,vs,rfl,(HN.out.mods (M:=Is (w.heap.size+1)) (((((Mods.refl _ wr).put 0 _).put 1 _).put 2 _).put 3 _) (fun k h1 _ h2=>by unfold Is at h2;omega)).rebase (by omega),(((HC.out.below.setCell (Nat.le_succ _) _).setCell (Nat.le_succ _) _).setCell (Nat.le_succ _) _).setCell (Nat.le_succ _) _⟩
   exact results_cell_row rfl _ _ (w.heap.size+1) 28 #[.int .i64 args,.int .i64 regs,.int .i64 slots,.slice Av vs.length cv] (0,0) _ rfl ((((HC.out.res.put 0 (.int .i64 args)).put 1 (.int .i64 regs)).put 2 (.int .i64 slots)).put 3 (.slice Av vs.length cv)) Tryz.underlying28 rfl (by kernel_rfl)
end Go.Proofs.YtnifhpbgmjcndaaGreat
