/-
  The walk of the statement that liveness is what the reference says.
-/
import Derived.Test.YtncigbpeempnfaaLvHead
namespace Go.Proofs.Ytncigbpeempnfaa
open Go.RowKit
set_option linter.unusedVariables false

/-- Two lists of integers of one's own, in blocks of their own. -/
structure TL (w : World) (v1 : Value) (l1 : List Int) (v2 : Value) (l2 : List Int) (W : World) : Prop where
  o1 : W.ownsRow w.heap.size 3 1 v1 l1.length (ints l1)
  o2 : W.ownsRow w.heap.size 3 1 v2 l2.length (ints l2)
  ap : ∀ q, v1.ownBlock = some q → ¬ v2.ownBlock = some q
  sz : w.heap.size ≤ W.heap.size

section
variable {w W W' : World} {v1 v2 v' : Value} {l1 l2 l' : List Int}

theorem TL.next (h : TL w v1 l1 v2 l2 W) (hb : Below W.heap.size W W') : TL w v1 l1 v2 l2 W' :=
  ⟨(Mods.of_below (S := No) hb).ownS h.o1 fun _ _ hs => hs.elim, (Mods.of_below (S := No) hb).ownS h.o2 fun _ _ hs => hs.elim, h.ap, Nat.le_trans h.sz hb.size⟩

theorem TL.start (w : World) : TL w (.slice none 0 0) [] (.slice none 0 0) [] w := ⟨⟨by simp [ints], .inl ⟨rfl, rfl⟩⟩, ⟨by simp [ints], .inl ⟨rfl, rfl⟩⟩, fun q h => (by cases h), Nat.le_refl _⟩

theorem TL.swap (h : TL w v1 l1 v2 l2 W) : TL w v2 l2 v1 l1 W := ⟨h.o2, h.o1, fun q h1 h2 => h.ap q h2 h1, h.sz⟩

theorem TL.push {o : Obj} (h : TL w v1 l1 v2 l2 W) (ho : W'.ownsRow w.heap.size 3 1 v' l'.length (ints l')) (hg : (W.alloc o).grownBy W' v1.ownBlock) (hb : v'.ownBlock = v1.ownBlock ∨ v'.ownBlock = some (W.heap.size + 1)) : TL w v' l' v2 l2 W' := by
  have hm : Mods (fun k => v1.ownBlock = some k) W W' := ((Mods.refl _ W).alloc o).grown hg fun k hk => .inl hk
  refine ⟨ho, hm.ownS h.o2 fun q h1 h2 => h.ap q h2 h1, fun q h1 h2 => ?_, Nat.le_trans h.sz hm.size⟩
  rcases hb with hb | hb
  · exact h.ap q (by rw [← hb]; exact h1) h2
  · rw [hb] at h1
    injection h1 with h1
    have := (ownS_lt h.o2 q h2).2
    omega

end

/-- What the inner loop carries. -/
structure MW (w : World) (z : Nat) (args regs : Int) (A : Option Addr) (bs : List Blk) (c : Nat) (b o : Nat) (A1 : Option Addr) (c1 : Nat) (x : Blk) (W0 : World) (v1 : Value) (l1 : List Int) (v2 : Value) (l2 : List Int) (W : World) : Prop where
  lw0 : LF23 w z args regs A bs c W0
  xc0 : XC b o A1 c1 x W0
  blw : Below W0.heap.size W0 W
  tl : TL W0 v1 l1 v2 l2 W

section
variable {w : World} {z : Nat} {args regs : Int} {A : Option Addr} {bs : List Blk} {c : Nat} {b o : Nat} {A1 : Option Addr} {c1 : Nat} {x : Blk} {W0 : World} {v1 v2 v' : Value} {l1 l2 l' : List Int} {W W' : World}

theorem MW.lw (h : MW w z args regs A bs c b o A1 c1 x W0 v1 l1 v2 l2 W) : LF23 w z args regs A bs c W := h.lw0.next h.blw

theorem MW.xc (h : MW w z args regs A bs c b o A1 c1 x W0 v1 l1 v2 l2 W) : XC b o A1 c1 x W := h.xc0.next h.blw

theorem MW.swap (h : MW w z args regs A bs c b o A1 c1 x W0 v1 l1 v2 l2 W) : MW w z args regs A bs c b o A1 c1 x W0 v2 l2 v1 l1 W := ⟨h.lw0, h.xc0, h.blw, h.tl.swap⟩

theorem MW.push {ob : Obj} (h : MW w z args regs A bs c b o A1 c1 x W0 v1 l1 v2 l2 W) {a : Int} {n : Nat} (hn : l1.length = n) (ho : W'.ownsRow W0.heap.size 3 1 v' (n + 1) (ints l1 ++ [.int .i64 a])) (hg : (W.alloc ob).grownBy W' v1.ownBlock) (hb : v'.ownBlock = v1.ownBlock ∨ v'.ownBlock = some (W.heap.size + 1)) : MW w z args regs A bs c b o A1 c1 x W0 v' (l1 ++ [a]) v2 l2 W' := by
  refine ⟨h.lw0, h.xc0, ((h.blw.alloc h.blw.size ob).grown hg (by have := h.blw.size; simp; omega) fun k hk => (ownS_lt h.tl.o1 k hk).1), h.tl.push ?_ hg hb⟩
  rw [List.length_append, hn, show ints (l1 ++ [a]) = ints l1 ++ [.int .i64 a] by simp [ints]]
  exact ho

theorem MW.next (h : MW w z args regs A bs c b o A1 c1 x W0 v1 l1 v2 l2 W) (hb : Below W.heap.size W W') : MW w z args regs A bs c b o A1 c1 x W0 v1 l1 v2 l2 W' := ⟨h.lw0, h.xc0, h.blw.trans (hb.mono h.blw.size), h.tl.next hb⟩

theorem MW.drewN (h : MW w z args regs A bs c b o A1 c1 x W0 v1 l1 v2 l2 W) (n : Nat) : MW w z args regs A bs c b o A1 c1 x W0 v1 l1 v2 l2 (W.drewN n) := h.next ⟨rfl, rfl, rfl, Nat.le_refl _, fun _ _ => rfl⟩

theorem MW.drew (h : MW w z args regs A bs c b o A1 c1 x W0 v1 l1 v2 l2 W) : MW w z args regs A bs c b o A1 c1 x W0 v1 l1 v2 l2 W.drew := h.drewN 1

theorem MW.cells (h : MW w z args regs A bs c b o A1 c1 x W0 v1 l1 v2 l2 W) : MW w z args regs A bs c b o A1 c1 x W0 v1 l1 v2 l2 W ∧ W.cell? ⟨z, 2, none⟩ = some (.slice A bs.length c) ∧ W.cell? ⟨b, o, none⟩ = some (.slice A1 x.code.length c1) ∧ W.cell? ⟨b, o + 1, none⟩ = some (.int .i64 x.term.kind) ∧ W.cell? ⟨b, o + 2, none⟩ = some (.int .i64 x.term.a) ∧ W.cell? ⟨b, o + 3, none⟩ = some (.int .i64 x.term.to) ∧ W.cell? ⟨b, o + 4, none⟩ = some (.int .i64 x.term.el) :=
  ⟨h, h.lw.f.k2, h.xc.k0, h.xc.k1, h.xc.k2, h.xc.k3, h.xc.k4⟩

end

section
variable {w : World} {z : Nat} {args regs : Int} {A : Option Addr} {bs : List Blk} {c : Nat} {W W' : World}

theorem LF23.cells (h : LF23 w z args regs A bs c W) : LF23 w z args regs A bs c W ∧ W.cell? ⟨z, 0, none⟩ = some (.int .i64 args) ∧ W.cell? ⟨z, 1, none⟩ = some (.int .i64 regs) ∧ W.cell? ⟨z, 2, none⟩ = some (.slice A bs.length c) := ⟨h, h.f.k0, h.f.k1, h.f.k2⟩

theorem SeesII.drewN {B : Nat} {A : Option Addr} {xs : List (List Int)} (h : SeesII W B A xs) (n : Nat) : SeesII (W.drewN n) B A xs := h.keep fun _ _ => rfl

theorem SeesII.drew {B : Nat} {A : Option Addr} {xs : List (List Int)} (h : SeesII W B A xs) : SeesII W.drew B A xs := h.keep fun _ _ => rfl

end

set_option maxRecDepth 100000 in
set_option maxHeartbeats 8000000 in
theorem LivenessMatchesReference_walk (a0 : Array Value) (w : World) (w0 : IsFn w a0) :
    Calls Try.prog 3 #[.agg a0] w fun e w' => e = .returned (.bool true) ∧ Below w.heap.size w w' := by
  obtain ⟨args, regs, A, bs, c, rfl, _, _, hbl, hbm, hs, hw⟩ := w0
  have H0 : Hid (LF23 w w.heap.size args regs A bs c _) := LF23.start hs
  have hbl2 : bs.length ≤ maxLen := Nat.le_trans hbl hbm
  have HWF := Lib.hid hw
  clear hbl hbm hs hw
  go_enter Try.func3, Try.ntmps3
  go_wp2_with fail
  refine (awake23_any _).mono ?_
  rintro e W1 ⟨rfl, hb⟩
  have h1 := H0.out.next hb
  have H1 := Lib.hid h1
  have d0 := h1.f.k0; have d1 := h1.f.k1; have d2 := h1.f.k2
  clear hb H0 h1
  go_wp2_with fail
  refine (rfew_any w.heap.size A bs c args regs _ H1.out.b H1.out.below.size hbl2).mono ?_
  rintro e W2 ⟨⟨b, rfl, hf⟩, hb⟩
  have h2 := H1.out.next hb
  have H2 := Lib.hid h2
  clear hb H1 d0 d1 d2 hbl2
  have d0 := h2.f.k0; have d1 := h2.f.k1; have d2 := h2.f.k2
  clear h2
  cases b
  · clear hf d0 d1 d2
    go_wp2_with fail
    refine (awake23_any _).mono ?_
    rintro e W3 ⟨rfl, hb⟩
    have HB3 := Lib.hid (H2.out.next hb).below
    clear hb H2
    go_wp2_with fail
    go_ret
    exact ⟨rfl, HB3.out⟩
  · have HF := Lib.hid (hf rfl)
    clear hf
    have C2 := Lib.hid (rcheck_any w.heap.size A bs c args regs W2 H2.out.b H2.out.below.size (by have := HF.out.1; omega) (by have := HF.out.2.2; omega))
    obtain ⟨v, hv⟩ : ∃ z, eF args regs bs = z := ⟨_, rfl⟩
    rw [hv] at C2
    have HE := Lib.hid hv
    clear hv
    by_cases hv : v = 0
    · subst hv
      obtain ⟨N, hN, hN60, hOK, hFN⟩ := fn_of HF.out HE.out HWF.out
      subst hN
      have hm40 : bs.length ≤ 40 := HF.out.1
      have hc300 : codeN bs ≤ 300 := HF.out.2.2
      have HOK := Lib.hid hOK
      have HFN := Lib.hid hFN
      clear hOK hFN HF HE
      have e00 : ((0 : Int) != 0) = false := rfl
      have hbs : bs.length ≤ 9223372036854775807 := by omega
      obtain ⟨i0, hi0, hz0, hz1, hz2⟩ := info_parts infoInt23
      go_wp2_with fail
      refine C2.out.mono ?_
      rintro e W3 ⟨rfl, hb⟩
      have H3 := Lib.hid (H2.out.next hb)
      clear hb C2 d0 d1 d2 H2
      go_upto_region 4 with fail
      go_loopg [3] bs.length (fun q s3 wr => ∃ i : Nat, i + q = bs.length ∧ s3 = .int .i64 (i : Int) ∧ Hid (LF23 w w.heap.size args N A bs c wr))
      case atStart => exact ⟨0, by omega, rfl, H3.out⟩
      case round =>
        clear H3
        obtain ⟨i, hi, rfl, HW⟩ := hrel
        have d0 := HW.out.f.k0; have d1 := HW.out.f.k1; have d2 := HW.out.f.k2
        cases gk with
        | zero =>
          obtain rfl : i = bs.length := by omega
          go_upto_region 16 with fail
          have C1 := Lib.hid (fun W (h : LF23 w w.heap.size args N A bs c W) => (pin_any args N A bs c N W h.blks HFN.out).mono fun e w' hl => (by obtain ⟨A1, he, hs, hb⟩ := hl.see; exact ⟨A1, he, h.next hb, hs⟩ : ∃ A1, e = Ending.returned (.slice A1 bs.length bs.length) ∧ LF23 w w.heap.size args N A bs c w' ∧ SeesII w' w'.heap.size A1 (fL23 (inL bs N) bs.length)))
          have C2 := Lib.hid (fun W (A1 : Option Addr) (h : LF23 w w.heap.size args N A bs c W) (h1 : SeesII W W.heap.size A1 (fL23 (inL bs N) bs.length)) => (rin23_any args N A bs c W h.blks HFN.out.hm (by omega) HFN.out.code HFN.out.succ).mono fun e w' hl => (by obtain ⟨A2, he, hs, hb⟩ := LLP.see hl; exact ⟨A2, he, h.next hb, (h1.below hb).more hb.size, hs⟩ : ∃ A2, e = Ending.returned (.slice A2 bs.length bs.length) ∧ LF23 w w.heap.size args N A bs c w' ∧ SeesII w' w'.heap.size A1 (fL23 (inL bs N) bs.length) ∧ SeesII w' w'.heap.size A2 (fL23 (inL bs N) bs.length)))
          have C3 := Lib.hid (fun W (h : LF23 w w.heap.size args N A bs c W) => (pout_any args N A bs c N W h.blks HFN.out).mono fun e w' hl => (by obtain ⟨A1, he, hs, hb⟩ := hl.see; exact ⟨A1, he, h.next hb, hs⟩ : ∃ A1, e = Ending.returned (.slice A1 bs.length bs.length) ∧ LF23 w w.heap.size args N A bs c w' ∧ SeesII w' w'.heap.size A1 (fL23 (outL bs N) bs.length)))
          have C4 := Lib.hid (fun W (A1 : Option Addr) (h : LF23 w w.heap.size args N A bs c W) (h1 : SeesII W W.heap.size A1 (fL23 (outL bs N) bs.length)) => (rout23_any args N A bs c W h.blks HFN.out.hm (by omega) HFN.out.code HFN.out.succ).mono fun e w' hl => (by obtain ⟨A2, he, hs, hb⟩ := LLP.see hl; exact ⟨A2, he, h.next hb, (h1.below hb).more hb.size, hs⟩ : ∃ A2, e = Ending.returned (.slice A2 bs.length bs.length) ∧ LF23 w w.heap.size args N A bs c w' ∧ SeesII w' w'.heap.size A1 (fL23 (outL bs N) bs.length) ∧ SeesII w' w'.heap.size A2 (fL23 (outL bs N) bs.length)))
          have C5 := Lib.hid (fun (xs : List (List Int)) (hx : xs.length = bs.length) W (A1 A2 : Option Addr) (h : LF23 w w.heap.size args N A bs c W) (h1 : SeesII W W.heap.size A1 xs) (h2 : SeesII W W.heap.size A2 xs) => (same_at23 W.heap.size xs xs bs.length bs.length bs.length bs.length true hx hx h1 h2 (by omega) (by omega) (by simp)).mono fun e w' hl => (⟨hl.1, h.next (blw_drewN' hl.2)⟩ : e = Ending.returned (.bool true) ∧ LF23 w w.heap.size args N A bs c w'))
          have hx1 : (fL23 (inL bs N) bs.length).length = bs.length := fL_len _ _
          have hx2 : (fL23 (outL bs N) bs.length).length = bs.length := fL_len _ _
          have C6 := Lib.hid (C5.out _ hx1)
          have C7 := Lib.hid (C5.out _ hx2)
          have hG := HW.out
          generalize fL23 (inL bs N) bs.length = XI at *
          generalize fL23 (outL bs N) bs.length = XO at *
          clear HW C5 hx1 hx2 d0 d1 d2
          go_region_held3 (fun W => LF23 w w.heap.size args N A bs c W ∧ W.cell? ⟨w.heap.size, 0, none⟩ = some (.int .i64 args) ∧ W.cell? ⟨w.heap.size, 1, none⟩ = some (.int .i64 (N : Int)) ∧ W.cell? ⟨w.heap.size, 2, none⟩ = some (.slice A bs.length c)) (first | exact hG.cells | exact hG.drew.cells | exact (hG.drewN _).cells) (first
            | (go_at_call 17; go_must ((with_reducible refine (C1.out _ (by first | exact hG | exact hG.drew | exact hG.drewN _)).mono ?_); rintro e W3 ⟨A1, rfl, hG, hs1⟩))
            | (go_at_call 18; go_must ((with_reducible refine (C2.out _ A1 (by first | exact hG | exact hG.drew | exact hG.drewN _) (by first | exact hs1 | exact hs1.drew | exact hs1.drewN _)).mono ?_); rintro e W3 ⟨A2, rfl, hG, hs1, hs2⟩))
            | (go_at_call 19; go_must ((with_reducible refine (C3.out _ (by first | exact hG | exact hG.drew | exact hG.drewN _)).mono ?_); rintro e W3 ⟨A3, rfl, hG, hs3⟩))
            | (go_at_call 20; go_must ((with_reducible refine (C4.out _ A3 (by first | exact hG | exact hG.drew | exact hG.drewN _) (by first | exact hs3 | exact hs3.drew | exact hs3.drewN _)).mono ?_); rintro e W3 ⟨A4, rfl, hG, hs3, hs4⟩))
            | (go_at_call 16; (with_reducible refine (C7.out _ A3 A4 (by first | exact hG | exact hG.drew | exact hG.drewN _) (by first | exact hs3 | exact hs3.drew | exact hs3.drewN _) (by first | exact hs4 | exact hs4.drew | exact hs4.drewN _)).mono ?_); rintro e W3 ⟨rfl, hG⟩)
            | (go_at_call 16; go_must ((with_reducible refine (C6.out _ A1 A2 (by first | exact hG | exact hG.drew | exact hG.drewN _) (by first | exact hs1 | exact hs1.drew | exact hs1.drewN _) (by first | exact hs2 | exact hs2.drew | exact hs2.drewN _)).mono ?_); rintro e W3 ⟨rfl, hG⟩)))
          go_wp2_with fail
          go_ret
          exact ⟨rfl, hG.below⟩
        | succ g1 =>
          have hlt : i < bs.length := by omega
          obtain ⟨b', o, A1, c1, rfl, hc1, hc2, hx⟩ := HW.out.xc hlt
          have hok := HFN.out.ok bs[i] (List.getElem_mem hlt)
          have hcm := HFN.out.code bs[i] (List.getElem_mem hlt)
          generalize bs[i] = x at *
          have HX := Lib.hid hx
          have HU := Lib.hid (fun W (h : InsAt W W.heap.size A1 x.code) => uses_any A1 x c1 N W h hcm (by omega) hok)
          have HD := Lib.hid (fun W (h : InsAt W W.heap.size A1 x.code) => defs_any A1 x c1 N W h hcm (by omega) hok)
          have HRU := Lib.hid (fun (v : Int) W (h : InsAt W W.heap.size A1 x.code) => rused23_any A1 x c1 v W h hcm)
          have HRD := Lib.hid (fun (v : Int) W (h : InsAt W W.heap.size A1 x.code) => rdef23_any A1 x c1 v x.code.length W h (Nat.le_refl _) hcm)
          have HBD : Hid (∀ v, lvD x.code v x.code.length = bDef x v) := fun v => rfl
          obtain ⟨W0, hW0⟩ : ∃ z, z = wr := ⟨_, rfl⟩
          have HMW : Hid (MW w w.heap.size args N (some ⟨b', o, none⟩) bs c b' (o + i * 5) A1 c1 x W0 (.slice none 0 0) [] (.slice none 0 0) [] wr) := by
            subst hW0
            exact ⟨HW.out, hx, Below.refl _ _, TL.start _⟩
          clear hW0
          obtain ⟨RU, hRU⟩ : ∃ z, z = bUse x := ⟨_, rfl⟩
          obtain ⟨RD, hRD⟩ : ∃ z, z = bDef x := ⟨_, rfl⟩
          have HUE := Lib.hid hRU
          have HDE := Lib.hid hRD
          clear hx hok hRU hRD HX HW
          go_upto_region 8 with fail
          clear d0 d1 d2
          go_loopg [4, 5, 6] N (fun q s4 s5 s6 wx => ∃ (v : Nat) (A4 A5 : Option Addr) (c4 c5 : Nat), v + q = N ∧ s4 = .slice A4 (regL RU v).length c4 ∧ s5 = .slice A5 (regL RD v).length c5 ∧ s6 = .int .i64 (v : Int) ∧ Hid (MW w w.heap.size args N (some ⟨b', o, none⟩) bs c b' (o + i * 5) A1 c1 x W0 (.slice A4 (regL RU v).length c4) (regL RU v) (.slice A5 (regL RD v).length c5) (regL RD v) wx))
          case atStart => exact ⟨0, none, none, 0, 0, by omega, rfl, rfl, rfl, HMW.out⟩
          case round =>
            clear HMW
            obtain ⟨v, A4, A5, c4, c5, hv, rfl, rfl, rfl, HW⟩ := hrel
            have d0 := HW.out.lw.f.k0; have d1 := HW.out.lw.f.k1; have d2 := HW.out.lw.f.k2
            have f0 := HW.out.xc.k0; have f1 := HW.out.xc.k1; have f2 := HW.out.xc.k2; have f3 := HW.out.xc.k3; have f4 := HW.out.xc.k4
            cases gk with
            | zero =>
              obtain rfl : v = N := by omega
              have HUL : Hid (regL RU v = useL x v) := by rw [Hid, HUE.out]; rfl
              have HDL : Hid (regL RD v = defL x v) := by rw [Hid, HDE.out]; rfl
              have HU1 := HU.out wr HW.out.xc.ins
              rw [← HUL.out] at HU1
              have HD1 : Hid (∀ W, InsAt W W.heap.size A1 x.code → _) := HD.out
              rw [← HDL.out] at HD1
              have hul : (regL RU v).length ≤ 100000 := Nat.le_trans (regL_len _ _) (by omega)
              have hdl : (regL RD v).length ≤ 100000 := Nat.le_trans (regL_len _ _) (by omega)
              obtain ⟨Lu, hLu⟩ : ∃ z, regL RU v = z := ⟨_, rfl⟩
              obtain ⟨Ld, hLd⟩ : ∃ z, regL RD v = z := ⟨_, rfl⟩
              rw [hLu] at HU1 hul HW ⊢
              rw [hLd] at HD1 hdl HW ⊢
              have HU2 := Lib.hid HU1
              clear hLu hLd HUL HDL HU HD HU1
              go_wp2_with (first
                | (go_at_call 14; go_must (refine (HU2.out).mono ?_); rintro e W6 ⟨Au, cu, rfl, h6⟩; have H6 := Lib.hid (HW.out.next h6.blw); have HN6 := Lib.hid (num_at W6.heap.size Lu Lu _ _ cu c4 true rfl rfl h6.see.2 (sees_own H6.out.tl.o1) (by omega) (by omega) (sameI_self _)); clear h6)
                | (go_at_call 13; with_reducible refine (HN6.out).mono ?_; rintro e W7 ⟨rfl, hd7⟩; have H7 := Lib.hid (H6.out.next (blw_drewN' hd7)); clear hd7; have p0 := H7.out.xc.k0; have p1 := H7.out.xc.k1; have p2 := H7.out.xc.k2; have p3 := H7.out.xc.k3; have p4 := H7.out.xc.k4; have q2 := H7.out.lw.f.k2; have HD2 := Lib.hid (HD1.out W7 H7.out.xc.ins))
                | (go_at_call 15; go_must (refine (HD2.out).mono ?_); rintro e W8 ⟨Ad, cd, rfl, h6⟩; have H8 := Lib.hid (H7.out.next h6.blw); have HN8 := Lib.hid (num_at W8.heap.size Ld Ld _ _ cd c5 true rfl rfl h6.see.2 (sees_own H8.out.tl.o2) (by omega) (by omega) (sameI_self _)); clear h6)
                | (go_at_call 13; with_reducible refine (HN8.out).mono ?_; rintro e W9 ⟨rfl, hd7⟩; have H9 := Lib.hid (H8.out.next (blw_drewN' hd7)); clear hd7))
              go_roundg g1
              case measure => omega
              case rel => exact ⟨i + 1, by omega, by go_num, H9.out.lw⟩
            | succ g2 =>
              have hvN : v < N := by omega
              have hU := HRU.out v wr HW.out.xc.ins
              rw [show bUse x (v : Int) = RU v by rw [HUE.out]] at hU
              have HDR : Hid (∀ W, InsAt W W.heap.size A1 x.code → _) := HRD.out (v : Int)
              have HDV : Hid (lvD x.code (v : Int) x.code.length = RD v) := by rw [Hid, HBD.out, HDE.out]
              have HSU1 : Hid (RU v = true → regL RU (v + 1) = regL RU v ++ [(v : Int)]) := fun h => by rw [regL, if_pos h]
              have HSU0 : Hid (RU v = false → regL RU (v + 1) = regL RU v) := fun h => by rw [regL, if_neg (by rw [h]; decide)]
              have HSD1 : Hid (RD v = true → regL RD (v + 1) = regL RD v ++ [(v : Int)]) := fun h => by rw [regL, if_pos h]
              have HSD0 : Hid (RD v = false → regL RD (v + 1) = regL RD v) := fun h => by rw [regL, if_neg (by rw [h]; decide)]
              have hul : (regL RU v).length ≤ 100000 := Nat.le_trans (regL_len _ _) (by omega)
              have hdl : (regL RD v).length ≤ 100000 := Nat.le_trans (regL_len _ _) (by omega)
              obtain ⟨ru, hru⟩ : ∃ z, RU v = z := ⟨_, rfl⟩
              obtain ⟨rd, hrd⟩ : ∃ z, RD v = z := ⟨_, rfl⟩
              rw [hru] at hU HSU1 HSU0
              rw [hrd] at HDV HSD1 HSD0
              have HU1 := Lib.hid hU
              clear hU hru hrd
              obtain ⟨Lu, hLu⟩ : ∃ z, regL RU v = z := ⟨_, rfl⟩
              obtain ⟨Ld, hLd⟩ : ∃ z, regL RD v = z := ⟨_, rfl⟩
              rw [hLu] at HSU1 HSU0 hul HW ⊢
              rw [hLd] at HSD1 HSD0 hdl HW ⊢
              clear hLu hLd
              go_upto_if 39 with (go_at_call 11; go_must (refine (HU1.out).mono ?_); rintro e w4 ⟨rfl, hb4⟩; have H4 := Lib.hid (HW.out.next hb4); clear hb4)
              clear HW HU1 d0 d1 d2 f0 f1 f2 f3 f4
              go_cut [4] from 27 to 61 (fun s4 wx => ∃ A4 c4, s4 = .slice A4 (regL RU (v + 1)).length c4 ∧ Hid (MW w w.heap.size args N (some ⟨b', o, none⟩) bs c b' (o + i * 5) A1 c1 x W0 (.slice A4 (regL RU (v + 1)).length c4) (regL RU (v + 1)) (.slice A5 Ld.length c5) Ld wx))
              case first =>
                cases ru
                · have HE := Lib.hid (HSU0.out rfl)
                  go_wp2_with fail
                  go_meet
                  case rel => exact ⟨A4, c4, by rw [HE.out], by rw [HE.out]; exact H4.out⟩
                · have HE := Lib.hid (HSU1.out rfl)
                  have hown2 := ((Mods.refl No w4).alloc (.cells #[.int .i64 (v : Int)] 3)).ownS H4.out.tl.o1 fun _ _ h => h
                  have hnew := sees_new w4 #[.int .i64 (v : Int)] 3
                  have hsz := H4.out.tl.sz
                  go_wp2_with (at_builtin; refine wpList_append_any _ rfl (.tmp 40) (.tmp 42) 28 rfl _ 3 i0 (.int .i64 0) 1 8 Try.underlying28 hi0 hz0 hz1 hz2 rfl (by decide) _ _ _ rfl hown2 (w4.heap.size + 1) _ 1 1 _ rfl hnew rfl (int_one23 _) ?c1 ?c2 ?c3 ?_)
                  case c1 => unfold maxLen; omega
                  case c2 => omega
                  case c3 => first | omega | (simp; omega)
                  intro v5 W5 ho5 hg5 hb5
                  obtain ⟨A6, c6, rfl, _, _⟩ := ownS_slice ho5
                  have HM6 := Lib.hid (H4.out.push rfl ho5 hg5 hb5)
                  have HL5 : Hid ((Lu ++ [(v : Int)]).length = Lu.length + 1) := by rw [Hid, List.length_append]; rfl
                  clear ho5 hg5 hb5 hown2 hnew
                  go_wp2_with fail
                  go_meet
                  case rel =>
                    rw [HE.out]
                    exact ⟨A6, c6, by rw [HL5.out], by rw [HL5.out]; exact HM6.out⟩
              case rest =>
                obtain ⟨A6, c6, rfl, HW⟩ := hcut
                clear H4 HSU0 HSU1
                have hlu : (regL RU (v + 1)).length ≤ 100000 := Nat.le_trans (regL_len _ _) (by omega)
                obtain ⟨Lv, hLv⟩ : ∃ z, regL RU (v + 1) = z := ⟨_, rfl⟩
                rw [hLv] at HW hlu ⊢
                have HLV := Lib.hid hLv
                clear hLv
                have C9 := Lib.hid (fun W (h : MW w w.heap.size args N (some ⟨b', o, none⟩) bs c b' (o + i * 5) A1 c1 x W0 (.slice A6 Lv.length c6) Lv (.slice A5 Ld.length c5) Ld W) => (HDR.out W h.xc.ins).mono fun e w' ⟨he, hb⟩ => (⟨by rw [he, HDV.out], h.next hb⟩ : e = Ending.returned (.bool rd) ∧ MW w w.heap.size args N (some ⟨b', o, none⟩) bs c b' (o + i * 5) A1 c1 x W0 (.slice A6 Lv.length c6) Lv (.slice A5 Ld.length c5) Ld w'))
                have hG := HW.out
                clear HW
                have hc3 : x.code.length ≤ 9223372036854775807 := by unfold maxLen at hc1; omega
                have hmc : c1 ≤ 9223372036854775807 := by unfold maxLen at hc1; omega
                go_upto_region 12 with fail
                go_region_held3 (fun W => MW w w.heap.size args N (some ⟨b', o, none⟩) bs c b' (o + i * 5) A1 c1 x W0 (.slice A6 Lv.length c6) Lv (.slice A5 Ld.length c5) Ld W ∧ W.cell? ⟨w.heap.size, 2, none⟩ = some (.slice (some ⟨b', o, none⟩) bs.length c) ∧ W.cell? ⟨b', o + i * 5, none⟩ = some (.slice A1 x.code.length c1) ∧ W.cell? ⟨b', o + i * 5 + 1, none⟩ = some (.int .i64 x.term.kind) ∧ W.cell? ⟨b', o + i * 5 + 2, none⟩ = some (.int .i64 x.term.a) ∧ W.cell? ⟨b', o + i * 5 + 3, none⟩ = some (.int .i64 x.term.to) ∧ W.cell? ⟨b', o + i * 5 + 4, none⟩ = some (.int .i64 x.term.el)) (first | exact hG.cells | exact hG.drew.cells | exact (hG.drewN _).cells) (first
                  | (go_at_call 12; go_must ((with_reducible refine (C9.out _ (by first | exact hG | exact hG.drew | exact hG.drewN _)).mono ?_); rintro e W3 ⟨rfl, hG⟩)))
                have HG3 := Lib.hid hG
                clear C9 hG
                cases rd
                · have HE := Lib.hid (HSD0.out rfl)
                  go_wp2_with fail
                  go_roundg g2
                  case measure => omega
                  case rel => exact ⟨v + 1, A6, A5, c6, c5, by omega, by rw [HLV.out], by rw [HE.out], by go_num, by rw [HLV.out, HE.out]; exact HG3.out⟩
                · have HE := Lib.hid (HSD1.out rfl)
                  have hown2 := ((Mods.refl No W3).alloc (.cells #[.int .i64 (v : Int)] 3)).ownS HG3.out.tl.o2 fun _ _ h => h
                  have hnew := sees_new W3 #[.int .i64 (v : Int)] 3
                  have hsz := HG3.out.tl.sz
                  go_wp2_with (at_builtin; refine wpList_append_any _ rfl (.tmp 58) (.tmp 60) 28 rfl _ 3 i0 (.int .i64 0) 1 8 Try.underlying28 hi0 hz0 hz1 hz2 rfl (by decide) _ _ _ rfl hown2 (W3.heap.size + 1) _ 1 1 _ rfl hnew rfl (int_one23 _) ?c4 ?c5 ?c6 ?_)
                  case c4 => unfold maxLen; omega
                  case c5 => omega
                  case c6 => first | omega | (simp; omega)
                  intro v5 W5 ho5 hg5 hb5
                  obtain ⟨A7, c7, rfl, _, _⟩ := ownS_slice ho5
                  have HM6 := Lib.hid (HG3.out.swap.push rfl ho5 hg5 hb5).swap
                  have HL5 : Hid ((Ld ++ [(v : Int)]).length = Ld.length + 1) := by rw [Hid, List.length_append]; rfl
                  clear ho5 hg5 hb5 hown2 hnew
                  go_wp2_with fail
                  go_roundg g2
                  case measure => omega
                  case rel =>
                    exact ⟨v + 1, A6, A7, c6, c7, by omega, by rw [HLV.out], by rw [HE.out, HL5.out], by go_num, by rw [HLV.out, HE.out, HL5.out]; exact HM6.out⟩
    · have hv0 : (v != 0) = true := by simp [hv]
      clear hv
      go_wp2_with fail
      refine C2.out.mono ?_
      rintro e W3 ⟨rfl, hb⟩
      have H3 := Lib.hid (H2.out.next hb)
      clear hb C2 d0 d1 d2
      go_wp2_with fail
      refine (awake23_any _).mono ?_
      rintro e W4 ⟨rfl, hb⟩
      have HB4 := Lib.hid (H3.out.next hb).below
      clear hb H3 H2
      go_wp2_with fail
      go_ret
      exact ⟨rfl, HB4.out⟩

end Go.Proofs.Ytncigbpeempnfaa
