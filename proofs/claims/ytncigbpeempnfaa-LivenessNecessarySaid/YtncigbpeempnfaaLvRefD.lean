/-
  The reference's In.
-/
import Derived.Test.YtncigbpeempnfaaLvNest
import Derived.Test.YtncigbpeempnfaaOwnNe
namespace Go.Proofs.Ytncigbpeempnfaa
open Go.RowKit
set_option linter.unusedVariables false

def fL23 (F : Nat → List Int) (n : Nat) : List (List Int) := (List.range n).map F

theorem fL_len (F : Nat → List Int) (n : Nat) : (fL23 F n).length = n := by simp [fL23]

theorem fL_get (F : Nat → List Int) {n i : Nat} (h : i < n) : (fL23 F n)[i]? = some (F i) := by simp [fL23, h]

theorem fL_congr {F G : Nat → List Int} {n : Nat} (h : ∀ i, i < n → F i = G i) : fL23 F n = fL23 G n := by
  unfold fL23
  exact List.map_congr_left fun i hi => h i (List.mem_range.1 hi)

theorem fL_set {F G : Nat → List Int} {n i : Nat} {x : List Int} (hi : G i = x) (h : ∀ j, j < n → j ≠ i → G j = F j) : (fL23 F n).set i x = fL23 G n := by
  apply List.ext_getElem?
  intro j
  by_cases hj : j < n
  · rw [fL_get G hj]
    by_cases e : j = i
    · subst e; rw [List.getElem?_set_self (by rw [fL_len]; exact hj), hi]
    · rw [List.getElem?_set_ne (fun h => e h.symm), fL_get F hj, h j hj e]
  · rw [List.getElem?_eq_none (by rw [List.length_set, fL_len]; omega), List.getElem?_eq_none (by rw [fL_len]; omega)]

theorem fL_nil (n : Nat) : List.replicate n ([] : List Int) = fL23 (fun _ => []) n := by
  apply List.ext_getElem?
  intro j
  by_cases hj : j < n
  · rw [fL_get _ hj, List.getElem?_replicate, if_pos hj]
  · rw [List.getElem?_eq_none (by simp; omega), List.getElem?_eq_none (by rw [fL_len]; omega)]

/-- A list of n lists in blocks of one's own, the outer one g. -/
structure NI (W0 : World) (g n : Nat) (xs : List (List Int)) (W : World) : Prop where
  nest : ∃ vs, NestV ishp W g (.slice (some ⟨g, 0, none⟩) n n) vs xs
  blw : Below g W0 W
  lt : g < W.heap.size

section
variable {W0 W W' : World} {g n i : Nat} {xs : List (List Int)}

theorem NI.next (h : NI W0 g n xs W) (hb : Below W.heap.size W W') : NI W0 g n xs W' := by
  obtain ⟨vs, hv⟩ := h.nest
  exact ⟨⟨vs, hv.below hb⟩, h.blw.trans (hb.mono (Nat.le_of_lt h.lt)), Nat.lt_of_lt_of_le h.lt hb.size⟩

/-- An element, ready to be appended to: its slice, its cell; and what a turned slice stored there leaves. -/
theorem NI.elem (h : NI W0 g n xs W) {x : List Int} (hx : xs[i]? = some x) : ∃ u, W.ownsRow g 3 1 u x.length (ints x) ∧ W.cell? ⟨g, i, none⟩ = some u ∧ W.frozen? ⟨g, i, none⟩ = false ∧
    ∀ (W' : World) (u' : Value) (x' : List Int), Mods (fun k => u.ownBlock = some k) W W' → W'.ownsRow g 3 1 u' x'.length (ints x') → (u'.ownBlock = u.ownBlock ∨ ∃ q, u'.ownBlock = some q ∧ W.heap.size ≤ q) →
      W'.cell? ⟨g, i, none⟩ = some u ∧ W'.frozen? ⟨g, i, none⟩ = false ∧ NI W0 g n (xs.set i x') (W'.setCell ⟨g, i, none⟩ u') := by
  obtain ⟨vs, hv⟩ := h.nest
  have hi : i < xs.length := (List.getElem?_eq_some_iff.1 hx).1
  obtain ⟨u, hu, _⟩ := hv.got hi
  have hin := hv.inner i u x hu hx
  have ho := hv.outer
  rw [ii_flat vs xs hv.len] at ho
  have hc := ho.cells (g := g) rfl i u hu
  have hc : W.cell? ⟨g, i, none⟩ = some u := by simpa [Addr.add_lit] using hc
  have hf : W.frozen? ⟨g, i, none⟩ = false := own_frozen ho rfl
  refine ⟨u, hin, hc, hf, fun W' u' x' hm ho' hb => ?_⟩
  have hg : ¬ u.ownBlock = some g := fun e => ownS_ne ho hin ishp.ne g rfl e
  refine ⟨(hm.cell (p := ⟨g, i, none⟩) h.lt hg).trans hc, (hm.frozen (p := ⟨g, i, none⟩) h.lt hg).trans hf, ⟨_, ii_turn hv rfl hu hx hm ho' hb⟩, ?_, ?_⟩
  · have h1 : Below g W0 W' := h.blw.trans (hm.below (Nat.le_of_lt h.lt) fun k hk => (ownS_lt hin k hk).1)
    exact h1.setCell (Nat.le_refl _) _
  · have := hm.size
    have := h.lt
    simp [World.setCell]; omega

end

theorem int_one23 (a : Int) : ∀ u ∈ (#[Value.int .i64 a] : Array Value).toList, u.oneCell' = true := fun u hu => by
  simp only [List.mem_cons, List.not_mem_nil, or_false] at hu
  subst hu
  rfl

theorem inL_step (bs : List Blk) (v i : Nat) : inL bs (v + 1) i = if lvB bs v i then inL bs v i ++ [(v : Int)] else inL bs v i := rfl

set_option maxRecDepth 100000 in
set_option maxHeartbeats 8000000 in
theorem rin23_any (args : Int) (regs : Nat) (FA : Option Addr) (bs : List Blk) (bc : Nat) (w : World) (hs : BlksAt w w.heap.size FA bs) (hm : bs.length ≤ 100000) (hr : regs ≤ 100000) (hcm : ∀ b ∈ bs, b.code.length ≤ 100000000) (ht : ∀ b ∈ bs, ∀ s ∈ succs b.term, 0 ≤ s ∧ s < bs.length) :
    Calls Try.prog 18 #[.agg #[.int .i64 args, .int .i64 regs, .slice FA bs.length bc]] w fun e w' => ∃ g, w.heap.size ≤ g ∧ e = .returned (.slice (some ⟨g, 0, none⟩) bs.length bs.length) ∧ (∃ vs, NestV ishp w' g (.slice (some ⟨g, 0, none⟩) bs.length bs.length) vs (fL23 (inL bs regs) bs.length)) ∧ Below w.heap.size w w' := by
  obtain ⟨i0, hi0, hz0, hz1, hz2⟩ := info_parts infoInt23
  have hmk := fun w => run_make_row' (P := Try.prog) 39 28 (.slice none 0 0) 24 Try.underlying39 infoIl rfl .i64 .i64 bs.length (by omega) (by omega) w
  have HX := Row.new w 24 #[.int .i64 args, .int .i64 regs, .slice FA bs.length bc]
  have hb0 : Below w.heap.size w (w.alloc (.cells #[.int .i64 args, .int .i64 regs, .slice FA bs.length bc] 24)) := (Below.refl _ _).alloc (Nat.le_refl _) _
  have hs0 := (hs.below hb0).more hb0.size
  have HB0 := Lib.hid hb0
  have HLV := Lib.hid (fun v W (h : BlksAt W W.heap.size FA bs) => rlive23_any args regs FA bs bc v W h hm hcm ht)
  clear hs hb0 hcm ht
  go_enter Try.func18, Try.ntmps18
  go_upto_region 1 with fail
  generalize (w.alloc (.cells #[.int .i64 args, .int .i64 regs, .slice FA bs.length bc] 24)) = W0 at *
  obtain ⟨b1, hb1⟩ : ∃ z, w.heap.size = z := ⟨_, rfl⟩
  have h1w : b1 < W0.heap.size := by have := HX.lt; omega
  rw [hb1] at HX
  rw [hb1]
  have HB1 := Lib.hid hb1
  clear hb1
  have y1 := HX.k1; have y2 := HX.k2
  go_upto_region 2 with fail
  have HNI : Hid (NI W0 W0.heap.size bs.length (fL23 (inL bs 0) bs.length) (W0.alloc (.cells (madeCells #[.slice none 0 0] bs.length) 28))) := by
    refine ⟨⟨List.replicate bs.length (.slice none 0 0), ?_⟩, (Below.refl _ _).alloc (Nat.le_refl _) _, by simp⟩
    have := ii_made W0 (n := bs.length) (by unfold maxLen; omega)
    rw [fL_nil] at this
    exact this
  clear hmk y1 y2
  generalize (W0.alloc (.cells (madeCells #[.slice none 0 0] bs.length) 28)) = W1 at *
  obtain ⟨g, hg⟩ : ∃ z, W0.heap.size = z := ⟨_, rfl⟩
  rw [hg] at HNI h1w hs0
  rw [hg]
  clear hg
  have hgm : w.heap.size ≤ g := by have := HB1.out; omega
  go_upto_region 3 with fail
  go_loopg [4] regs (fun q i wr => ∃ v : Nat, v + q = regs ∧ i = .int .i64 v ∧ Hid (NI W0 g bs.length (fL23 (inL bs v) bs.length) wr))
  case atStart => exact ⟨0, by omega, rfl, HNI.out⟩
  case round =>
    clear HNI
    obtain ⟨v, hv, rfl, HP⟩ := hrel
    have hX := HX.below HP.out.blw h1w
    have y0 := hX.k0; have y1 := hX.k1; have y2 := hX.k2
    cases gk with
    | zero =>
      obtain rfl : v = regs := by omega
      clear hX
      go_wp2_with fail
      go_ret
      exact ⟨g, hgm, rfl, HP.out.nest, HB0.out.trans (HP.out.blw.mono hgm)⟩
    | succ g1 =>
      have hlv := HLV.out (v : Int) wr ((hs0.below HP.out.blw).more (Nat.le_of_lt HP.out.lt))
      have HLC := Lib.hid hlv
      clear hX hlv
      go_upto_region 7 with (go_at_call 38; refine (HLC.out).mono ?_; rintro e w2 ⟨g2, hg2, rfl, hrow, hbw⟩; have HP2 := Lib.hid (HP.out.next hbw); have HROW := Lib.hid hrow; clear hbw hrow)
      clear y0 y1 y2 HLC
      have HSW := Lib.hid (show wr.heap.size ≤ g2 from hg2)
      have hgg : g < g2 := Nat.lt_of_lt_of_le HP.out.lt hg2
      clear HP hg2
      have HML : Hid ((mkN bs (v : Int) (bs.length + 1)).length = bs.length) := mkN_len bs v _
      have HMG : Hid (∀ i, (mkN bs (v : Int) (bs.length + 1)).getD i false = lvB bs v i) := fun i => rfl
      generalize mkN bs (v : Int) (bs.length + 1) = ms at *
      obtain ⟨F, hF⟩ : ∃ F : Nat → Nat → List Int, F = fun i j => if j < i then inL bs (v + 1) j else inL bs v j := ⟨_, rfl⟩
      have HF0 : Hid (fL23 (inL bs v) bs.length = fL23 (F 0) bs.length) := by subst hF; exact fL_congr fun i hi => by simp
      have HFn : Hid (fL23 (F bs.length) bs.length = fL23 (inL bs (v + 1)) bs.length) := by subst hF; exact fL_congr fun i hi => by simp [hi]
      have HFs : Hid (∀ i, i < bs.length → lvB bs v i = true → F i i = inL bs v i ∧ (fL23 (F i) bs.length).set i (inL bs v i ++ [(v : Int)]) = fL23 (F (i + 1)) bs.length) := fun i hi hl => by
        subst hF
        refine ⟨by simp, fL_set ?_ fun j hj hne => ?_⟩
        · simp [inL_step, hl]
        · by_cases h : j < i
          · simp [h, show j < i + 1 by omega]
          · simp [h, show ¬ j < i + 1 by omega]
      have HFk : Hid (∀ i, i < bs.length → lvB bs v i = false → fL23 (F (i + 1)) bs.length = fL23 (F i) bs.length) := fun i hi hl => by
        subst hF
        refine fL_congr fun j hj => ?_
        by_cases h : j < i
        · simp [h, show j < i + 1 by omega]
        · by_cases e : j = i
          · subst e; simp [inL_step, hl]
          · simp [h, show ¬ j < i + 1 by omega]
      have HIL : Hid (∀ i, (inL bs v i).length ≤ v) := fun i => regL_len _ _
      clear hF
      rw [HF0.out] at HP2
      clear HF0
      go_loopg [6] bs.length (fun q i wr => ∃ j : Nat, j + q = bs.length ∧ i = .int .i64 j ∧ Hid (NI W0 g bs.length (fL23 (F j) bs.length) wr) ∧ Hid (Row wr g2 4 (bools ms)))
      case atStart => exact ⟨0, by omega, rfl, HP2.out, HROW.out⟩
      case round =>
        clear HP2 HROW
        obtain ⟨j, hj, rfl, HP, HR⟩ := hrel
        cases gk with
        | zero =>
          obtain rfl : j = bs.length := by omega
          go_wp2_with fail
          go_roundg g1
          case measure => omega
          case rel => exact ⟨v + 1, by omega, by go_num, by rw [← HFn.out]; exact HP.out⟩
        | succ g3 =>
          have hlt : j < bs.length := by omega
          have hc := HR.out.cell j
          rw [bools_get ms (by rw [HML.out]; exact hlt), HMG.out j] at hc
          cases hl : lvB bs v j
          · rw [hl] at hc
            have HE := Lib.hid (HFk.out j hlt hl)
            clear hl
            go_wp2_with fail
            go_roundg g3
            case measure => omega
            case rel => exact ⟨j + 1, by omega, by go_num, by rw [HE.out]; exact HP.out, HR.out⟩
          · rw [hl] at hc
            obtain ⟨he, hse⟩ := HFs.out j hlt hl
            have HSE := Lib.hid hse
            obtain ⟨u, hown, hcu, hfu, hth⟩ := HP.out.elem (i := j) (x := inL bs v j) (by rw [fL_get _ hlt, he])
            have HTH := Lib.hid hth
            have hlen := HIL.out j
            clear hl he hse hth
            generalize inL bs v j = x at *
            obtain ⟨Au, cu, rfl, _, _⟩ := ownS_slice hown
            go_upto_region 10 with fail
            have hown2 := ((Mods.refl No wr).alloc (.cells #[.int .i64 (v : Int)] 3)).ownS hown fun _ _ h => h
            have hnew := sees_new wr #[.int .i64 (v : Int)] 3
            have HOW := Lib.hid hown
            clear hown hc
            go_wp2_with (at_builtin; refine wpList_append_any _ rfl (.tmp 35) (.tmp 37) 28 rfl _ 3 i0 (.int .i64 0) 1 8 Try.underlying28 hi0 hz0 hz1 hz2 rfl (by decide) _ _ _ rfl hown2 (wr.heap.size + 1) _ 1 1 _ rfl hnew rfl (int_one23 _) ?c1 ?c2 ?c3 ?_)
            case c1 => unfold maxLen; omega
            case c2 => omega
            case c3 => have := HP.out.lt; simp; omega
            intro v5 W5 ho5 hg5 hb5
            obtain ⟨A5, c5, hv5, _, _⟩ := ownS_slice ho5
            subst hv5
            have hM5 : Mods (fun k => (Value.slice Au x.length cu).ownBlock = some k) wr W5 := ((Mods.refl _ wr).alloc _).grown hg5 fun k hk => .inl hk
            have ho5' : W5.ownsRow g 3 1 (.slice A5 (x.length + 1) c5) (x ++ [(v : Int)]).length (ints (x ++ [(v : Int)])) := by
              rw [List.length_append, List.length_singleton, show ints (x ++ [(v : Int)]) = ints x ++ [.int .i64 (v : Int)] by simp [ints]]
              exact ho5
            obtain ⟨hc5, hf5, hn5⟩ := HTH.out W5 _ (x ++ [(v : Int)]) hM5 ho5' (by
              rcases hb5 with h | h
              · exact .inl h
              · exact .inr ⟨_, h, by simp⟩)
            rw [HSE.out] at hn5
            have HN5 := Lib.hid hn5
            have hr5 : Row W5 g2 4 (bools ms) := HR.out.mods hM5 fun e => own_row_neS HOW.out HR.out (by decide) g2 e rfl
            have HR5 := Lib.hid (hr5.far (q := ⟨g, j, none⟩) (by show g2 ≠ g; omega) (.slice A5 (x.length + 1) c5))
            clear hb5 hg5 ho5 ho5' hM5 hn5 hr5 hown2 hnew HOW HTH HSE hcu hfu HP HR
            go_wp2_with fail
            go_roundg g3
            case measure => omega
            case rel => exact ⟨j + 1, by omega, by go_num, HN5.out, HR5.out⟩

end Go.Proofs.Ytncigbpeempnfaa
