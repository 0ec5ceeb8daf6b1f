/-
  Successors of both, in a block that is new; the reference's Out.
-/
import Derived.Test.YtncigbpeempnfaaLvRefD
namespace Go.Proofs.Ytncigbpeempnfaa
open Go.RowKit
set_option linter.unusedVariables false

/-- A list of integers in a block that is new. -/
def IntsN23 (w : World) (l : List Int) (e : Ending) (w' : World) : Prop := ∃ A c, e = .returned (.slice A l.length c) ∧ l.length ≤ c ∧ c ≤ maxLen ∧ Sees w' w'.heap.size A (ints l) ∧ Below w.heap.size w w' ∧ ∀ b, A = some b → w.heap.size ≤ b.block

set_option maxRecDepth 100000 in
set_option maxHeartbeats 1000000 in
theorem rsucc_new (t : Tm) (w : World) :
    Calls Try.prog 21 #[.agg #[.int .i64 t.kind, .int .i64 t.a, .int .i64 t.to, .int .i64 t.el]] w (IntsN23 w (succs t)) := by
  have HB := Lib.hid ((Below.refl w.heap.size w).alloc (Nat.le_refl _) (.cells #[.int .i64 t.kind, .int .i64 t.a, .int .i64 t.to, .int .i64 t.el] 32))
  by_cases h1 : t.kind = 1
  · have e1 : (t.kind == 1) = true := by simp [h1]
    have HS : Hid (succs t = [t.to]) := by rw [Hid, succs, if_pos h1]
    clear h1
    go_enter Try.func21, Try.ntmps21
    go_wp2
    go_ret
    refine ⟨some ⟨w.heap.size + 1, 0, none⟩, 1, by rw [HS.out]; rfl, by rw [HS.out]; exact Nat.le_refl _, by decide, sees_new1 (by simp) _ _ (by rw [HS.out]; rfl), HB.out.alloc HB.out.size _, fun b hb => by injection hb with hb; subst hb; show w.heap.size ≤ w.heap.size + 1; omega⟩
  · have e1 : (t.kind == 1) = false := by simp [h1]
    by_cases h2 : t.kind = 2
    · have e2 : (t.kind == 2) = true := by simp [h2]
      have HS : Hid (succs t = [t.to, t.el]) := by rw [Hid, succs, if_neg h1, if_pos h2]
      clear h1 h2
      go_enter Try.func21, Try.ntmps21
      go_wp2
      go_ret
      refine ⟨some ⟨w.heap.size + 1, 0, none⟩, 2, by rw [HS.out]; rfl, by rw [HS.out]; exact Nat.le_refl _, by decide, sees_new1 (by simp) _ _ (by rw [HS.out]; rfl), HB.out.alloc HB.out.size _, fun b hb => by injection hb with hb; subst hb; show w.heap.size ≤ w.heap.size + 1; omega⟩
    · have e2 : (t.kind == 2) = false := by simp [h2]
      have HS : Hid (succs t = []) := by rw [Hid, succs, if_neg h1, if_neg h2]
      clear h1 h2
      go_enter Try.func21, Try.ntmps21
      go_wp2
      go_ret
      refine ⟨none, 0, by rw [HS.out]; rfl, by rw [HS.out]; exact Nat.le_refl _, by decide, ?_, HB.out, fun b hb => by cases hb⟩
      rw [HS.out]
      exact Sees.nil

set_option maxRecDepth 100000 in
set_option maxHeartbeats 1000000 in
theorem succ_new (t : Tm) (w : World) :
    Calls Try.prog 49 #[.agg #[.int .i64 t.kind, .int .i64 t.a, .int .i64 t.to, .int .i64 t.el]] w (IntsN23 w (succs t)) := by
  have HB := Lib.hid ((Below.refl w.heap.size w).alloc (Nat.le_refl _) (.cells #[.int .i64 t.kind, .int .i64 t.a, .int .i64 t.to, .int .i64 t.el] 32))
  by_cases h1 : t.kind = 1
  · have e1 : (t.kind == 1) = true := by simp [h1]
    have HS : Hid (succs t = [t.to]) := by rw [Hid, succs, if_pos h1]
    clear h1
    go_enter Try.func49, Try.ntmps49
    go_wp2
    go_ret
    refine ⟨some ⟨w.heap.size + 1, 0, none⟩, 1, by rw [HS.out]; rfl, by rw [HS.out]; exact Nat.le_refl _, by decide, sees_new1 (by simp) _ _ (by rw [HS.out]; rfl), HB.out.alloc HB.out.size _, fun b hb => by injection hb with hb; subst hb; show w.heap.size ≤ w.heap.size + 1; omega⟩
  · have e1 : (t.kind == 1) = false := by simp [h1]
    by_cases h2 : t.kind = 2
    · have e2 : (t.kind == 2) = true := by simp [h2]
      have HS : Hid (succs t = [t.to, t.el]) := by rw [Hid, succs, if_neg h1, if_pos h2]
      clear h1 h2
      go_enter Try.func49, Try.ntmps49
      go_wp2
      go_ret
      refine ⟨some ⟨w.heap.size + 1, 0, none⟩, 2, by rw [HS.out]; rfl, by rw [HS.out]; exact Nat.le_refl _, by decide, sees_new1 (by simp) _ _ (by rw [HS.out]; rfl), HB.out.alloc HB.out.size _, fun b hb => by injection hb with hb; subst hb; show w.heap.size ≤ w.heap.size + 1; omega⟩
    · have e2 : (t.kind == 2) = false := by simp [h2]
      have HS : Hid (succs t = []) := by rw [Hid, succs, if_neg h1, if_neg h2]
      clear h1 h2
      go_enter Try.func49, Try.ntmps49
      go_wp2
      go_ret
      refine ⟨none, 0, by rw [HS.out]; rfl, by rw [HS.out]; exact Nat.le_refl _, by decide, ?_, HB.out, fun b hb => by cases hb⟩
      rw [HS.out]
      exact Sees.nil


theorem outL_step (bs : List Blk) (v i : Nat) : outL bs (v + 1) i = if lvO bs v i then outL bs v i ++ [(v : Int)] else outL bs v i := rfl

theorem inL_has (bs : List Blk) {n v : Nat} (h : v < n) (i : Nat) : decide ((v : Int) ∈ inL bs n i) = lvB bs v i := by
  rw [Bool.eq_iff_iff, decide_eq_true_eq, inL, regL_mem]
  constructor
  · exact fun h => h.2.2
  · exact fun h' => ⟨by omega, by omega, h'⟩

/-- Integers that are seen in a block that is not turned. -/
theorem sees_turn {w w' : World} {M : Nat → Prop} {B B' : Nat} {A : Option Addr} {l : List Value} (h : Sees w B A l) (hB : B ≤ w.heap.size) (hm : Mods M w w') (hA : ∀ b, A = some b → ¬ M b.block) (hB' : B ≤ B') : Sees w' B' A l := (hm.sees h hB hA).more hB'

/-- As NI; and none of the lists lies in a block of Av. -/
structure NA (W0 : World) (g n : Nat) (Av : Nat → Prop) (xs : List (List Int)) (W : World) : Prop where
  nest : ∃ vs, NestV ishp W g (.slice (some ⟨g, 0, none⟩) n n) vs xs ∧ ∀ (k : Nat) (u : Value) (q : Nat), vs[k]? = some u → u.ownBlock = some q → ¬ Av q
  blw : Below g W0 W
  lt : g < W.heap.size
  av : ∀ q, Av q → q < W.heap.size ∧ q ≠ g

section
variable {W0 W W' : World} {g n i : Nat} {xs : List (List Int)} {Av : Nat → Prop}

theorem NA.ni (h : NA W0 g n Av xs W) : NI W0 g n xs W := ⟨h.nest.imp fun _ h => h.1, h.blw, h.lt⟩

theorem NI.na (h : NI W0 g n xs W) (hb : Below W.heap.size W W') (hA : ∀ q, Av q → W.heap.size ≤ q ∧ q < W'.heap.size) : NA W0 g n Av xs W' := by
  have h2 := h.next hb
  obtain ⟨vs, hv⟩ := h.nest
  refine ⟨⟨vs, hv.below hb, fun k u q hu hq ha => ?_⟩, h2.blw, h2.lt, fun q hq => ⟨(hA q hq).2, by have := (hA q hq).1; have := h.lt; omega⟩⟩
  obtain ⟨x, _, hx⟩ := hv.get hu
  have := ownS_lt hx q hq
  have := (hA q ha).1
  omega

theorem NA.elem (h : NA W0 g n Av xs W) {x : List Int} (hx : xs[i]? = some x) : ∃ u, W.ownsRow g 3 1 u x.length (ints x) ∧ W.cell? ⟨g, i, none⟩ = some u ∧ W.frozen? ⟨g, i, none⟩ = false ∧ (∀ q, u.ownBlock = some q → ¬ Av q) ∧
    ∀ (W' : World) (u' : Value) (x' : List Int), Mods (fun k => u.ownBlock = some k) W W' → W'.ownsRow g 3 1 u' x'.length (ints x') → (u'.ownBlock = u.ownBlock ∨ ∃ q, u'.ownBlock = some q ∧ W.heap.size ≤ q) →
      W'.cell? ⟨g, i, none⟩ = some u ∧ W'.frozen? ⟨g, i, none⟩ = false ∧ NA W0 g n Av (xs.set i x') (W'.setCell ⟨g, i, none⟩ u') := by
  obtain ⟨vs, hv, hva⟩ := h.nest
  have hi : i < xs.length := (List.getElem?_eq_some_iff.1 hx).1
  obtain ⟨u, hu, _⟩ := hv.got hi
  have hin := hv.inner i u x hu hx
  have ho := hv.outer
  rw [ii_flat vs xs hv.len] at ho
  have hc := ho.cells (g := g) rfl i u hu
  have hc : W.cell? ⟨g, i, none⟩ = some u := by simpa [Addr.add_lit] using hc
  have hf : W.frozen? ⟨g, i, none⟩ = false := own_frozen ho rfl
  refine ⟨u, hin, hc, hf, fun q hq => hva i u q hu hq, fun W' u' x' hm ho' hb => ?_⟩
  have hg : ¬ u.ownBlock = some g := fun e => ownS_ne ho hin ishp.ne g rfl e
  refine ⟨(hm.cell (p := ⟨g, i, none⟩) h.lt hg).trans hc, (hm.frozen (p := ⟨g, i, none⟩) h.lt hg).trans hf, ⟨_, ii_turn hv rfl hu hx hm ho' hb, fun k a q hk hq ha => ?_⟩, ?_, ?_, fun q hq => ⟨?_, (h.av q hq).2⟩⟩
  · by_cases hki : k = i
    · subst hki
      rw [List.getElem?_set_self (by rw [hv.len]; exact hi)] at hk
      injection hk with hk
      subst hk
      rcases hb with hb | ⟨p, hb, hp⟩
      · exact hva k u q hu (by rw [← hb]; exact hq) ha
      · rw [hq] at hb
        injection hb with hb
        have := (h.av q ha).1
        omega
    · rw [List.getElem?_set_ne (fun e => hki e.symm)] at hk
      exact hva k a q hk hq ha
  · have h1 : Below g W0 W' := h.blw.trans (hm.below (Nat.le_of_lt h.lt) fun k hk => (ownS_lt hin k hk).1)
    exact h1.setCell (Nat.le_refl _) _
  · have := hm.size
    have := h.lt
    simp [World.setCell]; omega
  · have := hm.size
    have := (h.av q hq).1
    simp [World.setCell]; omega

theorem NA.next (h : NA W0 g n Av xs W) (hb : Below W.heap.size W W') : NA W0 g n Av xs W' := by
  obtain ⟨vs, hv, ha⟩ := h.nest
  exact ⟨⟨vs, hv.below hb, ha⟩, h.blw.trans (hb.mono (Nat.le_of_lt h.lt)), Nat.lt_of_lt_of_le h.lt hb.size, fun q hq => ⟨Nat.lt_of_lt_of_le (h.av q hq).1 hb.size, (h.av q hq).2⟩⟩

end

set_option maxRecDepth 100000 in
set_option maxHeartbeats 8000000 in
theorem rout23_any (args : Int) (regs : Nat) (FA : Option Addr) (bs : List Blk) (bc : Nat) (w : World) (hs : BlksAt w w.heap.size FA bs) (hm : bs.length ≤ 100000) (hr : regs ≤ 100000) (hcm : ∀ b ∈ bs, b.code.length ≤ 100000000) (ht : ∀ b ∈ bs, ∀ s ∈ succs b.term, 0 ≤ s ∧ s < bs.length) :
    Calls Try.prog 20 #[.agg #[.int .i64 args, .int .i64 regs, .slice FA bs.length bc]] w fun e w' => ∃ g, w.heap.size ≤ g ∧ e = .returned (.slice (some ⟨g, 0, none⟩) bs.length bs.length) ∧ (∃ vs, NestV ishp w' g (.slice (some ⟨g, 0, none⟩) bs.length bs.length) vs (fL23 (outL bs regs) bs.length)) ∧ Below w.heap.size w w' := by
  obtain ⟨i0, hi0, hz0, hz1, hz2⟩ := info_parts infoInt23
  have hmk := fun w => run_make_row' (P := Try.prog) 39 28 (.slice none 0 0) 24 Try.underlying39 infoIl rfl .i64 .i64 bs.length (by omega) (by omega) w
  have HX := Row.new w 24 #[.int .i64 args, .int .i64 regs, .slice FA bs.length bc]
  have hb0 : Below w.heap.size w (w.alloc (.cells #[.int .i64 args, .int .i64 regs, .slice FA bs.length bc] 24)) := (Below.refl _ _).alloc (Nat.le_refl _) _
  have hs0 := (hs.below hb0).more hb0.size
  have HB0 := Lib.hid hb0
  have HIN := Lib.hid (fun W (h : BlksAt W W.heap.size FA bs) => rin23_any args regs FA bs bc W h hm hr hcm ht)
  have HTS := Lib.hid ht
  clear hs hb0 hcm ht
  go_enter Try.func20, Try.ntmps20
  go_upto_region 1 with fail
  generalize (w.alloc (.cells #[.int .i64 args, .int .i64 regs, .slice FA bs.length bc] 24)) = W0 at *
  obtain ⟨b1, hb1⟩ : ∃ z, w.heap.size = z := ⟨_, rfl⟩
  have h1w : b1 < W0.heap.size := by have := HX.lt; omega
  rw [hb1] at HX
  rw [hb1]
  have HB1 := Lib.hid hb1
  clear hb1
  have y0 := HX.k0; have y1 := HX.k1; have y2 := HX.k2
  have hci := HIN.out W0 hs0
  have HCI := Lib.hid hci
  clear hci HIN
  go_upto_region 2 with (go_at_call 18; refine (HCI.out).mono ?_; rintro e V1 ⟨gi, hgi, rfl, hnest, hbw⟩; have HN1 := Lib.hid hnest; have HBW := Lib.hid hbw; clear hbw hnest)
  have hX1 := HX.below HBW.out h1w
  have hs1 := (hs0.below HBW.out).more HBW.out.size
  have h1v : b1 < V1.heap.size := Nat.lt_of_lt_of_le h1w HBW.out.size
  have hsi : SeesII V1 V1.heap.size (some ⟨gi, 0, none⟩) (fL23 (inL bs regs) bs.length) := by
    obtain ⟨vs, hv⟩ := HN1.out
    obtain ⟨A, c, e, _, _, h⟩ := nest_ii hv
    injection e with e
    rw [← e] at h
    exact h
  have HB2 := Lib.hid (HB0.out.trans (HBW.out.mono (by have := HB0.out.size; omega)))
  clear HCI HN1 y0 y1 y2 HX hs0 HBW HB0
  have y0 := hX1.k0; have y1 := hX1.k1; have y2 := hX1.k2
  go_upto_region 3 with fail
  have HNI : Hid (NI V1 V1.heap.size bs.length (fL23 (fun _ => []) bs.length) (V1.alloc (.cells (madeCells #[.slice none 0 0] bs.length) 28))) := by
    refine ⟨⟨List.replicate bs.length (.slice none 0 0), ?_⟩, (Below.refl _ _).alloc (Nat.le_refl _) _, by simp⟩
    have := ii_made V1 (n := bs.length) (by unfold maxLen; omega)
    rw [fL_nil] at this
    exact this
  clear hmk y0 y1 y2
  generalize (V1.alloc (.cells (madeCells #[.slice none 0 0] bs.length) 28)) = W1 at *
  obtain ⟨g, hg⟩ : ∃ z, V1.heap.size = z := ⟨_, rfl⟩
  rw [hg] at HNI h1v hs1 hsi
  rw [hg]
  have hgm : w.heap.size ≤ g := by have := HB2.out.size; omega
  clear hg hgi h1w
  obtain ⟨G, hG⟩ : ∃ G : Nat → Nat → List Int, G = fun i j => if j < i then outL bs regs j else [] := ⟨_, rfl⟩
  have HG0 : Hid (fL23 (fun _ => []) bs.length = fL23 (G 0) bs.length) := by subst hG; exact fL_congr fun i hi => by simp
  have HGn : Hid (fL23 (G bs.length) bs.length = fL23 (outL bs regs) bs.length) := by subst hG; exact fL_congr fun i hi => by simp [hi]
  obtain ⟨K, hK⟩ : ∃ K : Nat → Nat → Nat → List Int, K = fun i v j => if j < i then outL bs regs j else if j = i then outL bs v i else [] := ⟨_, rfl⟩
  have HK0 : Hid (∀ i, fL23 (G i) bs.length = fL23 (K i 0) bs.length) := fun i => by
    subst hG hK
    refine fL_congr fun j hj => ?_
    by_cases h : j < i
    · simp [h]
    · by_cases e : j = i
      · subst e; simp [outL, regL]
      · simp [h, e]
  have HKn : Hid (∀ i, fL23 (K i regs) bs.length = fL23 (G (i + 1)) bs.length) := fun i => by
    subst hG hK
    refine fL_congr fun j hj => ?_
    by_cases h : j < i
    · simp [h, show j < i + 1 by omega]
    · by_cases e : j = i
      · subst e; simp
      · simp [h, e, show ¬ j < i + 1 by omega]
  have HKs : Hid (∀ (i v : Nat), i < bs.length → lvO bs v i = true → K i v i = outL bs v i ∧ (fL23 (K i v) bs.length).set i (outL bs v i ++ [(v : Int)]) = fL23 (K i (v + 1)) bs.length) := fun i v hi hl => by
    subst hK
    refine ⟨by simp, fL_set ?_ fun j hj hne => ?_⟩
    · simp [outL_step, hl]
    · by_cases h : j < i
      · simp [h]
      · simp [h, hne]
  have HKk : Hid (∀ (i v : Nat), lvO bs v i = false → fL23 (K i (v + 1)) bs.length = fL23 (K i v) bs.length) := fun i v hl => by
    subst hK
    refine fL_congr fun j hj => ?_
    by_cases h : j < i
    · simp [h]
    · by_cases e : j = i
      · subst e; simp [outL_step, hl]
      · simp [h, e]
  clear hG hK
  rw [HG0.out] at HNI
  clear HG0
  go_upto_region 4 with fail
  go_loopg [5] bs.length (fun q i wr => ∃ j : Nat, j + q = bs.length ∧ i = .int .i64 j ∧ Hid (NI V1 g bs.length (fL23 (G j) bs.length) wr))
  case atStart => exact ⟨0, by omega, rfl, HNI.out⟩
  case round =>
    clear HNI
    obtain ⟨j, hj, rfl, HP⟩ := hrel
    have hX := hX1.below HP.out.blw h1v
    have y0 := hX.k0; have y1 := hX.k1; have y2 := hX.k2
    cases gk with
    | zero =>
      obtain rfl : j = bs.length := by omega
      clear hX
      go_wp2_with fail
      go_ret
      exact ⟨g, hgm, rfl, by rw [← HGn.out]; exact HP.out.nest, HB2.out.trans (HP.out.blw.mono hgm)⟩
    | succ g1 =>
      have hlt : j < bs.length := by omega
      obtain ⟨b', o, hA, hb, hx⟩ := (hs1.below HP.out.blw).at_ hlt
      have HLO : Hid (∀ v : Nat, lvO bs v j = (succs bs[j].term).any fun s => lvB bs v s.toNat) := fun v => by rw [lvO, blkAt_lt hlt]
      have HTJ := Lib.hid (HTS.out bs[j] (List.getElem_mem hlt))
      generalize bs[j] = x at *
      have f1 := hx.t0; have f2 := hx.t1; have f3 := hx.t2; have f4 := hx.t3
      have hrs := Lib.hid (rsucc_new x.term wr)
      clear hx hX
      subst hA
      go_upto_region 7 with (go_at_call 21; refine (hrs.out).mono ?_; rintro e w3 ⟨As, cs, rfl, hcs1, hcs2, hsee, hbd, hnew⟩; have HSE := Lib.hid hsee; have HBD := Lib.hid hbd; have HNW := Lib.hid hnew; clear hsee hbd hnew)
      have HA : Hid (NA V1 g bs.length (fun q => ∃ b, As = some b ∧ b.block = q ∧ ¬ succs x.term = []) (fL23 (K j 0) bs.length) w3) := by
        rw [← HK0.out j]
        refine HP.out.na HBD.out ?_
        rintro q ⟨b, e, rfl, hne⟩
        refine ⟨HNW.out b e, ?_⟩
        obtain ⟨p, o', e', hp, _⟩ := HSE.out (by intro e; exact hne (by simpa [ints] using e))
        rw [e] at e'
        injection e' with e'
        rw [e']; exact hp
      clear HP HBD HNW hrs f1 f2 f3 f4 y0 y1 y2
      generalize succs x.term = l at *
      have hll : l.length ≤ 9223372036854775807 := by unfold maxLen at hcs2; omega
      obtain ⟨Av, hAv⟩ : ∃ Av : Nat → Prop, Av = fun q => ∃ b, As = some b ∧ b.block = q ∧ ¬ l = [] := ⟨_, rfl⟩
      have HAV := Lib.hid hAv
      rw [← hAv] at HA
      clear hAv
      go_upto_region 8 with fail
      go_loopg [7] regs (fun q i wr => ∃ v : Nat, v + q = regs ∧ i = .int .i64 v ∧ Hid (NA V1 g bs.length Av (fL23 (K j v) bs.length) wr) ∧ Hid (Sees wr wr.heap.size As (ints l)))
      case atStart => exact ⟨0, by omega, rfl, HA.out, HSE.out⟩
      case round =>
        clear HA HSE
        obtain ⟨v, hv, rfl, HP, HS⟩ := hrel
        have hX := hX1.below HP.out.blw h1v
        have y0 := hX.k0; have y1 := hX.k1; have y2 := hX.k2
        clear hX
        cases gk with
        | zero =>
          obtain rfl : v = regs := by omega
          go_wp2_with fail
          go_roundg g1
          case measure => omega
          case rel => exact ⟨j + 1, by omega, by go_num, by rw [← HKn.out]; exact HP.out.ni⟩
        | succ g2 =>
          have hsir := hsi.below HP.out.blw
          go_upto_region 12 with fail
          rw [show decide (v < regs) = true from decide_eq_true (by omega)]
          have HHAS := Lib.hid (fun (B : Nat) (A : Option Addr) (z : List Int) (c : Nat) (W : World) => rhas23_any B A z c (v : Int) W)
          have HVR : Hid (∀ i, decide ((v : Int) ∈ inL bs regs i) = lvB bs v i) := fun i => inL_has bs (by omega) i
          have HLV := Lib.hid (HLO.out v)
          obtain ⟨D, hD⟩ : ∃ D : Nat → Bool, D = fun k => (l.take k).any fun s => lvB bs v s.toNat := ⟨_, rfl⟩
          have HDn : Hid (D l.length = lvO bs v j) := by subst hD; show (l.take l.length).any _ = _; rw [HLV.out, List.take_of_length_le (Nat.le_refl _)]
          have HD0 : Hid (D 0 = false) := by subst hD; rfl
          have HDs : Hid (∀ (k : Nat) (s : Int), l[k]? = some s → D (k + 1) = (D k || lvB bs v s.toNat)) := fun k s hk => by
            subst hD
            have hkl : k < l.length := (List.getElem?_eq_some_iff.1 hk).1
            have e : l[k] = s := (List.getElem?_eq_some_iff.1 hk).2
            simp only [List.take_succ_eq_append_getElem hkl, List.any_append, List.any_cons, List.any_nil, Bool.or_false, e]
          clear hD
          go_loopg [8, 9] l.length (fun q is i wx => ∃ k : Nat, k + q = l.length ∧ i = .int .i64 k ∧ is = .bool (D k) ∧ wx = wr)
          case atStart => exact ⟨0, by omega, rfl, by rw [HD0.out], rfl⟩
          case round =>
            obtain ⟨k, hk, rfl, rfl, rfl⟩ := hrel
            cases gk with
            | zero =>
              obtain rfl : k = l.length := by omega
              rw [HDn.out]
              cases hl : lvO bs v j
              · have HE := Lib.hid (HKk.out j v hl)
                clear hl
                go_wp2_with fail
                go_roundg g2
                case measure => omega
                case rel => exact ⟨v + 1, by omega, by go_num, by rw [HE.out]; exact HP.out, HS.out⟩
              · obtain ⟨he, hse⟩ := HKs.out j v hlt hl
                have HSE := Lib.hid hse
                obtain ⟨u, hown, hcu, hfu, hav, hth⟩ := HP.out.elem (i := j) (x := outL bs v j) (by rw [fL_get _ hlt, he])
                have HTH := Lib.hid hth
                have hlen : (outL bs v j).length ≤ v := regL_len _ _
                clear hl he hse hth
                generalize outL bs v j = y at *
                obtain ⟨Au, cu, rfl, _, _⟩ := ownS_slice hown
                go_upto_region 16 with fail
                have hown2 := ((Mods.refl No wr).alloc (.cells #[.int .i64 (v : Int)] 3)).ownS hown fun _ _ h => h
                have hnew := sees_new wr #[.int .i64 (v : Int)] 3
                clear hown
                go_wp2_with (at_builtin; refine wpList_append_any _ rfl (.tmp 60) (.tmp 62) 28 rfl _ 3 i0 (.int .i64 0) 1 8 Try.underlying28 hi0 hz0 hz1 hz2 rfl (by decide) _ _ _ rfl hown2 (wr.heap.size + 1) _ 1 1 _ rfl hnew rfl (int_one23 _) ?c1 ?c2 ?c3 ?_)
                case c1 => unfold maxLen; omega
                case c2 => omega
                case c3 => have := HP.out.lt; simp; omega
                intro v5 W5 ho5 hg5 hb5
                obtain ⟨A5, c5, hv5, _, _⟩ := ownS_slice ho5
                subst hv5
                have hM5 : Mods (fun k => (Value.slice Au y.length cu).ownBlock = some k) wr W5 := ((Mods.refl _ wr).alloc _).grown hg5 fun k hk => .inl hk
                have ho5' : W5.ownsRow g 3 1 (.slice A5 (y.length + 1) c5) (y ++ [(v : Int)]).length (ints (y ++ [(v : Int)])) := by
                  rw [List.length_append, List.length_singleton, show ints (y ++ [(v : Int)]) = ints y ++ [.int .i64 (v : Int)] by simp [ints]]
                  exact ho5
                obtain ⟨hc5, hf5, hn5⟩ := HTH.out W5 _ (y ++ [(v : Int)]) hM5 ho5' (by
                  rcases hb5 with h | h
                  · exact .inl h
                  · exact .inr ⟨_, h, by simp⟩)
                rw [HSE.out] at hn5
                have HN5 := Lib.hid hn5
                have HS5 : Hid (Sees (W5.setCell ⟨g, j, none⟩ (.slice A5 (y.length + 1) c5)) (W5.setCell ⟨g, j, none⟩ (.slice A5 (y.length + 1) c5)).heap.size As (ints l)) := fun hne => by
                  obtain ⟨p, o', e, hp, hc⟩ := HS.out hne
                  have ha : Av p := by rw [HAV.out]; exact ⟨_, e, rfl, fun e => hne (by rw [e]; rfl)⟩
                  have h1 := hav p
                  have h2 := (HP.out.av p ha).2
                  refine ⟨p, o', e, by have := hM5.size; simp [World.setCell]; omega, fun i z hz => ?_⟩
                  rw [World.cell?_of_block (w := W5) (Below.heap_setCell W5 ⟨g, j, none⟩ _ p h2)]
                  rw [hM5.cell (p := ⟨p, o' + i, none⟩) hp fun e => h1 e ha]
                  exact hc i z hz
                clear hb5 hg5 ho5 ho5' hM5 hn5 hown2 hnew HTH HSE hcu hfu HP HS hav
                go_wp2_with fail
                go_roundg g2
                case measure => omega
                case rel => exact ⟨v + 1, by omega, by go_num, HN5.out, HS5.out⟩
            | succ g3 =>
              have hkl : k < l.length := by omega
              obtain ⟨bq, oq, hA, _, hcell⟩ := ints_at HS.out hkl
              have hsk := HDs.out k l[k] (List.getElem?_eq_getElem hkl)
              have hts := HTJ.out l[k] (List.getElem_mem hkl)
              generalize l[k] = s at *
              obtain ⟨sn, rfl⟩ := Int.eq_ofNat_of_zero_le hts.1
              have hsn : sn < bs.length := by omega
              clear hts
              rw [Int.toNat_natCast] at hsk
              obtain ⟨b2, o2, A2, c2, e2, _, hc2, hm2, hse2⟩ := hsir.at_ (i := sn) (by rw [fL_len]; exact hsn)
              injection e2 with e2
              injection e2 with e2 e3
              subst e2 e3
              have hget : (fL23 (inL bs regs) bs.length)[sn]'(by rw [fL_len]; exact hsn) = inL bs regs sn := by
                have := fL_get (inL bs regs) hsn
                rw [List.getElem?_eq_getElem (by rw [fL_len]; exact hsn)] at this
                injection this
              rw [hget] at hc2 hm2 hse2
              rw [Nat.zero_add] at hc2
              have hH := HHAS.out g A2 (inL bs regs sn) c2 wr hse2 hm2
              rw [HVR.out] at hH
              have HH := Lib.hid hH
              clear hH hget
              generalize inL bs regs sn = z at *
              subst hA
              cases hd : D k
              · rw [hd, Bool.false_or] at hsk
                have HSK := Lib.hid hsk
                clear hsk hd
                go_wp2_with (go_at_call 22; refine (HH.out).mono ?_; rintro e w4 ⟨rfl, rfl⟩)
                go_roundg g3
                case measure => omega
                case rel => exact ⟨k + 1, by omega, by go_num, by rw [HSK.out], rfl⟩
              · rw [hd, Bool.true_or] at hsk
                have HSK := Lib.hid hsk
                clear hsk hd
                go_wp2_with fail
                go_roundg g3
                case measure => omega
                case rel => exact ⟨k + 1, by omega, by go_num, by rw [HSK.out], rfl⟩

end Go.Proofs.Ytncigbpeempnfaa
