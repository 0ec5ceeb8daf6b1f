/-
  The graph as data: the blocks before each block, and that what is closed and used is just what is live.
-/
import Derived.Test.YtncigbpeempnfaaLvSprD
namespace Go.Proofs.Ytncigbpeempnfaa
open Go.RowKit
set_option linter.unusedVariables false

/-- The blocks before each block, after k blocks and m targets of the next one. -/
structure BI (bs : List Blk) (k m : Nat) (B : Nat → List Int) : Prop where
  inn : ∀ j, ∀ p ∈ B j, 0 ≤ p ∧ p < bs.length ∧ (j : Int) ∈ succs (blkAt bs p.toNat).term
  all : ∀ i, i < k → ∀ j : Nat, (j : Int) ∈ succs (blkAt bs i).term → (i : Int) ∈ B j
  cur : ∀ j : Nat, (j : Int) ∈ (succs (blkAt bs k).term).take m → (k : Int) ∈ B j
  len : ∀ j, (B j).length ≤ 2 * k + m

theorem succs_len23 (t : Tm) : (succs t).length ≤ 2 := by
  unfold succs
  split
  · simp
  · split
    · simp
    · simp

section
variable {bs : List Blk} {k m : Nat} {B B' : Nat → List Int}

theorem BI.start (bs : List Blk) : BI bs 0 0 fun _ => [] :=
  ⟨fun j p hp => by simp at hp, fun i hi => by omega, fun j hj => by simp at hj, fun j => by simp⟩

theorem BI.step (h : BI bs k m B) (hk : k < bs.length) {s : Int} (hs : (succs (blkAt bs k).term)[m]? = some s) (h0 : 0 ≤ s) (hB : B' s.toNat = B s.toNat ++ [(k : Int)]) (hB' : ∀ i, i ≠ s.toNat → B' i = B i) : BI bs k (m + 1) B' := by
  have hmem : s ∈ succs (blkAt bs k).term := List.mem_of_getElem? hs
  have hsub : ∀ j, ∀ p ∈ B j, p ∈ B' j := fun j p hp => by
    by_cases e : j = s.toNat
    · subst e; rw [hB]; exact List.mem_append_left _ hp
    · rw [hB' j e]; exact hp
  refine ⟨fun j p hp => ?_, fun i hi j hj => hsub j _ (h.all i hi j hj), fun j hj => ?_, fun j => ?_⟩
  · by_cases e : j = s.toNat
    · subst e
      rw [hB, List.mem_append, List.mem_singleton] at hp
      rcases hp with hp | rfl
      · exact h.inn _ p hp
      · refine ⟨by omega, by omega, ?_⟩
        rw [Int.toNat_natCast, Int.toNat_of_nonneg h0]; exact hmem
    · rw [hB' j e] at hp; exact h.inn j p hp
  · have hm : m < (succs (blkAt bs k).term).length := (List.getElem?_eq_some_iff.1 hs).1
    rw [List.take_succ_eq_append_getElem hm, List.mem_append, List.mem_singleton] at hj
    rcases hj with hj | hj
    · exact hsub j _ (h.cur j hj)
    · have e : (succs (blkAt bs k).term)[m] = s := (List.getElem?_eq_some_iff.1 hs).2
      rw [e] at hj
      have : j = s.toNat := by omega
      subst this
      rw [hB]; simp
  · have := h.len j
    by_cases e : j = s.toNat
    · subst e; rw [hB, List.length_append, List.length_singleton]; omega
    · rw [hB' j e]; omega

theorem BI.turn (h : BI bs k m B) (hm : (succs (blkAt bs k).term).length ≤ m) (hm2 : m ≤ 2) : BI bs (k + 1) 0 B := by
  refine ⟨h.inn, fun i hi j hj => ?_, fun j hj => by simp at hj, fun j => by have := h.len j; omega⟩
  by_cases e : i = k
  · subst e; exact h.cur j (by rw [List.take_of_length_le hm]; exact hj)
  · exact h.all i (by omega) j hj

end

/-- What is known to be live, after the uses of k blocks and m of the next one. -/
structure LI (bs : List Blk) (N : Nat) (B : Nat → List Int) (k m : Nat) (L : Nat → Int → Bool) : Prop where
  snd : ∀ j, j < bs.length → ∀ z, L j z = true → Lv bs z j
  cls : ∀ z, ClosedV bs.length (fun i => bDef (blkAt bs i)) B L z
  all : ∀ i, i < k → ∀ z, z ∈ useL (blkAt bs i) N → L i z = true
  cur : ∀ z, z ∈ (useL (blkAt bs k) N).take m → L k z = true

section
variable {bs : List Blk} {N k m : Nat} {B : Nat → List Int} {L L' : Nat → Int → Bool}

theorem LI.start (bs : List Blk) (N : Nat) (B : Nat → List Int) : LI bs N B 0 0 fun _ _ => false :=
  ⟨fun j hj z h => (by cases h), fun z j hj h => (by cases h), fun i hi => by omega, fun z hz => by simp at hz⟩

theorem LI.step (h : LI bs N B k m L) {v : Int} (hv : (useL (blkAt bs k) N)[m]? = some v) (h1 : ∀ j z, z ≠ v → L' j z = L j z) (h2 : ∀ j z, L j z = true → L' j z = true) (h3 : L' k v = true) (h4 : ∀ j, j < bs.length → L' j v = true → Lv bs v j) (h5 : ClosedV bs.length (fun i => bDef (blkAt bs i)) B L' v) : LI bs N B k (m + 1) L' := by
  refine ⟨fun j hj z hz => ?_, fun z => ?_, fun i hi z hz => h2 i z (h.all i hi z hz), fun z hz => ?_⟩
  · by_cases e : z = v
    · subst e; exact h4 j hj hz
    · rw [h1 j z e] at hz; exact h.snd j hj z hz
  · by_cases e : z = v
    · subst e; exact h5
    · intro j hj hl p hp
      rw [h1 j z e] at hl
      rcases h.cls z j hj hl p hp with h6 | h6
      · exact .inl h6
      · exact .inr (by rw [h1 _ z e]; exact h6)
  · have hm : m < (useL (blkAt bs k) N).length := (List.getElem?_eq_some_iff.1 hv).1
    rw [List.take_succ_eq_append_getElem hm, List.mem_append, List.mem_singleton] at hz
    rcases hz with hz | hz
    · exact h2 k z (h.cur z hz)
    · rw [(List.getElem?_eq_some_iff.1 hv).2] at hz; rw [hz]; exact h3

theorem LI.turn (h : LI bs N B k m L) (hm : (useL (blkAt bs k) N).length ≤ m) : LI bs N B (k + 1) 0 L := by
  refine ⟨h.snd, h.cls, fun i hi z hz => ?_, fun z hz => by simp at hz⟩
  by_cases e : i = k
  · subst e; exact h.cur z (by rw [List.take_of_length_le hm]; exact hz)
  · exact h.all i (by omega) z hz

/-- In the end, it is what is live. -/
theorem LI.fin (h : LI bs N B bs.length m L) (hB : BI bs bs.length 0 B) (hU : ∀ i, i < bs.length → ∀ z, bUse (blkAt bs i) z = true → 0 ≤ z ∧ z < N) (ht : ∀ i, i < bs.length → ∀ s ∈ succs (blkAt bs i).term, 0 ≤ s ∧ s < bs.length) : ∀ j, j < bs.length → L j = fun z => lvB bs z j := by
  intro j hj
  funext z
  rw [Bool.eq_iff_iff, lvB_iff]
  refine ⟨h.snd j hj z, fun hl => ?_⟩
  induction hl with
  | use hi hu =>
    have := hU _ hi z hu
    exact h.all _ hi z ((regL_mem _ _ _).2 ⟨this.1, this.2, hu⟩)
  | @edge i s hi hs hl hd ih =>
    obtain ⟨hs0, hs1⟩ := ht i hi s hs
    have hsn : s.toNat < bs.length := by omega
    have hmem := hB.all i hi s.toNat (by rw [Int.toNat_of_nonneg hs0]; exact hs)
    rcases h.cls z s.toNat hsn (ih hsn) _ hmem with h6 | h6
    · rw [Int.toNat_natCast] at h6; have h6 : bDef (blkAt bs i) z = true := h6; rw [h6] at hd; cases hd
    · rwa [Int.toNat_natCast] at h6

end

end Go.Proofs.Ytncigbpeempnfaa
