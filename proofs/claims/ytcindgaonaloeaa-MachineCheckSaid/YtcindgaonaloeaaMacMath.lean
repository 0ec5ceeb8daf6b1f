/-
  What layer 8 answers, as functions on data.
-/
import Derived.Test.YtcindgaonaloeaaMac
import Derived.Test.YtcindgaonaloeaaSrcMath
namespace Go.Proofs.Ytcindgaonaloeaa
open Go.RowKit

def mopc (op : Int) : Bool := uO op && !(op == 2)
def Mi.mv (x : Mi) : Bool := x.op == 18
/-- Whether a field of a move is used that must be 0. -/
def Mi.zf (x : Mi) : Bool := x.d != 0 || x.a != 0 || x.b != 0 || x.imm != 0
def Mi.bad (x : Mi) (regs slots : Int) : Bool := !locS x.dst regs slots || !locS x.src regs slots || (decide (x.dst % 2 = 1) && decide (x.src % 2 = 1))
/-- The error of a move; of another instruction; of any. -/
def eMv (x : Mi) (regs slots : Int) : Int := if x.bad regs slots then 10 else if x.zf then 12 else 0
def eOt (x : Mi) (regs : Int) : Int := if (eI x.ins regs == 0 && (x.dst != 0 || x.src != 0)) then 12 else eI x.ins regs
def eM (x : Mi) (regs slots : Int) : Int := if mopc x.op then if x.mv then eMv x regs slots else eOt x regs else 8

/-- The number of moves at the beginning; in the longest run; at the end. -/
def lead : List Mi → Nat
  | [] => 0
  | x :: r => if x.mv then lead r + 1 else 0
def mvs : List Mi → Nat
  | [] => 0
  | x :: r => max (lead (x :: r)) (mvs r)
def ext (run : Nat) (x : Mi) : Nat := if x.mv then run + 1 else 0
def trail (l : List Mi) : Nat := l.foldl ext 0

theorem lead_le : ∀ l : List Mi, lead l ≤ l.length
  | [] => Nat.le_refl _
  | x :: r => by
    have := lead_le r
    rw [lead]
    split <;> simp <;> omega
theorem lead_mvs (l : List Mi) : lead l ≤ mvs l := by
  cases l with
  | nil => exact Nat.le_refl _
  | cons x r => exact Nat.le_max_left _ _
theorem mvs_le : ∀ l : List Mi, mvs l ≤ l.length
  | [] => Nat.le_refl _
  | x :: r => by
    have := mvs_le r
    have := lead_le (x :: r)
    rw [mvs]
    simp only [List.length_cons] at *
    omega
theorem trail_snoc (l : List Mi) (x : Mi) : trail (l ++ [x]) = ext (trail l) x := by simp [trail, List.foldl_append]
theorem trail_step (l : List Mi) (k : Nat) (h : k < l.length) : trail (l.take (k + 1)) = ext (trail (l.take k)) l[k] := by
  rw [List.take_succ_eq_append_getElem h, trail_snoc]
theorem ext_le (n : Nat) (x : Mi) : ext n x ≤ n + 1 := by
  unfold ext
  split <;> omega
theorem trail_le (l : List Mi) : trail l ≤ l.length := by
  have : ∀ (l : List Mi) (n : Nat), l.foldl ext n ≤ n + l.length := by
    intro l
    induction l with
    | nil => intro n; exact Nat.le_refl _
    | cons x r ih =>
      intro n
      have h1 := ih (ext n x)
      have h2 := ext_le n x
      simp only [List.foldl_cons, List.length_cons]
      omega
  have := this l 0
  unfold trail
  omega

/-- The scan of a list from the left, by the run so far and the longest run so far. -/
theorem scan_step (run longest : Nat) (x : Mi) (r : List Mi) (h : run ≤ longest) :
    max longest (max (run + lead (x :: r)) (mvs (x :: r))) = max (max longest (ext run x)) (max (ext run x + lead r) (mvs r)) := by
  have := lead_mvs r
  rw [mvs, lead]
  unfold ext
  split
  · omega
  · omega

/-- The reference's look at the last 65 instructions. -/
theorem lead_all (l : List Mi) : lead l = l.length ↔ ∀ x ∈ l, x.mv = true := by
  induction l with
  | nil => simp [lead]
  | cons x r ih =>
    rw [lead, List.length_cons]
    cases hx : x.mv
    · simp [hx]
    · simp only [if_true]
      constructor
      · intro h y hy
        rcases List.mem_cons.1 hy with rfl | h2
        · exact hx
        · exact ih.1 (by omega) y h2
      · intro h
        rw [ih.2 fun y hy => h y (List.mem_cons_of_mem _ hy)]
theorem mvs_all (l : List Mi) : mvs l = l.length ↔ ∀ x ∈ l, x.mv = true := by
  cases l with
  | nil => simp [mvs]
  | cons x r =>
    rw [← lead_all]
    have h1 := mvs_le r
    have h2 := lead_le (x :: r)
    rw [mvs]
    simp only [List.length_cons] at *
    omega
theorem trail_all : ∀ (l : List Mi) (j : Nat), j ≤ trail l ↔ j ≤ l.length ∧ ∀ x ∈ l.drop (l.length - j), x.mv = true := by
  intro l
  have : ∀ n (l : List Mi), l.length = n → ∀ j, j ≤ trail l ↔ j ≤ l.length ∧ ∀ x ∈ l.drop (l.length - j), x.mv = true := by
    intro n
    induction n with
    | zero =>
      intro l hl j
      rw [List.eq_nil_of_length_eq_zero hl]
      simp [trail]
    | succ n ih =>
      intro l hl j
      have hne : l ≠ [] := by intro e; subst e; simp at hl
      obtain ⟨r, x, rfl⟩ : ∃ r x, l = r ++ [x] := ⟨_, _, (List.dropLast_concat_getLast hne).symm⟩
      have hr : r.length = n := by simpa using hl
      rw [trail_snoc]
      unfold ext
      rcases j with _ | j
      · simp
      · have hd : (r ++ [x]).drop ((r ++ [x]).length - (j + 1)) = r.drop (r.length - j) ++ [x] := by
          rw [List.length_append, List.length_singleton, show r.length + 1 - (j + 1) = r.length - j by omega, List.drop_append_of_le_length (by omega)]
        rw [hd]
        have h := ih r hr j
        cases hx : x.mv
        · constructor
          · intro h0; simp at h0
          · rintro ⟨_, h0⟩
            have := h0 x (by simp)
            rw [hx] at this
            cases this
        · simp only [if_true]
          constructor
          · intro h0
            obtain ⟨h1, h2⟩ := h.1 (by omega)
            refine ⟨by simp; omega, fun y hy => ?_⟩
            rcases List.mem_append.1 hy with h3 | h3
            · exact h2 y h3
            · rw [List.mem_singleton.1 h3]; exact hx
          · rintro ⟨h1, h2⟩
            have := h.2 ⟨by simp at h1; omega, fun y hy => h2 y (List.mem_append_left _ hy)⟩
            omega
  exact this l.length l rfl
/-- Behind k instructions: more than 64 moves run up to here exactly if the last 65 instructions have more than 64 in a row. -/
theorem trail_window (l : List Mi) (k : Nat) (h : k < l.length) : 64 < trail (l.take (k + 1)) ↔ 64 ≤ k ∧ 64 < mvs ((l.take (k + 1)).drop (k - 64)) := by
  have h1 := trail_all (l.take (k + 1)) 65
  have hl : (l.take (k + 1)).length = k + 1 := by rw [List.length_take]; omega
  rw [hl] at h1
  constructor
  · intro h2
    obtain ⟨h3, h4⟩ := h1.1 (by omega)
    refine ⟨by omega, ?_⟩
    rw [show k + 1 - 65 = k - 64 by omega] at h4
    have := (mvs_all _).2 h4
    rw [List.length_drop, hl] at this
    omega
  · rintro ⟨h2, h3⟩
    have h4 := mvs_le ((l.take (k + 1)).drop (k - 64))
    rw [List.length_drop, hl] at h4
    have h5 := (mvs_all ((l.take (k + 1)).drop (k - 64))).1 (by rw [List.length_drop, hl]; omega)
    have := h1.2 ⟨by omega, by rw [show k + 1 - 65 = k - 64 by omega]; exact h5⟩
    omega

/-- The first error of instructions, behind a run of moves; of a block; of blocks. -/
def eCd (regs slots : Int) : Nat → List Mi → Int
  | _, [] => 0
  | run, x :: r => if eM x regs slots = 0 then if 64 < ext run x then 15 else eCd regs slots (ext run x) r else eM x regs slots
def eMB (x : MBlk) (regs slots n : Int) : Int := if eCd regs slots 0 x.code = 0 then eT x.term regs n else eCd regs slots 0 x.code
def eMBs (regs slots n : Int) : List MBlk → Int
  | [] => 0
  | x :: r => if eMB x regs slots n = 0 then eMBs regs slots n r else eMB x regs slots n
def mcodeN (bs : List MBlk) : Nat := (bs.map fun b => b.code.length).sum
/-- The first error of the sizes; of a function. -/
def eMSz (args regs slots : Int) (bs : List MBlk) : Int :=
  if args < 0 ∨ slots < args then 10 else if regs < 0 then 9 else if 1048576 < slots ∨ 1048576 < regs then 6 else if bs.length = 0 then 14 else if 1048576 < bs.length ∨ 1048576 < mcodeN bs then 6 else 0
def eMF (args regs slots : Int) (bs : List MBlk) : Int := if eMSz args regs slots bs = 0 then eMBs regs slots bs.length bs else eMSz args regs slots bs

theorem mcodeN_nil : mcodeN [] = 0 := rfl
theorem mcodeN_cons (b : MBlk) (bs : List MBlk) : mcodeN (b :: bs) = b.code.length + mcodeN bs := by simp [mcodeN]
theorem mcodeN_append (a b : List MBlk) : mcodeN (a ++ b) = mcodeN a + mcodeN b := by rw [mcodeN, List.map_append, List.sum_append]; rfl
theorem mcodeN_step (bs : List MBlk) (k : Nat) (h : k < bs.length) : mcodeN (bs.take (k + 1)) = mcodeN (bs.take k) + bs[k].code.length := by
  rw [List.take_succ_eq_append_getElem h, mcodeN_append, mcodeN_cons, mcodeN_nil, Nat.add_zero]
theorem mcodeN_take (bs : List MBlk) (k : Nat) : mcodeN (bs.take k) ≤ mcodeN bs := by
  have : mcodeN bs = mcodeN (bs.take k) + mcodeN (bs.drop k) := by rw [← mcodeN_append, List.take_append_drop]
  omega
theorem mcodeN_mem (bs : List MBlk) (k : Nat) (h : k < bs.length) : bs[k].code.length ≤ mcodeN bs := by
  have := mcodeN_step bs k h
  have := mcodeN_take bs (k + 1)
  omega

theorem eCd_step (regs slots : Int) (l : List Mi) (run k : Nat) (h : k < l.length) :
    eCd regs slots run (l.drop k) = if eM l[k] regs slots = 0 then if 64 < ext run l[k] then 15 else eCd regs slots (ext run l[k]) (l.drop (k + 1)) else eM l[k] regs slots := by
  rw [List.drop_eq_getElem_cons h]
  rfl
theorem eMBs_step (regs slots n : Int) (l : List MBlk) (k : Nat) (h : k < l.length) : eMBs regs slots n (l.drop k) = if eMB l[k] regs slots n = 0 then eMBs regs slots n (l.drop (k + 1)) else eMB l[k] regs slots n := by
  rw [List.drop_eq_getElem_cons h]
  rfl

/-- Instructions are accepted exactly if each is, and no run of moves is too long. -/
theorem eCd_ok (regs slots : Int) : ∀ (l : List Mi) (run : Nat), run ≤ 64 → (eCd regs slots run l = 0 ↔ (∀ x ∈ l, eM x regs slots = 0) ∧ run + lead l ≤ 64 ∧ mvs l ≤ 64)
  | [], run, h => by simp [eCd, lead, mvs, h]
  | x :: r, run, h => by
    have hm := lead_mvs r
    rw [eCd, mvs, lead]
    by_cases h0 : eM x regs slots = 0
    · rw [if_pos h0]
      by_cases h1 : 64 < ext run x
      · rw [if_pos h1]
        constructor
        · intro h2; cases h2
        · rintro ⟨_, h3, _⟩
          exfalso
          unfold ext at h1
          split at h1
          · rename_i hx; rw [if_pos hx] at h3; omega
          · omega
      · rw [if_neg h1, eCd_ok regs slots r (ext run x) (by omega)]
        unfold ext at h1 ⊢
        simp only [List.mem_cons, forall_eq_or_imp]
        split at h1
        · rename_i hx
          simp only [if_pos hx]
          constructor
          · rintro ⟨a, b, c⟩
            exact ⟨⟨h0, a⟩, by omega, by omega⟩
          · rintro ⟨⟨_, a⟩, b, c⟩
            exact ⟨a, by omega, by omega⟩
        · rename_i hx
          simp only [if_neg hx]
          constructor
          · rintro ⟨a, b, c⟩
            exact ⟨⟨h0, a⟩, by omega, by omega⟩
          · rintro ⟨⟨_, a⟩, b, c⟩
            exact ⟨a, by omega, by omega⟩
    · rw [if_neg h0]
      constructor
      · intro h2; exact absurd h2 h0
      · rintro ⟨h2, _⟩; exact absurd (h2 x (by simp)) h0

theorem eM_range (x : Mi) (regs slots : Int) : 0 ≤ eM x regs slots ∧ eM x regs slots ≤ 16 := by
  have := eI_range x.ins regs
  unfold eM eMv eOt
  repeat' split
  all_goals omega
theorem eCd_range (regs slots : Int) : ∀ (l : List Mi) (run : Nat), 0 ≤ eCd regs slots run l ∧ eCd regs slots run l ≤ 16
  | [], run => by rw [eCd]; decide
  | x :: r, run => by
    have := eM_range x regs slots
    have := eCd_range regs slots r (ext run x)
    rw [eCd]
    repeat' split
    all_goals omega

end Go.Proofs.Ytcindgaonaloeaa
