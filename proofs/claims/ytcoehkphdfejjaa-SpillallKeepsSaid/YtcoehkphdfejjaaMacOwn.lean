/-
  A list of machine instructions that a call owns; runs of moves in it.
-/
import Derived.Test.YtcoehkphdfejjaaPk1
namespace Go.Proofs.Ytcoehkphdfejjaa
open Go.RowKit
set_option linter.unusedVariables false

def flatM (xs : List Mi) : List Value := xs.flatMap Mi.cells

theorem flatM_append (a b : List Mi) : flatM (a ++ b) = flatM a ++ flatM b := by simp [flatM]

theorem flatM_one (x : Mi) : flatM [x] = x.cells := by simp [flatM]

theorem flatM_length (xs : List Mi) : (flatM xs).length = xs.length * 7 := by
  induction xs with
  | nil => rfl
  | cons x r ih =>
    show (x.cells ++ flatM r).length = _
    rw [List.length_append, ih, List.length_cons]
    show 7 + r.length * 7 = _
    omega

theorem flatM_oneCell (xs : List Mi) : ∀ u ∈ flatM xs, u.oneCell' = true := fun u hu => by
  obtain ⟨x, _, hx⟩ := List.mem_flatMap.1 hu
  simp only [Mi.cells, List.mem_cons, List.not_mem_nil, or_false] at hx
  rcases hx with rfl | rfl | rfl | rfl | rfl | rfl | rfl <;> rfl

/-- What a call owns it sees. -/
theorem MisAt.of_own {W : World} {base : Nat} {T : TypeId} {A : Option Addr} {c : Nat} {xs : List Mi} (h : W.ownsRow base T 7 (.slice A xs.length c) xs.length (flatM xs)) (hok : ∀ x ∈ xs, x.Ok) : MisAt W W.heap.size A xs := fun hn => by
  have h0 : flatM xs ≠ [] := fun e => by
    have := congrArg List.length e
    rw [flatM_length] at this
    exact hn (List.eq_nil_of_length_eq_zero (by simp at this; omega))
  obtain ⟨b, o, e, hb, hc⟩ := sees_own h h0
  refine ⟨b, o, e, hb, fun i x hx => ?_⟩
  have hg := flat_get Mi.cells 7 (fun _ => rfl) xs i x hx
  have g := fun j u hu => hc _ _ (hg j u hu)
  refine ⟨hok x (List.mem_of_getElem? hx), ?_, ?_, ?_, ?_, ?_, ?_, ?_⟩
  · exact g 0 _ rfl
  · rw [Nat.add_assoc]; exact g 1 _ rfl
  · rw [Nat.add_assoc]; exact g 2 _ rfl
  · rw [Nat.add_assoc]; exact g 3 _ rfl
  · rw [Nat.add_assoc]; exact g 4 _ rfl
  · rw [Nat.add_assoc]; exact g 5 _ rfl
  · rw [Nat.add_assoc]; exact g 6 _ rfl

/-- A new block of one instruction. -/
theorem mach_new (w : World) (T : TypeId) (x : Mi) : ∀ j u, x.cells[j]? = some u → (w.alloc (.cells x.cells.toArray T)).cell? ((⟨w.heap.size, 0, none⟩ : Addr).add j) = some u := fun j u hu => by
  rw [Addr.add_lit]
  have := cell_of_row _ w.heap.size j _ T (0, 0) (heap_alloc_new w (.cells x.cells.toArray T))
  simp only [Nat.zero_add]
  rw [this]
  simpa using hu

theorem lead_none {a : List Mi} (h : ∀ x ∈ a, x.mv = false) : lead a = 0 := by
  cases a with
  | nil => rfl
  | cons x r => rw [lead, h x (by simp)]; rfl

theorem mvs_skip (l : List Mi) : ∀ a : List Mi, (∀ x ∈ a, x.mv = false) → mvs (a ++ l) = mvs l
  | [], _ => rfl
  | x :: r, h => by
    rw [List.cons_append, mvs, lead, h x (by simp), mvs_skip l r fun y hy => h y (List.mem_cons_of_mem _ hy)]
    simp

theorem lead_rep (m : Mi) (hm : m.mv = true) (c : List Mi) (hc : ∀ x ∈ c, x.mv = false) : ∀ k, lead (List.replicate k m ++ c) = k
  | 0 => by simpa using lead_none hc
  | k + 1 => by rw [List.replicate_succ, List.cons_append, lead, hm, if_pos rfl, lead_rep m hm c hc k]

theorem mvs_rep (m : Mi) (hm : m.mv = true) (c : List Mi) (hc : ∀ x ∈ c, x.mv = false) : ∀ k, mvs (List.replicate k m ++ c) = k
  | 0 => by
    have := mvs_skip [] c hc
    rw [List.append_nil] at this
    exact this
  | k + 1 => by
    have h1 := lead_rep m hm c hc (k + 1)
    rw [List.replicate_succ, List.cons_append] at h1 ⊢
    rw [mvs, h1, mvs_rep m hm c hc k]
    omega

theorem eCd_two (regs slots : Int) : ∀ (l : List Mi) (run : Nat), (∀ x ∈ l, eM x regs slots = 0) → eCd regs slots run l = 0 ∨ eCd regs slots run l = 15
  | [], _, _ => .inl rfl
  | x :: r, run, h => by
    rw [eCd, if_pos (h x (by simp))]
    split
    · exact .inr rfl
    · exact eCd_two regs slots r _ fun y hy => h y (List.mem_cons_of_mem _ hy)

theorem eCd_runs (regs slots : Int) (l : List Mi) (h : ∀ x ∈ l, eM x regs slots = 0) : eCd regs slots 0 l = if mvs l ≤ 64 then 0 else 15 := by
  have h1 := eCd_ok regs slots l 0 (by omega)
  have h2 := lead_mvs l
  split
  · exact h1.2 ⟨h, by omega, by omega⟩
  · rcases eCd_two regs slots l 0 h with h3 | h3
    · have := (h1.1 h3).2.2
      omega
    · exact h3

end Go.Proofs.Ytcoehkphdfejjaa
