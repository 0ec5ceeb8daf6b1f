/-
  The program's Of and Operands.
-/
import Derived.Test.YtcindgaonaloeaaOpcFns
namespace Go.Proofs.Ytcindgaonaloeaa
open Go.RowKit

theorem ways18 (op : Int) : uO op = false ∨ op = 1 ∨ op = 2 ∨ op = 3 ∨ op = 4 ∨ op = 5 ∨ op = 6 ∨ op = 7 ∨ op = 8 ∨ op = 9 ∨ op = 10 ∨ op = 11 ∨ op = 12 ∨ op = 13 ∨ op = 14 ∨ op = 15 ∨ op = 16 ∨ op = 17 ∨ op = 18 := by
  by_cases h : 1 ≤ op ∧ op ≤ 18
  · right; omega
  · left; exact decide_eq_false h
theorem out_of {op : Int} (h : uO op = false) : ¬ (1 ≤ op ∧ op ≤ 18) := of_decide_eq_false h
theorem out_D {op : Int} (h : uO op = false) : uD op = false := decide_eq_false (by have := out_of h; omega)
theorem out_A {op : Int} (h : uO op = false) : uA op = false := decide_eq_false (by have := out_of h; omega)
theorem out_B {op : Int} (h : uO op = false) : uB op = false := decide_eq_false (by have := out_of h; omega)
theorem out_I {op : Int} (h : uO op = false) : uI op = false := decide_eq_false (by have := out_of h; omega)
theorem out_ne {op : Int} (h : uO op = false) (k : Int) (h1 : 1 ≤ k ∧ k ≤ 18) : (op == k) = false := beq_eq_false_iff_ne.2 fun e => out_of h (e ▸ h1)

/-- What Of answers. -/
def shp (op : Int) : Value := .agg #[.bool (uD op), .bool (uA op), .bool (uB op), .bool (uI op)]

set_option maxRecDepth 100000 in
set_option maxHeartbeats 1000000 in
theorem of_any (op : Int) (w : World) :
    Calls Try.prog 44 #[.int .i64 op] w fun e w' => e = .returned (.tuple #[shp op, .bool (uO op)]) ∧ Below w.heap.size w w' := by
  rcases ways18 op with h | h | h | h | h | h | h | h | h | h | h | h | h | h | h | h | h | h | h
  · rw [shp, out_D h, out_A h, out_B h, out_I h, h]
    have h1 := out_ne h 1 (by omega); have h2 := out_ne h 2 (by omega); have h3 := out_ne h 3 (by omega); have h4 := out_ne h 4 (by omega); have h5 := out_ne h 5 (by omega); have h6 := out_ne h 6 (by omega)
    have h7 := out_ne h 7 (by omega); have h8 := out_ne h 8 (by omega); have h9 := out_ne h 9 (by omega); have h10 := out_ne h 10 (by omega); have h11 := out_ne h 11 (by omega); have h12 := out_ne h 12 (by omega)
    have h13 := out_ne h 13 (by omega); have h14 := out_ne h 14 (by omega); have h15 := out_ne h 15 (by omega); have h16 := out_ne h 16 (by omega); have h17 := out_ne h 17 (by omega); have h18 := out_ne h 18 (by omega)
    clear h
    go_enter Try.func44, Try.ntmps44
    go_wp2
    (try simp only [Exit.inBlock, Exit.then])
    refine bodyPost_ret (v := .tuple #[.agg #[.bool false, .bool false, .bool false, .bool false], .bool false]) ?_ rfl ⟨rfl, ?_⟩
    · rw [results_cell_tmp rfl]
      go_simp
    · exact (Below.refl _ _).alloc (Nat.le_refl _) _
  · subst h
    rw [show shp 1 = .agg #[.bool true, .bool false, .bool false, .bool true] from rfl, show uO 1 = true from rfl]
    go_enter Try.func44, Try.ntmps44
    go_wp2
    (try simp only [Exit.inBlock, Exit.then])
    refine bodyPost_ret (v := .tuple #[.agg #[.bool true, .bool false, .bool false, .bool true], .bool true]) ?_ rfl ⟨rfl, ?_⟩
    · rw [results_cell_tmp rfl]
      go_simp
    · exact (Below.refl _ _).alloc (Nat.le_refl _) _
  · subst h
    rw [show shp 2 = .agg #[.bool true, .bool true, .bool false, .bool false] from rfl, show uO 2 = true from rfl]
    go_enter Try.func44, Try.ntmps44
    go_wp2
    (try simp only [Exit.inBlock, Exit.then])
    refine bodyPost_ret (v := .tuple #[.agg #[.bool true, .bool true, .bool false, .bool false], .bool true]) ?_ rfl ⟨rfl, ?_⟩
    · rw [results_cell_tmp rfl]
      go_simp
    · exact (Below.refl _ _).alloc (Nat.le_refl _) _
  · subst h
    rw [show shp 3 = .agg #[.bool true, .bool true, .bool false, .bool false] from rfl, show uO 3 = true from rfl]
    go_enter Try.func44, Try.ntmps44
    go_wp2
    (try simp only [Exit.inBlock, Exit.then])
    refine bodyPost_ret (v := .tuple #[.agg #[.bool true, .bool true, .bool false, .bool false], .bool true]) ?_ rfl ⟨rfl, ?_⟩
    · rw [results_cell_tmp rfl]
      go_simp
    · exact (Below.refl _ _).alloc (Nat.le_refl _) _
  · subst h
    rw [show shp 4 = .agg #[.bool true, .bool true, .bool false, .bool false] from rfl, show uO 4 = true from rfl]
    go_enter Try.func44, Try.ntmps44
    go_wp2
    (try simp only [Exit.inBlock, Exit.then])
    refine bodyPost_ret (v := .tuple #[.agg #[.bool true, .bool true, .bool false, .bool false], .bool true]) ?_ rfl ⟨rfl, ?_⟩
    · rw [results_cell_tmp rfl]
      go_simp
    · exact (Below.refl _ _).alloc (Nat.le_refl _) _
  · subst h
    rw [show shp 5 = .agg #[.bool true, .bool true, .bool true, .bool false] from rfl, show uO 5 = true from rfl]
    go_enter Try.func44, Try.ntmps44
    go_wp2
    (try simp only [Exit.inBlock, Exit.then])
    refine bodyPost_ret (v := .tuple #[.agg #[.bool true, .bool true, .bool true, .bool false], .bool true]) ?_ rfl ⟨rfl, ?_⟩
    · rw [results_cell_tmp rfl]
      go_simp
    · exact (Below.refl _ _).alloc (Nat.le_refl _) _
  · subst h
    rw [show shp 6 = .agg #[.bool true, .bool true, .bool true, .bool false] from rfl, show uO 6 = true from rfl]
    go_enter Try.func44, Try.ntmps44
    go_wp2
    (try simp only [Exit.inBlock, Exit.then])
    refine bodyPost_ret (v := .tuple #[.agg #[.bool true, .bool true, .bool true, .bool false], .bool true]) ?_ rfl ⟨rfl, ?_⟩
    · rw [results_cell_tmp rfl]
      go_simp
    · exact (Below.refl _ _).alloc (Nat.le_refl _) _
  · subst h
    rw [show shp 7 = .agg #[.bool true, .bool true, .bool true, .bool false] from rfl, show uO 7 = true from rfl]
    go_enter Try.func44, Try.ntmps44
    go_wp2
    (try simp only [Exit.inBlock, Exit.then])
    refine bodyPost_ret (v := .tuple #[.agg #[.bool true, .bool true, .bool true, .bool false], .bool true]) ?_ rfl ⟨rfl, ?_⟩
    · rw [results_cell_tmp rfl]
      go_simp
    · exact (Below.refl _ _).alloc (Nat.le_refl _) _
  · subst h
    rw [show shp 8 = .agg #[.bool true, .bool true, .bool true, .bool false] from rfl, show uO 8 = true from rfl]
    go_enter Try.func44, Try.ntmps44
    go_wp2
    (try simp only [Exit.inBlock, Exit.then])
    refine bodyPost_ret (v := .tuple #[.agg #[.bool true, .bool true, .bool true, .bool false], .bool true]) ?_ rfl ⟨rfl, ?_⟩
    · rw [results_cell_tmp rfl]
      go_simp
    · exact (Below.refl _ _).alloc (Nat.le_refl _) _
  · subst h
    rw [show shp 9 = .agg #[.bool true, .bool true, .bool true, .bool false] from rfl, show uO 9 = true from rfl]
    go_enter Try.func44, Try.ntmps44
    go_wp2
    (try simp only [Exit.inBlock, Exit.then])
    refine bodyPost_ret (v := .tuple #[.agg #[.bool true, .bool true, .bool true, .bool false], .bool true]) ?_ rfl ⟨rfl, ?_⟩
    · rw [results_cell_tmp rfl]
      go_simp
    · exact (Below.refl _ _).alloc (Nat.le_refl _) _
  · subst h
    rw [show shp 10 = .agg #[.bool true, .bool true, .bool true, .bool false] from rfl, show uO 10 = true from rfl]
    go_enter Try.func44, Try.ntmps44
    go_wp2
    (try simp only [Exit.inBlock, Exit.then])
    refine bodyPost_ret (v := .tuple #[.agg #[.bool true, .bool true, .bool true, .bool false], .bool true]) ?_ rfl ⟨rfl, ?_⟩
    · rw [results_cell_tmp rfl]
      go_simp
    · exact (Below.refl _ _).alloc (Nat.le_refl _) _
  · subst h
    rw [show shp 11 = .agg #[.bool true, .bool true, .bool true, .bool false] from rfl, show uO 11 = true from rfl]
    go_enter Try.func44, Try.ntmps44
    go_wp2
    (try simp only [Exit.inBlock, Exit.then])
    refine bodyPost_ret (v := .tuple #[.agg #[.bool true, .bool true, .bool true, .bool false], .bool true]) ?_ rfl ⟨rfl, ?_⟩
    · rw [results_cell_tmp rfl]
      go_simp
    · exact (Below.refl _ _).alloc (Nat.le_refl _) _
  · subst h
    rw [show shp 12 = .agg #[.bool true, .bool true, .bool true, .bool false] from rfl, show uO 12 = true from rfl]
    go_enter Try.func44, Try.ntmps44
    go_wp2
    (try simp only [Exit.inBlock, Exit.then])
    refine bodyPost_ret (v := .tuple #[.agg #[.bool true, .bool true, .bool true, .bool false], .bool true]) ?_ rfl ⟨rfl, ?_⟩
    · rw [results_cell_tmp rfl]
      go_simp
    · exact (Below.refl _ _).alloc (Nat.le_refl _) _
  · subst h
    rw [show shp 13 = .agg #[.bool true, .bool true, .bool true, .bool false] from rfl, show uO 13 = true from rfl]
    go_enter Try.func44, Try.ntmps44
    go_wp2
    (try simp only [Exit.inBlock, Exit.then])
    refine bodyPost_ret (v := .tuple #[.agg #[.bool true, .bool true, .bool true, .bool false], .bool true]) ?_ rfl ⟨rfl, ?_⟩
    · rw [results_cell_tmp rfl]
      go_simp
    · exact (Below.refl _ _).alloc (Nat.le_refl _) _
  · subst h
    rw [show shp 14 = .agg #[.bool true, .bool true, .bool true, .bool false] from rfl, show uO 14 = true from rfl]
    go_enter Try.func44, Try.ntmps44
    go_wp2
    (try simp only [Exit.inBlock, Exit.then])
    refine bodyPost_ret (v := .tuple #[.agg #[.bool true, .bool true, .bool true, .bool false], .bool true]) ?_ rfl ⟨rfl, ?_⟩
    · rw [results_cell_tmp rfl]
      go_simp
    · exact (Below.refl _ _).alloc (Nat.le_refl _) _
  · subst h
    rw [show shp 15 = .agg #[.bool true, .bool true, .bool true, .bool false] from rfl, show uO 15 = true from rfl]
    go_enter Try.func44, Try.ntmps44
    go_wp2
    (try simp only [Exit.inBlock, Exit.then])
    refine bodyPost_ret (v := .tuple #[.agg #[.bool true, .bool true, .bool true, .bool false], .bool true]) ?_ rfl ⟨rfl, ?_⟩
    · rw [results_cell_tmp rfl]
      go_simp
    · exact (Below.refl _ _).alloc (Nat.le_refl _) _
  · subst h
    rw [show shp 16 = .agg #[.bool true, .bool true, .bool true, .bool false] from rfl, show uO 16 = true from rfl]
    go_enter Try.func44, Try.ntmps44
    go_wp2
    (try simp only [Exit.inBlock, Exit.then])
    refine bodyPost_ret (v := .tuple #[.agg #[.bool true, .bool true, .bool true, .bool false], .bool true]) ?_ rfl ⟨rfl, ?_⟩
    · rw [results_cell_tmp rfl]
      go_simp
    · exact (Below.refl _ _).alloc (Nat.le_refl _) _
  · subst h
    rw [show shp 17 = .agg #[.bool false, .bool true, .bool false, .bool false] from rfl, show uO 17 = true from rfl]
    go_enter Try.func44, Try.ntmps44
    go_wp2
    (try simp only [Exit.inBlock, Exit.then])
    refine bodyPost_ret (v := .tuple #[.agg #[.bool false, .bool true, .bool false, .bool false], .bool true]) ?_ rfl ⟨rfl, ?_⟩
    · rw [results_cell_tmp rfl]
      go_simp
    · exact (Below.refl _ _).alloc (Nat.le_refl _) _
  · subst h
    rw [show shp 18 = .agg #[.bool false, .bool false, .bool false, .bool false] from rfl, show uO 18 = true from rfl]
    go_enter Try.func44, Try.ntmps44
    go_wp2
    (try simp only [Exit.inBlock, Exit.then])
    refine bodyPost_ret (v := .tuple #[.agg #[.bool false, .bool false, .bool false, .bool false], .bool true]) ?_ rfl ⟨rfl, ?_⟩
    · rw [results_cell_tmp rfl]
      go_simp
    · exact (Below.refl _ _).alloc (Nat.le_refl _) _

theorem shp_eq (op : Int) {d a b i : Bool} (h1 : uD op = d) (h2 : uA op = a) (h3 : uB op = b) (h4 : uI op = i) : shp op = .agg #[.bool d, .bool a, .bool b, .bool i] := by subst h1; subst h2; subst h3; subst h4; rfl
theorem of_at (op : Int) (d a b i o : Bool) (w : World) (h1 : uD op = d) (h2 : uA op = a) (h3 : uB op = b) (h4 : uI op = i) (h5 : uO op = o) :
    Calls Try.prog 44 #[.int .i64 op] w fun e w' => e = .returned (.tuple #[.agg #[.bool d, .bool a, .bool b, .bool i], .bool o]) ∧ Below w.heap.size w w' := by
  subst h5
  rw [← shp_eq op h1 h2 h3 h4]
  exact of_any op w

end Go.Proofs.Ytcindgaonaloeaa
