/-
  The cursor's method Bytes, continued: its reading function, and the method itself.
-/
import Derived.Test.YtacmgfndmolnfaaCurBytes
namespace Go.Proofs.Ytacmgfndmolnfaa
open Go.RowKit
set_option linter.unusedVariables false

theorem bytesL_ok {n : Int} {l : List Nat} (h0 : 0 ≤ n) (h1 : n ≤ (l.length : Int)) : bytesL 0 n l = l.take n.toNat := if_pos ⟨rfl, h0, h1⟩
theorem bytesL_neg {er n : Int} {l : List Nat} (h0 : n < 0) : bytesL er n l = [] := if_neg fun h => by omega
theorem bytesL_far {er n : Int} {l : List Nat} (h0 : (l.length : Int) < n) : bytesL er n l = [] := if_neg fun h => by omega
theorem bytesL_bad {er n : Int} {l : List Nat} (h0 : er ≠ 0) : bytesL er n l = [] := if_neg fun h => h0 h.1
theorem got_nil {w : World} {B q : Nat} (h : Row w q 22 #[.slice none 0 0]) : Got B q [] w :=
  ⟨none, 0, h, ⟨rfl, .inl ⟨rfl, rfl⟩⟩, (fun _ h => by cases h), Nat.le_refl _, Nat.zero_le _⟩

set_option maxRecDepth 100000 in
set_option maxHeartbeats 400000 in
theorem read_bad (K : FuncId) (caps : Array Value) {w : World} {lo p : Nat} {l : List Nat} {i : Nat} {er : Int} {A : Option Addr} {c : Nat} (h : Cur w lo p l i er A c) (he : er ≠ 0) :
    Calls Try.prog 65 #[.pointer (some ⟨p, 0, none⟩), .func (.func K) #[] caps] w fun e w' => e = .returned (.int .u64 0) ∧ w = w' := by
  have e3 : (er != 0) = true := by simp [he]
  clear he
  go_enter Try.func65, Try.ntmps65
  go_wp2_with fail
  refine (err_any h).mono ?_
  rintro e W ⟨rfl, rfl⟩
  go_wp2
  go_ret
  exact ⟨rfl, rfl⟩

/-- What Bytes leaves. -/
def BytesP (w : World) (lo p : Nat) (l : List Nat) (i : Nat) (er : Int) (A : Option Addr) (c : Nat) (n : Int) (e : Ending) (w' : World) : Prop :=
  ∃ A' c', e = .returned (.slice A' (bytesL er n (l.drop i)).length c') ∧ Mods (Is p) w w' ∧ Cur w' lo p l (stepI i er (bytesS n (l.drop i))) (stepE er (bytesS n (l.drop i))) A c ∧
    w'.ownsRow w.heap.size 5 1 (.slice A' (bytesL er n (l.drop i)).length c') (bytesL er n (l.drop i)).length (bts (bytesL er n (l.drop i))) ∧ (∀ x, A' = some x → w.heap.size ≤ x.block)

end Go.Proofs.Ytacmgfndmolnfaa
