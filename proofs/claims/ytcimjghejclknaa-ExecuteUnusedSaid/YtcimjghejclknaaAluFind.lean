/-
  The search in the table of functions.
-/
import Derived.Test.YtcimjghejclknaaAluFns
import Derived.Deep.WholeRow
import Derived.Great.BuildSlice
import Derived.Laws.EntriesVeiled
namespace Go.Proofs.Ytcimjghejclknaa
open Go.RowKit

/-- The table as cells: two for each opcode. -/
def tbl : Array Value := #[.nilFunc, .bool false, .nilFunc, .bool false, .nilFunc, .bool false, .nilFunc, .bool false, .nilFunc, .bool false, .func (.func 55) #[] #[], .bool false, .func (.func 56) #[] #[], .bool false, .func (.func 57) #[] #[], .bool false, .func (.func 58) #[] #[], .bool true, .func (.func 59) #[] #[], .bool true, .func (.func 60) #[] #[], .bool false, .func (.func 61) #[] #[], .bool false, .func (.func 62) #[] #[], .bool false, .func (.func 63) #[] #[], .bool false, .func (.func 65) #[] #[], .bool false, .func (.func 66) #[] #[], .bool false, .func (.func 68) #[] #[], .bool false]
def tbl0 : Array Value := #[.nilFunc, .bool false, .nilFunc, .bool false, .nilFunc, .bool false, .nilFunc, .bool false, .nilFunc, .bool false, .nilFunc, .bool false, .nilFunc, .bool false, .nilFunc, .bool false, .nilFunc, .bool false, .nilFunc, .bool false, .nilFunc, .bool false, .nilFunc, .bool false, .nilFunc, .bool false, .nilFunc, .bool false, .nilFunc, .bool false, .nilFunc, .bool false, .nilFunc, .bool false]

theorem eq_func (n : Nat) (w : World) : (binOp .eql 89 (.func (.func n) #[] #[]) .nilFunc).run Try.prog w = .ok (.bool false) w := by kernel_rfl
theorem eq_nil (w : World) : (binOp .eql 89 .nilFunc .nilFunc).run Try.prog w = .ok (.bool true) w := by kernel_rfl
theorem tbl_one : tbl.all (·.oneCell') = true := by kernel_rfl

/-- The world behind the table's laying: its cells, the result's block, and nothing else. -/
structure Laid (w W : World) : Prop where
  below : Below w.heap.size w W
  res : W.heap[w.heap.size]? = some (.cells #[.nilFunc, .bool false] 91 (0, 0))
  cell : ∀ i v, tbl[i]? = some v → W.cell? ⟨w.heap.size + 1, i, none⟩ = some v
  size : W.heap.size = w.heap.size + 2

theorem Laid.res0 {w W : World} (h : Laid w W) : W.cell? ⟨w.heap.size, 0, none⟩ = some .nilFunc := cell_of_row _ _ 0 _ _ _ h.res
theorem Laid.res1 {w W : World} (h : Laid w W) : W.cell? ⟨w.heap.size, 1, none⟩ = some (.bool false) := cell_of_row _ _ 1 _ _ _ h.res
theorem Laid.frozen {w W : World} (h : Laid w W) (i : Nat) : W.frozen? ⟨w.heap.size, i, none⟩ = false := by simp [World.frozen?, h.res]
theorem Laid.mk' (w : World) : Laid w ((w.alloc (.cells #[.nilFunc, .bool false] 91)).alloc (.cells tbl 94)) where
  below := ((Below.refl _ _).alloc (Nat.le_refl _) _).alloc (by simp) _
  res := by
    have h1 := heap_alloc_last w (.cells #[.nilFunc, .bool false] 91)
    show (((w.alloc (.cells #[.nilFunc, .bool false] 91)).heap).push _)[w.heap.size]? = _
    rw [Array.getElem?_push_lt (by simp)]
    exact (Array.getElem?_eq_getElem _).symm.trans h1
  cell := fun i v h => by
    have hh := heap_alloc_last (w.alloc (.cells #[.nilFunc, .bool false] 91)) (.cells tbl 94)
    rw [show (w.alloc (.cells #[.nilFunc, .bool false] 91)).heap.size = w.heap.size + 1 from by simp] at hh
    rw [cell_of_row _ _ i _ _ _ hh, h]
  size := by simp

theorem store_tbl {ops : Array Oper} {rest : List Oper} {o : Oper} {a : Act} {w : World} {c : Array Value} {Q : Exit → Act → World → Prop} (hgd : o.guard = none) (x y : Operand) (ho : o.op = .store 94 x y)
    (hd : o.dst = none) (hx : a.eval x = .pointer (some ⟨w.heap.size + 1, 0, none⟩)) (hy : a.eval y = .agg tbl) (hold : c.size = tbl.size)
    (h : ∀ W, Laid w W → Hid (wpList Try.prog ops Q rest a W)) :
    wpList Try.prog ops Q (o :: rest) a ((w.alloc (.cells #[.nilFunc, .bool false] 91)).alloc (.cells c 94)) := by
  have hh := heap_alloc_last (w.alloc (.cells #[.nilFunc, .bool false] 91)) (.cells c 94)
  have hs := World.setRow_alloc_new (w.alloc (.cells #[.nilFunc, .bool false] 91)) c tbl 94
  rw [show (w.alloc (.cells #[.nilFunc, .bool false] 91)).heap.size = w.heap.size + 1 from by simp] at hh hs
  refine wpList_store_rowTo hgd _ x y ho hd (w.heap.size + 1) tbl hx hy _ _ hh (by kernel_rfl) hold tbl_one ?_
  rw [hs]
  exact (h _ (Laid.mk' w)).out

/-- What the search answers. -/
def found (op : Int) (v : Value) : Prop :=
  (¬ (5 ≤ op ∧ op ≤ 16) ∧ v = .tuple #[.agg #[.nilFunc, .bool false], .bool false]) ∨
  ∃ (n : Nat) (d : Bool), tbl[op.toNat * 2]? = some (.func (.func n) #[] #[]) ∧ tbl[op.toNat * 2 + 1]? = some (.bool d) ∧ v = .tuple #[.agg #[.func (.func n) #[] #[], .bool d], .bool true]
theorem tbl_low (k : Nat) (h : k < 5) : tbl[k * 2]? = some .nilFunc ∧ tbl[k * 2 + 1]? = some (.bool false) := by
  have : k = 0 ∨ k = 1 ∨ k = 2 ∨ k = 3 ∨ k = 4 := by omega
  rcases this with rfl | rfl | rfl | rfl | rfl <;> exact ⟨rfl, rfl⟩
theorem tbl_high (k : Nat) (h : 5 ≤ k) (h2 : k < 17) : ∃ (n : Nat) (d : Bool), tbl[k * 2]? = some (.func (.func n) #[] #[]) ∧ tbl[k * 2 + 1]? = some (.bool d) := by
  have : k = 5 ∨ k = 6 ∨ k = 7 ∨ k = 8 ∨ k = 9 ∨ k = 10 ∨ k = 11 ∨ k = 12 ∨ k = 13 ∨ k = 14 ∨ k = 15 ∨ k = 16 := by omega
  rcases this with rfl | rfl | rfl | rfl | rfl | rfl | rfl | rfl | rfl | rfl | rfl | rfl <;> exact ⟨_, _, rfl, rfl⟩

set_option maxRecDepth 100000 in
set_option maxHeartbeats 2000000 in
theorem find_any (op : Int) (w : World) :
    Calls Try.prog 54 #[.int .i64 op] w fun e w' => (∃ v, e = .returned v ∧ found op v) ∧ Below w.heap.size w w' := by
  have hgo : True := trivial
  have hn := eq_nil
  go_enter Try.func54, Try.ntmps54
  go_wp2_with (replace hgo := hgo; first | (refine wpList_buildTo rfl 94 _ rfl (some 17) rfl tbl (by kernel_rfl) ?_) | (refine store_tbl rfl _ _ rfl rfl rfl rfl rfl ?_; clear hgo; intro W hW; have c2 := hW.res0; have c3 := hW.res1; have c4 := hW.frozen 0; have c5 := hW.frozen 1))
  have H := Lib.hid hW
  rcases Int.lt_or_le op 0 with h0 | h0
  · clear hW
    refine Lib.hid ?_
    go_wp2
    (try simp only [Exit.inBlock, Exit.then])
    refine bodyPost_ret (v := .tuple #[.agg #[.nilFunc, .bool false], .bool false]) ?_ rfl ⟨⟨_, rfl, .inl ⟨by omega, rfl⟩⟩, ?_⟩
    · rw [results_cell_tmp rfl]
      go_simp
    · exact (H.out.below.setCell (Nat.le_refl _) _).setCell (Nat.le_refl _) _
  · obtain ⟨k, rfl⟩ := Int.eq_ofNat_of_zero_le h0
    rcases Nat.lt_or_ge k 17 with h17 | h17
    · rcases Nat.lt_or_ge k 5 with h5 | h5
      · have c0 := hW.cell _ _ (tbl_low k h5).1
        clear hW
        refine Lib.hid ?_
        go_wp2
        (try simp only [Exit.inBlock, Exit.then])
        refine bodyPost_ret (v := .tuple #[.agg #[.nilFunc, .bool false], .bool false]) ?_ rfl ⟨⟨_, rfl, .inl ⟨by omega, rfl⟩⟩, ?_⟩
        · rw [results_cell_tmp rfl]
          go_simp
        · exact (H.out.below.setCell (Nat.le_refl _) _).setCell (Nat.le_refl _) _
      · obtain ⟨n, d, hF, hD⟩ := tbl_high k h5 h17
        have c0 := hW.cell _ _ hF
        have c1 := hW.cell _ _ hD
        have hf := eq_func n
        have HF := Lib.hid hF
        have HD := Lib.hid hD
        clear hW hF hD
        refine Lib.hid ?_
        go_wp2
        (try simp only [Exit.inBlock, Exit.then])
        refine bodyPost_ret (v := .tuple #[.agg #[.func (.func n) #[] #[], .bool d], .bool true]) ?_ rfl ⟨⟨_, rfl, .inr ⟨n, d, HF.out, HD.out, rfl⟩⟩, ?_⟩
        · rw [results_cell_tmp rfl]
          go_simp
        · exact (H.out.below.setCell (Nat.le_refl _) _).setCell (Nat.le_refl _) _
    · clear hW
      refine Lib.hid ?_
      go_wp2
      (try simp only [Exit.inBlock, Exit.then])
      refine bodyPost_ret (v := .tuple #[.agg #[.nilFunc, .bool false], .bool false]) ?_ rfl ⟨⟨_, rfl, .inl ⟨by omega, rfl⟩⟩, ?_⟩
      · rw [results_cell_tmp rfl]
        go_simp
      · exact (H.out.below.setCell (Nat.le_refl _) _).setCell (Nat.le_refl _) _

end Go.Proofs.Ytcimjghejclknaa
