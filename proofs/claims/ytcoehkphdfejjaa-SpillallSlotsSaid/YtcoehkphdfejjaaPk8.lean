import Derived.Test.YtcoehkphdfejjaaPk1
import Derived.Deep.WholeRow
import Derived.Great.BuildSlice
import Derived.Laws.EntriesVeiled
import Derived.Deep.Cut
import Derived.Deep.CutRange
import Derived.Deep.LoopGhost
import Derived.LoopTactic
import Derived.Laws.CopyOwn
import Derived.Laws.OwnMore
import Derived.Deep.OwnRows
import Derived.Test.YtcoehkphdfejjaaSrcCopy
import Derived.Deep.RegionHeld3
import Derived.Deep.DeepMust
import Derived.RegionTactic
import Derived.ChangeAlike
import Derived.StillTailTactics

/-
  The functions of the program's table, and the search in the table.
-/
namespace Go.Proofs.Ytcoehkphdfejjaa
open Go.RowKit

theorem c1_any (a b : Int) (w : World) (ha : InI a) (hb : InI b) :
    Calls Try.prog 77 #[.int .i64 a, .int .i64 b] w fun e w' => e = .returned (.int .i64 (wrap64 (a + b))) ∧ w = w' := by
  obtain ⟨a0, a1⟩ := ha
  obtain ⟨b0, b1⟩ := hb
  go_enter Try.func77, Try.ntmps77
  go_wp2
  go_ret
  exact ⟨rfl, rfl⟩

theorem c2_any (a b : Int) (w : World) (ha : InI a) (hb : InI b) :
    Calls Try.prog 78 #[.int .i64 a, .int .i64 b] w fun e w' => e = .returned (.int .i64 (wrap64 (a - b))) ∧ w = w' := by
  obtain ⟨a0, a1⟩ := ha
  obtain ⟨b0, b1⟩ := hb
  go_enter Try.func78, Try.ntmps78
  go_wp2
  go_ret
  exact ⟨rfl, rfl⟩

theorem c3_any (a b : Int) (w : World) (ha : InI a) (hb : InI b) :
    Calls Try.prog 79 #[.int .i64 a, .int .i64 b] w fun e w' => e = .returned (.int .i64 (wrap64 (a * b))) ∧ w = w' := by
  obtain ⟨a0, a1⟩ := ha
  obtain ⟨b0, b1⟩ := hb
  go_enter Try.func79, Try.ntmps79
  go_wp2
  go_ret
  exact ⟨rfl, rfl⟩

theorem c4_any (a b : Int) (w : World) (ha : InI a) (hb : InI b) (h0 : ¬ b = 0) :
    Calls Try.prog 80 #[.int .i64 a, .int .i64 b] w fun e w' => e = .returned (.int .i64 (wrap64 (a.tdiv b))) ∧ w = w' := by
  obtain ⟨a0, a1⟩ := ha
  obtain ⟨b0, b1⟩ := hb
  go_enter Try.func80, Try.ntmps80
  go_wp2
  go_ret
  exact ⟨rfl, rfl⟩

theorem c5_any (a b : Int) (w : World) (ha : InI a) (hb : InI b) (h0 : ¬ b = 0) :
    Calls Try.prog 81 #[.int .i64 a, .int .i64 b] w fun e w' => e = .returned (.int .i64 (a.tmod b)) ∧ w = w' := by
  obtain ⟨a0, a1⟩ := ha
  obtain ⟨b0, b1⟩ := hb
  go_enter Try.func81, Try.ntmps81
  go_wp2
  go_ret
  exact ⟨rfl, rfl⟩

theorem c6_any (a b : Int) (w : World) :
    Calls Try.prog 82 #[.int .i64 a, .int .i64 b] w fun e w' => e = .returned (.int .i64 (bits .and .i64 a b)) ∧ w = w' := by
  go_enter Try.func82, Try.ntmps82
  go_wp2
  go_ret
  exact ⟨rfl, rfl⟩

theorem c7_any (a b : Int) (w : World) :
    Calls Try.prog 83 #[.int .i64 a, .int .i64 b] w fun e w' => e = .returned (.int .i64 (bits .or .i64 a b)) ∧ w = w' := by
  go_enter Try.func83, Try.ntmps83
  go_wp2
  go_ret
  exact ⟨rfl, rfl⟩

theorem c8_any (a b : Int) (w : World) :
    Calls Try.prog 84 #[.int .i64 a, .int .i64 b] w fun e w' => e = .returned (.int .i64 (bits .xor .i64 a b)) ∧ w = w' := by
  go_enter Try.func84, Try.ntmps84
  go_wp2
  go_ret
  exact ⟨rfl, rfl⟩

theorem pos_any (b : Int) (w : World) :
    Calls Try.prog 86 #[.int .i64 b] w fun e w' => e = .returned (.int .i64 (b % 64)) ∧ w = w' := by
  go_enter Try.func86, Try.ntmps86
  go_wp2
  go_ret
  exact ⟨ret1 (and63 b), rfl⟩

theorem c9_any (a b : Int) (w : World) (ha : InI a) :
    Calls Try.prog 85 #[.int .i64 a, .int .i64 b] w fun e w' => e = .returned (.int .i64 (wrap64 (a * 2 ^ cnt b))) ∧ w = w' := by
  have hp := pos_any b w
  unfold cnt
  obtain ⟨c, hc⟩ : ∃ c, c = b % 64 := ⟨_, rfl⟩
  have p0 : 0 ≤ c := by omega
  have p1 : c < 64 := by omega
  rw [← hc] at hp ⊢
  clear hc
  obtain ⟨a0, a1⟩ := ha
  go_enter Try.func85, Try.ntmps85
  go_wp2_with fail
  refine hp.mono ?_
  rintro e w' ⟨rfl, rfl⟩
  go_wp2
  go_ret
  exact ⟨rfl, rfl⟩

theorem c10_any (a b : Int) (w : World) (ha : InI a) :
    Calls Try.prog 87 #[.int .i64 a, .int .i64 b] w fun e w' => e = .returned (.int .i64 (a / 2 ^ cnt b)) ∧ w = w' := by
  have hp := pos_any b w
  unfold cnt
  obtain ⟨c, hc⟩ : ∃ c, c = b % 64 := ⟨_, rfl⟩
  have p0 : 0 ≤ c := by omega
  have p1 : c < 64 := by omega
  rw [← hc] at hp ⊢
  clear hc
  obtain ⟨a0, a1⟩ := ha
  go_enter Try.func87, Try.ntmps87
  go_wp2_with fail
  refine hp.mono ?_
  rintro e w' ⟨rfl, rfl⟩
  go_wp2
  go_ret
  exact ⟨rfl, rfl⟩

theorem truth_any (t : Bool) (w : World) :
    Calls Try.prog 89 #[.bool t] w fun e w' => e = .returned (.int .i64 (tr t)) ∧ w = w' := by
  cases t
  all_goals
    go_enter Try.func89, Try.ntmps89
    go_wp2
    go_ret
    exact ⟨rfl, rfl⟩

theorem c11_any (a b : Int) (w : World) :
    Calls Try.prog 88 #[.int .i64 a, .int .i64 b] w fun e w' => e = .returned (.int .i64 (tr (a == b))) ∧ w = w' := by
  have hp := truth_any (a == b) w
  go_enter Try.func88, Try.ntmps88
  go_wp2_with fail
  refine hp.mono ?_
  rintro e w' ⟨rfl, rfl⟩
  go_wp2
  go_ret
  exact ⟨rfl, rfl⟩

theorem c12_any (a b : Int) (w : World) :
    Calls Try.prog 90 #[.int .i64 a, .int .i64 b] w fun e w' => e = .returned (.int .i64 (tr (decide (a < b)))) ∧ w = w' := by
  have hp := truth_any (decide (a < b)) w
  go_enter Try.func90, Try.ntmps90
  go_wp2_with fail
  refine hp.mono ?_
  rintro e w' ⟨rfl, rfl⟩
  go_wp2
  go_ret
  exact ⟨rfl, rfl⟩

end Go.Proofs.Ytcoehkphdfejjaa

/-
  The search in the table of functions.
-/
namespace Go.Proofs.Ytcoehkphdfejjaa
open Go.RowKit

/-- The table as cells: two for each opcode. -/
def tbl : Array Value := #[.nilFunc, .bool false, .nilFunc, .bool false, .nilFunc, .bool false, .nilFunc, .bool false, .nilFunc, .bool false, .func (.func 77) #[] #[], .bool false, .func (.func 78) #[] #[], .bool false, .func (.func 79) #[] #[], .bool false, .func (.func 80) #[] #[], .bool true, .func (.func 81) #[] #[], .bool true, .func (.func 82) #[] #[], .bool false, .func (.func 83) #[] #[], .bool false, .func (.func 84) #[] #[], .bool false, .func (.func 85) #[] #[], .bool false, .func (.func 87) #[] #[], .bool false, .func (.func 88) #[] #[], .bool false, .func (.func 90) #[] #[], .bool false]

def tbl0 : Array Value := #[.nilFunc, .bool false, .nilFunc, .bool false, .nilFunc, .bool false, .nilFunc, .bool false, .nilFunc, .bool false, .nilFunc, .bool false, .nilFunc, .bool false, .nilFunc, .bool false, .nilFunc, .bool false, .nilFunc, .bool false, .nilFunc, .bool false, .nilFunc, .bool false, .nilFunc, .bool false, .nilFunc, .bool false, .nilFunc, .bool false, .nilFunc, .bool false, .nilFunc, .bool false]

theorem eq_func (n : Nat) (w : World) : (binOp .eql 122 (.func (.func n) #[] #[]) .nilFunc).run Try.prog w = .ok (.bool false) w := by kernel_rfl

theorem eq_nil (w : World) : (binOp .eql 122 .nilFunc .nilFunc).run Try.prog w = .ok (.bool true) w := by kernel_rfl

theorem tbl_one : tbl.all (·.oneCell') = true := by kernel_rfl

/-- The world behind the table's laying: its cells, the result's block, and nothing else. -/
structure Laid (w W : World) : Prop where
  below : Below w.heap.size w W
  res : W.heap[w.heap.size]? = some (.cells #[.nilFunc, .bool false] 124 (0, 0))
  cell : ∀ i v, tbl[i]? = some v → W.cell? ⟨w.heap.size + 1, i, none⟩ = some v
  size : W.heap.size = w.heap.size + 2

theorem Laid.res0 {w W : World} (h : Laid w W) : W.cell? ⟨w.heap.size, 0, none⟩ = some .nilFunc := cell_of_row _ _ 0 _ _ _ h.res

theorem Laid.res1 {w W : World} (h : Laid w W) : W.cell? ⟨w.heap.size, 1, none⟩ = some (.bool false) := cell_of_row _ _ 1 _ _ _ h.res

theorem Laid.frozen {w W : World} (h : Laid w W) (i : Nat) : W.frozen? ⟨w.heap.size, i, none⟩ = false := by simp [World.frozen?, h.res]

theorem Laid.mk' (w : World) : Laid w ((w.alloc (.cells #[.nilFunc, .bool false] 124)).alloc (.cells tbl 131)) where
  below := ((Below.refl _ _).alloc (Nat.le_refl _) _).alloc (by simp) _
  res := by
    have h1 := heap_alloc_last w (.cells #[.nilFunc, .bool false] 124)
    show (((w.alloc (.cells #[.nilFunc, .bool false] 124)).heap).push _)[w.heap.size]? = _
    rw [Array.getElem?_push_lt (by simp)]
    exact (Array.getElem?_eq_getElem _).symm.trans h1
  cell := fun i v h => by
    have hh := heap_alloc_last (w.alloc (.cells #[.nilFunc, .bool false] 124)) (.cells tbl 131)
    rw [show (w.alloc (.cells #[.nilFunc, .bool false] 124)).heap.size = w.heap.size + 1 from by simp] at hh
    rw [cell_of_row _ _ i _ _ _ hh, h]
  size := by simp

theorem store_tbl {ops : Array Oper} {rest : List Oper} {o : Oper} {a : Act} {w : World} {c : Array Value} {Q : Exit → Act → World → Prop} (hgd : o.guard = none) (x y : Operand) (ho : o.op = .store 131 x y)
    (hd : o.dst = none) (hx : a.eval x = .pointer (some ⟨w.heap.size + 1, 0, none⟩)) (hy : a.eval y = .agg tbl) (hold : c.size = tbl.size)
    (h : ∀ W, Laid w W → Hid (wpList Try.prog ops Q rest a W)) :
    wpList Try.prog ops Q (o :: rest) a ((w.alloc (.cells #[.nilFunc, .bool false] 124)).alloc (.cells c 131)) := by
  have hh := heap_alloc_last (w.alloc (.cells #[.nilFunc, .bool false] 124)) (.cells c 131)
  have hs := World.setRow_alloc_new (w.alloc (.cells #[.nilFunc, .bool false] 124)) c tbl 131
  rw [show (w.alloc (.cells #[.nilFunc, .bool false] 124)).heap.size = w.heap.size + 1 from by simp] at hh hs
  refine wpList_store_rowTo hgd _ x y ho hd (w.heap.size + 1) tbl hx hy _ _ hh (by kernel_rfl) hold tbl_one ?_
  rw [hs]
  exact (h _ (Laid.mk' w)).out

/-- What the search answers. -/
def found (op : Int) (v : Value) : Prop :=
  (¬ (5 ≤ op ∧ op ≤ 16) ∧ v = .tuple #[.agg #[.nilFunc, .bool false], .bool false]) ∨
  ∃ (n : Nat) (d : Bool), tbl[op.toNat * 2]? = some (.func (.func n) #[] #[]) ∧ tbl[op.toNat * 2 + 1]? = some (.bool d) ∧ v = .tuple #[.agg #[.func (.func n) #[] #[], .bool d], .bool true]

theorem tbl_low (k : Nat) (h : k < 5) : tbl[k * 2]? = some .nilFunc ∧ tbl[k * 2 + 1]? = some (.bool false) := by
  have : k = 0 ∨ k = 1 ∨ k = 2 ∨ k = 3 ∨ k = 4 := by omega
  rcases this with rfl | rfl | rfl | rfl | rfl <;> exact ⟨rfl, rfl⟩

theorem tbl_high (k : Nat) (h : 5 ≤ k) (h2 : k < 17) : ∃ (n : Nat) (d : Bool), tbl[k * 2]? = some (.func (.func n) #[] #[]) ∧ tbl[k * 2 + 1]? = some (.bool d) := by
  have : k = 5 ∨ k = 6 ∨ k = 7 ∨ k = 8 ∨ k = 9 ∨ k = 10 ∨ k = 11 ∨ k = 12 ∨ k = 13 ∨ k = 14 ∨ k = 15 ∨ k = 16 := by omega
  rcases this with rfl | rfl | rfl | rfl | rfl | rfl | rfl | rfl | rfl | rfl | rfl | rfl <;> exact ⟨_, _, rfl, rfl⟩

set_option maxRecDepth 100000 in
set_option maxHeartbeats 2000000 in
theorem find_any (op : Int) (w : World) :
    Calls Try.prog 74 #[.int .i64 op] w fun e w' => (∃ v, e = .returned v ∧ found op v) ∧ Below w.heap.size w w' := by
  have hgo : True := trivial
  have hn := eq_nil
  go_enter Try.func74, Try.ntmps74
  go_wp2_with (replace hgo := hgo; first | (refine wpList_buildTo rfl 131 _ rfl (some 17) rfl tbl (by kernel_rfl) ?_) | (refine store_tbl rfl _ _ rfl rfl rfl rfl rfl ?_; clear hgo; intro W hW; have c2 := hW.res0; have c3 := hW.res1; have c4 := hW.frozen 0; have c5 := hW.frozen 1))
  have H := Lib.hid hW
  rcases Int.lt_or_le op 0 with h0 | h0
  · clear hW
    refine Lib.hid ?_
    go_wp2
    (try simp only [Exit.inBlock, Exit.then])
    refine bodyPost_ret (v := .tuple #[.agg #[.nilFunc, .bool false], .bool false]) ?_ rfl ⟨⟨_, rfl, .inl ⟨by omega, rfl⟩⟩, ?_⟩
    · rw [results_cell_tmp rfl]
      go_simp
    · exact (H.out.below.setCell (Nat.le_refl _) _).setCell (Nat.le_refl _) _
  · obtain ⟨k, rfl⟩ := Int.eq_ofNat_of_zero_le h0
    rcases Nat.lt_or_ge k 17 with h17 | h17
    · rcases Nat.lt_or_ge k 5 with h5 | h5
      · have c0 := hW.cell _ _ (tbl_low k h5).1
        clear hW
        refine Lib.hid ?_
        go_wp2
        (try simp only [Exit.inBlock, Exit.then])
        refine bodyPost_ret (v := .tuple #[.agg #[.nilFunc, .bool false], .bool false]) ?_ rfl ⟨⟨_, rfl, .inl ⟨by omega, rfl⟩⟩, ?_⟩
        · rw [results_cell_tmp rfl]
          go_simp
        · exact (H.out.below.setCell (Nat.le_refl _) _).setCell (Nat.le_refl _) _
      · obtain ⟨n, d, hF, hD⟩ := tbl_high k h5 h17
        have c0 := hW.cell _ _ hF
        have c1 := hW.cell _ _ hD
        have hf := eq_func n
        have HF := Lib.hid hF
        have HD := Lib.hid hD
        clear hW hF hD
        refine Lib.hid ?_
        go_wp2
        (try simp only [Exit.inBlock, Exit.then])
        refine bodyPost_ret (v := .tuple #[.agg #[.func (.func n) #[] #[], .bool d], .bool true]) ?_ rfl ⟨⟨_, rfl, .inr ⟨n, d, HF.out, HD.out, rfl⟩⟩, ?_⟩
        · rw [results_cell_tmp rfl]
          go_simp
        · exact (H.out.below.setCell (Nat.le_refl _) _).setCell (Nat.le_refl _) _
    · clear hW
      refine Lib.hid ?_
      go_wp2
      (try simp only [Exit.inBlock, Exit.then])
      refine bodyPost_ret (v := .tuple #[.agg #[.nilFunc, .bool false], .bool false]) ?_ rfl ⟨⟨_, rfl, .inl ⟨by omega, rfl⟩⟩, ?_⟩
      · rw [results_cell_tmp rfl]
        go_simp
      · exact (H.out.below.setCell (Nat.le_refl _) _).setCell (Nat.le_refl _) _

end Go.Proofs.Ytcoehkphdfejjaa

/-
  The program's Eval, Pure and Traps.
-/
namespace Go.Proofs.Ytcoehkphdfejjaa
open Go.RowKit

theorem got {x y : Option Value} {n m : Nat} {d c : Bool} (h1 : x = some (.func (.func n) #[] #[])) (h2 : y = some (.bool d)) (e1 : x = some (.func (.func m) #[] #[])) (e2 : y = some (.bool c)) : n = m ∧ d = c := by
  rw [h1] at e1
  rw [h2] at e2
  injection e1 with e1
  injection e1 with e1
  injection e1 with e1
  injection e2 with e2
  injection e2 with e2
  exact ⟨e1, e2⟩

set_option maxRecDepth 100000 in
theorem fun_any (k n : Nat) (d : Bool) (a b : Int) (w : World) (h5 : 5 ≤ k) (h17 : k ≤ 16) (hF : tbl[k * 2]? = some (.func (.func n) #[] #[])) (hD : tbl[k * 2 + 1]? = some (.bool d)) (ha : InI a) (hb : InI b) (h0 : ¬ (d = true ∧ b = 0)) :
    Calls Try.prog n #[.int .i64 a, .int .i64 b] w fun e w' => e = .returned (.int .i64 (bin k a b)) ∧ w = w' := by
  have : k = 5 ∨ k = 6 ∨ k = 7 ∨ k = 8 ∨ k = 9 ∨ k = 10 ∨ k = 11 ∨ k = 12 ∨ k = 13 ∨ k = 14 ∨ k = 15 ∨ k = 16 := by omega
  clear h5 h17
  rcases this with rfl | rfl | rfl | rfl | rfl | rfl | rfl | rfl | rfl | rfl | rfl | rfl
  · obtain ⟨rfl, rfl⟩ := got hF hD rfl rfl
    exact c1_any a b w ha hb
  · obtain ⟨rfl, rfl⟩ := got hF hD rfl rfl
    exact c2_any a b w ha hb
  · obtain ⟨rfl, rfl⟩ := got hF hD rfl rfl
    exact c3_any a b w ha hb
  · obtain ⟨rfl, rfl⟩ := got hF hD rfl rfl
    exact c4_any a b w ha hb (by simpa using h0)
  · obtain ⟨rfl, rfl⟩ := got hF hD rfl rfl
    exact c5_any a b w ha hb (by simpa using h0)
  · obtain ⟨rfl, rfl⟩ := got hF hD rfl rfl
    exact c6_any a b w
  · obtain ⟨rfl, rfl⟩ := got hF hD rfl rfl
    exact c7_any a b w
  · obtain ⟨rfl, rfl⟩ := got hF hD rfl rfl
    exact c8_any a b w
  · obtain ⟨rfl, rfl⟩ := got hF hD rfl rfl
    exact c9_any a b w ha
  · obtain ⟨rfl, rfl⟩ := got hF hD rfl rfl
    exact c10_any a b w ha
  · obtain ⟨rfl, rfl⟩ := got hF hD rfl rfl
    exact c11_any a b w
  · obtain ⟨rfl, rfl⟩ := got hF hD rfl rfl
    exact c12_any a b w

set_option maxRecDepth 100000 in
theorem call_any (k n : Nat) (d : Bool) (h5 : 5 ≤ k) (h17 : k ≤ 16) (hF : tbl[k * 2]? = some (.func (.func n) #[] #[])) (hD : tbl[k * 2 + 1]? = some (.bool d)) : ∀ args W, (callFunc n args).run Try.prog W = .ok (.enter n args) W := by
  have : k = 5 ∨ k = 6 ∨ k = 7 ∨ k = 8 ∨ k = 9 ∨ k = 10 ∨ k = 11 ∨ k = 12 ∨ k = 13 ∨ k = 14 ∨ k = 15 ∨ k = 16 := by omega
  clear h5 h17
  rcases this with rfl | rfl | rfl | rfl | rfl | rfl | rfl | rfl | rfl | rfl | rfl | rfl <;> obtain ⟨rfl, rfl⟩ := got hF hD rfl rfl <;> exact fun _ _ => by kernel_rfl

theorem dv_any (k n : Nat) (d : Bool) (h5 : 5 ≤ k) (h17 : k ≤ 16) (hF : tbl[k * 2]? = some (.func (.func n) #[] #[])) (hD : tbl[k * 2 + 1]? = some (.bool d)) : d = decide ((k : Int) = 8 ∨ (k : Int) = 9) := by
  have : k = 5 ∨ k = 6 ∨ k = 7 ∨ k = 8 ∨ k = 9 ∨ k = 10 ∨ k = 11 ∨ k = 12 ∨ k = 13 ∨ k = 14 ∨ k = 15 ∨ k = 16 := by omega
  clear h5 h17
  rcases this with rfl | rfl | rfl | rfl | rfl | rfl | rfl | rfl | rfl | rfl | rfl | rfl <;> exact (got hF hD rfl rfl).2

/-- The search's answer, in the walks' words. -/
theorem found_cases {op : Int} {v : Value} (h : found op v) (h1 : ¬ op = 1) (h2 : ¬ op = 2) (h3 : ¬ op = 3) (h4 : ¬ op = 4) :
    (v = .tuple #[.agg #[.nilFunc, .bool false], .bool false] ∧ (∀ b, evo op b = false) ∧ ∀ a b i, ev op a b i = 0) ∨
    ∃ (n : Nat) (d : Bool), v = .tuple #[.agg #[.func (.func n) #[] #[], .bool d], .bool true] ∧ d = decide (op = 8 ∨ op = 9) ∧ (∀ b, (d = true ∧ b = 0) → evo op b = false ∧ ∀ a i, ev op a b i = 0) ∧
      ∀ (a b : Int), InI a → InI b → ¬ (d = true ∧ b = 0) → evo op b = true ∧ (∀ args W, (callFunc n args).run Try.prog W = .ok (.enter n args) W) ∧ (∀ i w, Calls Try.prog n #[.int .i64 a, .int .i64 b] w fun e w' => e = .returned (.int .i64 (ev op a b i)) ∧ w = w') := by
  rcases h with ⟨h5, rfl⟩ | ⟨n, d, hF, hD, rfl⟩
  · exact .inl ⟨rfl, fun b => evo_out (by omega) b, fun a b i => ev_out (by omega) a b i⟩
  · right
    have hr : 5 ≤ op.toNat ∧ op.toNat ≤ 16 := by
      constructor
      · apply Decidable.byContradiction
        intro hlt
        have := (tbl_low op.toNat (by omega)).1
        rw [this] at hF
        cases hF
      · apply Decidable.byContradiction
        intro hlt
        rw [Array.getElem?_eq_none (by show 34 ≤ _; omega)] at hF
        cases hF
    obtain ⟨k, rfl⟩ := Int.eq_ofNat_of_zero_le (show 0 ≤ op by omega)
    have e : ((k : Int)).toNat = k := rfl
    rw [e] at hF hD hr
    have hd := dv_any k n d hr.1 hr.2 hF hD
    have hev : ∀ b, evo (k : Int) b = !(d && decide (b = 0)) := fun b => by
      unfold evo
      rw [← hd, decide_eq_true (by omega)]
      rfl
    refine ⟨n, d, rfl, hd, fun b hb => ?_, fun a b ha hb h0 => ?_⟩
    · obtain ⟨rfl, rfl⟩ := hb
      have h6 := hev 0
      refine ⟨h6, fun a i => ?_⟩
      unfold ev
      rw [h6, if_neg h1, if_neg h2, if_neg h3, if_neg h4]
      rfl
    · have h6 : evo (k : Int) b = true := by
        rw [hev]
        cases d
        · rfl
        · rw [decide_eq_false (fun hb => h0 ⟨rfl, hb⟩)]
          rfl
      refine ⟨h6, call_any k n d hr.1 hr.2 hF hD, fun i w => ?_⟩
      unfold ev
      rw [h6, if_neg h1, if_neg h2, if_neg h3, if_neg h4, if_pos rfl]
      exact fun_any k n d a b w hr.1 hr.2 hF hD ha hb h0

set_option maxRecDepth 100000 in
set_option maxHeartbeats 1000000 in
theorem eval_any (op a b i : Int) (w : World) (ha : InI a) (hb : InI b) :
    Calls Try.prog 64 #[.int .i64 op, .int .i64 a, .int .i64 b, .int .i64 i] w fun e w' => e = .returned (.tuple #[.int .i64 (ev op a b i), .bool (evo op b)]) ∧ Below w.heap.size w w' := by
  by_cases h1 : op = 1
  · subst h1
    rw [ev_1, show evo 1 b = true from rfl]
    go_enter Try.func64, Try.ntmps64
    go_wp2
    go_ret2
    exact ⟨rfl, Below.refl _ _⟩
  by_cases h2 : op = 2
  · subst h2
    rw [ev_2, show evo 2 b = true from rfl]
    go_enter Try.func64, Try.ntmps64
    go_wp2
    go_ret2
    exact ⟨rfl, Below.refl _ _⟩
  by_cases h3 : op = 3
  · subst h3
    rw [ev_3, show evo 3 b = true from rfl]
    obtain ⟨a0, a1⟩ := ha
    go_enter Try.func64, Try.ntmps64
    go_wp2
    go_ret2
    exact ⟨rfl, Below.refl _ _⟩
  by_cases h4 : op = 4
  · subst h4
    rw [ev_4, show evo 4 b = true from rfl]
    have hn := bits_not ha
    have hs : IntKind.i64.signed = true := rfl
    obtain ⟨v, hv⟩ : ∃ v, v = -a - 1 := ⟨_, rfl⟩
    rw [← hv] at hn ⊢
    clear hv
    obtain ⟨a0, a1⟩ := ha
    go_enter Try.func64, Try.ntmps64
    go_wp2
    go_ret2
    first | exact ⟨by rw [← hn]; rfl, Below.refl _ _⟩ | trace_state
  have e1 : (op == 1) = false := beq_eq_false_iff_ne.2 h1
  have e2 : (op == 2) = false := beq_eq_false_iff_ne.2 h2
  have e3 : (op == 3) = false := beq_eq_false_iff_ne.2 h3
  have e4 : (op == 4) = false := beq_eq_false_iff_ne.2 h4
  have H1 := Lib.hid h1; have H2 := Lib.hid h2; have H3 := Lib.hid h3; have H4 := Lib.hid h4
  clear h1 h2 h3 h4
  have HA := Lib.hid ha; have HB := Lib.hid hb
  clear ha hb
  go_enter Try.func64, Try.ntmps64
  go_wp2_with fail
  refine (find_any op w).mono ?_
  rintro e w1 ⟨⟨v, rfl, hv⟩, hbl⟩
  rcases found_cases hv H1.out H2.out H3.out H4.out with ⟨rfl, hv0, hv1⟩ | ⟨n, d, rfl, hd, hz, hf⟩
  · have HV := Lib.hid (hv0 b)
    have HW := Lib.hid (hv1 a b i)
    have HL := Lib.hid hbl
    clear hv hv0 hv1 hbl
    go_wp2
    go_ret2
    exact ⟨by rw [HV.out, HW.out]; rfl, HL.out.alloc HL.out.size _⟩
  · have HL := Lib.hid hbl
    clear hv hbl
    by_cases h0 : d = true ∧ b = 0
    · obtain ⟨r1, r2⟩ := hz b h0
      obtain ⟨rfl, rfl⟩ := h0
      have HV := Lib.hid r1
      have HW := Lib.hid (r2 a i)
      clear r1 r2 hz hf hd
      go_wp2
      go_ret2
      exact ⟨by rw [HV.out, HW.out]; rfl, HL.out.alloc HL.out.size _⟩
    · obtain ⟨r1, hK, r2⟩ := hf a b HA.out HB.out h0
      have hc := r2 i
      have HV := Lib.hid r1
      clear r1 r2 hz hf hd
      by_cases hdd : d = true
      · subst hdd
        have hb0 : (b == 0) = false := beq_eq_false_iff_ne.2 fun e => h0 ⟨rfl, e⟩
        clear h0
        go_wp2_with fail
        refine (hc _).mono ?_
        rintro e w2 ⟨rfl, rfl⟩
        go_wp2
        go_ret2
        exact ⟨by rw [HV.out]; rfl, HL.out.alloc HL.out.size _⟩
      · have hd0 : d = false := by cases d <;> simp_all
        subst hd0
        clear h0 hdd
        go_wp2_with fail
        refine (hc _).mono ?_
        rintro e w2 ⟨rfl, rfl⟩
        go_wp2
        go_ret2
        exact ⟨by rw [HV.out]; rfl, HL.out.alloc HL.out.size _⟩

/-- Eval in other words of the same result. -/
theorem eval_at (op a b i v : Int) (o : Bool) (w : World) (ha : InI a) (hb : InI b) (h1 : ev op a b i = v) (h2 : evo op b = o) :
    Calls Try.prog 64 #[.int .i64 op, .int .i64 a, .int .i64 b, .int .i64 i] w fun e w' => e = .returned (.tuple #[.int .i64 v, .bool o]) ∧ Below w.heap.size w w' := by
  subst h1; subst h2
  exact eval_any op a b i w ha hb

/-- Whether the search finds, and whether it divides. -/
theorem found_pure {op : Int} {v : Value} (h : found op v) : ∃ (f : Value) (d : Bool), v = .tuple #[.agg #[f, .bool d], .bool (decide (5 ≤ op ∧ op ≤ 16))] ∧ d = decide (op = 8 ∨ op = 9) ∧ (f = .nilFunc ∨ ∃ n, f = .func (.func n) #[] #[]) := by
  rcases h with ⟨h5, rfl⟩ | ⟨n, d, hF, hD, rfl⟩
  · exact ⟨_, _, by rw [decide_eq_false h5], (decide_eq_false (by omega)).symm, .inl rfl⟩
  · have hr : 5 ≤ op.toNat ∧ op.toNat ≤ 16 := by
      constructor
      · apply Decidable.byContradiction
        intro hlt
        have := (tbl_low op.toNat (by omega)).1
        rw [this] at hF
        cases hF
      · apply Decidable.byContradiction
        intro hlt
        rw [Array.getElem?_eq_none (by show 34 ≤ _; omega)] at hF
        cases hF
    obtain ⟨k, rfl⟩ := Int.eq_ofNat_of_zero_le (show 0 ≤ op by omega)
    have e : ((k : Int)).toNat = k := rfl
    rw [e] at hF hD hr
    exact ⟨_, _, by rw [decide_eq_true (by omega)], dv_any k n d hr.1 hr.2 hF hD, .inr ⟨n, rfl⟩⟩

end Go.Proofs.Ytcoehkphdfejjaa

/-
  Runs in memory; the reference's Values, Prefix, Same, Copy; Clone of a slice of integers.
-/
namespace Go.Proofs.Ytcoehkphdfejjaa
open Go.RowKit
set_option linter.unusedVariables false

/-- The slices of a run, each in a block of its own from lo on; the slots are empty. -/
structure RunV (w : World) (lo : Nat) (RA : Option Addr) (rc : Nat) (TA : Option Addr) (tc : Nat) (r : Rn) : Prop where
  regs : w.ownsRow lo 2 1 (.slice RA r.regs.length rc) r.regs.length (ints r.regs)
  trace : w.ownsRow lo 2 1 (.slice TA r.trace.length tc) r.trace.length (ints r.trace)
  ne : ∀ k, (Value.slice RA r.regs.length rc).ownBlock = some k → (Value.slice TA r.trace.length tc).ownBlock = some k → False

section
variable {w w' : World} {lo : Nat} {RA TA : Option Addr} {rc tc : Nat} {r : Rn}

theorem RunV.mods {S : Nat → Prop} (h : RunV w lo RA rc TA tc r) (hm : Mods S w w') (hS : ∀ k, S k → k < lo ∨ w.heap.size ≤ k) : RunV w' lo RA rc TA tc r :=
  ⟨hm.ownS h.regs fun k hk hs => by have := hS k hs; have := ownS_lt h.regs k hk; omega, hm.ownS h.trace fun k hk hs => by have := hS k hs; have := ownS_lt h.trace k hk; omega, h.ne⟩

theorem RunV.below (h : RunV w lo RA rc TA tc r) (hb : Below w.heap.size w w') : RunV w' lo RA rc TA tc r := h.mods (S := No) (Mods.of_below hb) fun _ h => h.elim

theorem RunV.base (h : RunV w lo RA rc TA tc r) {lo' : Nat} (hl : lo' ≤ lo) : RunV w lo' RA rc TA tc r := ⟨ownS_base h.regs hl, ownS_base h.trace hl, h.ne⟩

theorem RunV.srs (h : RunV w lo RA rc TA tc r) : Sees w w.heap.size RA (ints r.regs) := sees_own h.regs

theorem RunV.str (h : RunV w lo RA rc TA tc r) : Sees w w.heap.size TA (ints r.trace) := sees_own h.trace

theorem own_len {e : TypeId} {s n c : Nat} {A : Option Addr} {xs : List Value} (h : w.ownsRow lo e s (.slice A n c) n xs) : n ≤ c ∧ c ≤ maxLen := by
  obtain ⟨A', c', e, h1, h2⟩ := ownS_slice h
  injection e with _ _ e3
  subst e3
  exact ⟨h1, h2⟩

theorem own_none (w : World) (lo : Nat) (e : TypeId) (s : Nat) : w.ownsRow lo e s (.slice none 0 0) 0 [] := ⟨by simp, .inl ⟨rfl, rfl⟩⟩

theorem RunV.zero (w : World) (lo : Nat) : RunV w lo none 0 none 0 ⟨0, 0, 0, 0, [], [], 0⟩ := ⟨own_none w lo _ _, own_none w lo _ _, fun k hk => by simp [Value.ownBlock] at hk⟩

end

/-- What the functions that return a run leave: the run, in memory of its own. -/
def RunP (w : World) (r : Rn) (e : Ending) (w' : World) : Prop :=
  ∃ RA rc SA sc TA tc, e = .returned (.agg #[.int .i64 r.st, .int .i64 (r.blk : Int), .int .i64 (r.pos : Int), .int .i64 r.val, .slice RA r.regs.length rc, .slice SA 0 sc, .slice TA r.trace.length tc, .int .i64 (r.steps : Int)]) ∧ RunV w' w.heap.size RA rc TA tc r ∧ Below w.heap.size w w'

def RunQ (w : World) (r : Rn) (er : Int) (e : Ending) (w' : World) : Prop :=
  ∃ RA rc SA sc TA tc, e = .returned (.tuple #[.agg #[.int .i64 r.st, .int .i64 (r.blk : Int), .int .i64 (r.pos : Int), .int .i64 r.val, .slice RA r.regs.length rc, .slice SA 0 sc, .slice TA r.trace.length tc, .int .i64 (r.steps : Int)], .int .i64 er]) ∧ RunV w' w.heap.size RA rc TA tc r ∧ Below w.heap.size w w'

set_option maxRecDepth 100000 in
set_option maxHeartbeats 1000000 in
theorem vals_any (B : Nat) (A A' : Option Addr) (l r : List Int) (c c' : Nat) (w : World) (hs : Sees w B A (ints l)) (hs' : Sees w B A' (ints r)) (hm : l.length ≤ maxLen) (hm' : r.length ≤ maxLen) :
    Calls Try.prog 18 #[.slice A l.length c, .slice A' r.length c'] w fun e w' => e = .returned (.bool (sameI l r)) ∧ ∃ n, w.drewN n = w' := by
  unfold maxLen at hm hm'
  by_cases hlen : l.length = r.length
  · have e1 : ((l.length : Int) != (r.length : Int)) = false := by simp [hlen]
    have HL := Lib.hid hlen
    clear hlen
    go_enter Try.func18, Try.ntmps18
    go_wp2
    go_loopw [5] (fun i wr => ∃ k n : Nat, k ≤ l.length ∧ i = .int .i64 k ∧ Hid (l.take k = r.take k) ∧ wr = w.drewN n) (fun i _ => l.length - (intOf i).toNat)
    case atStart => exact ⟨0, 0, Nat.zero_le _, rfl, by simp [Hid], rfl⟩
    case round =>
      obtain ⟨k, n, hk, rfl, HT, rfl⟩ := hrel
      by_cases hlt : k < l.length
      · have hltr : k < r.length := by have := HL.out; omega
        obtain ⟨b, o, rfl, _, hcell⟩ := ints_at hs hlt
        obtain ⟨b', o', rfl, _, hcell'⟩ := ints_at hs' hltr
        have HS := fun he => sameI_step HT.out hlt hltr he
        have HN : l[k] ≠ r[k] → l ≠ r := fun h e => by subst e; exact h rfl
        clear hs hs' HT
        generalize l[k] = x at hcell HS HN
        generalize r[k] = y at hcell' HS HN
        by_cases hxy : x = y
        · have HS' := Lib.hid (HS hxy)
          subst hxy
          have e2 : (x != x) = false := by simp
          clear HS HN
          go_wp2
          go_quiet (fail)
          go_wp2
          go_roundw
          case rel => exact ⟨k + 1, _, by omega, by go_num, HS'.out, rfl⟩
          case measure => simp [intOf]; omega
        · have HE := Lib.hid (sameI_no (HN hxy))
          have e2 : (x != y) = true := by simp [hxy]
          clear HS HN hxy
          go_wp2
          go_quiet (fail)
          go_wp2
          go_ret
          exact ⟨by rw [HE.out]; rfl, _, (World.drewN_drewN _ _ _).symm⟩
      · have HE := Lib.hid (sameI_yes (sameI_end HL.out (by omega) HT.out))
        clear HT hs hs'
        go_wp2
        go_ret
        exact ⟨by rw [HE.out]; rfl, _, rfl⟩
  · have HE := Lib.hid (sameI_no (l := l) (r := r) (fun e => hlen (by rw [e])))
    have e1 : ((l.length : Int) != (r.length : Int)) = true := by simp; omega
    clear hlen
    go_enter Try.func18, Try.ntmps18
    go_wp2
    go_ret
    exact ⟨by rw [HE.out]; rfl, 0, rfl⟩

theorem vals_at {W : World} (B : Nat) {A A' : Option Addr} (l : List Int) (n c c' : Nat) (hl : l.length = n) (hs : Sees W B A (ints l)) (hs' : Sees W B A' (ints l)) (hm : n ≤ maxLen) :
    Calls Try.prog 18 #[.slice A n c, .slice A' n c'] W fun e w' => e = .returned (.bool true) ∧ ∃ n, W.drewN n = w' := by
  subst hl
  have := vals_any B A A' l l c c' W hs hs' hm hm
  rwa [sameI_self] at this

end Go.Proofs.Ytcoehkphdfejjaa

/-
  The reference's Same and Copy; Clone of a slice of integers.
-/
namespace Go.Proofs.Ytcoehkphdfejjaa
open Go.RowKit
set_option linter.unusedVariables false

/-- A copy of integers, in memory of its own. -/
def OwnP (w : World) (l : List Int) (e : Ending) (w' : World) : Prop :=
  ∃ A c, e = .returned (.slice A l.length c) ∧ w'.ownsRow w.heap.size 2 1 (.slice A l.length c) l.length (ints l) ∧ Below w.heap.size w w'

end Go.Proofs.Ytcoehkphdfejjaa

/-
  The reference's Copy of a run.
-/
namespace Go.Proofs.Ytcoehkphdfejjaa
open Go.RowKit
set_option linter.unusedVariables false

section
variable {w W W' : World} {p B : Nat} {T : TypeId} {z0 z1 z2 z3 z4 z5 z6 z7 : Value}

theorem Row.put8 (h : Row W p T #[z0, z1, z2, z3, z4, z5, z6, z7]) (a0 a1 a2 a3 a4 a5 a6 a7 : Value) :
    Row ((((((((W.setCell ⟨p, 0, none⟩ a0).setCell ⟨p, 1, none⟩ a1).setCell ⟨p, 2, none⟩ a2).setCell ⟨p, 3, none⟩ a3).setCell ⟨p, 4, none⟩ a4).setCell ⟨p, 5, none⟩ a5).setCell ⟨p, 6, none⟩ a6).setCell ⟨p, 7, none⟩ a7) p T #[a0, a1, a2, a3, a4, a5, a6, a7] := by
  have q0 : Row _ p T #[a0, z1, z2, z3, z4, z5, z6, z7] := h.put 0 a0
  have q1 : Row _ p T #[a0, a1, z2, z3, z4, z5, z6, z7] := q0.put 1 a1
  have q2 : Row _ p T #[a0, a1, a2, z3, z4, z5, z6, z7] := q1.put 2 a2
  have q3 : Row _ p T #[a0, a1, a2, a3, z4, z5, z6, z7] := q2.put 3 a3
  have q4 : Row _ p T #[a0, a1, a2, a3, a4, z5, z6, z7] := q3.put 4 a4
  have q5 : Row _ p T #[a0, a1, a2, a3, a4, a5, z6, z7] := q4.put 5 a5
  have q6 : Row _ p T #[a0, a1, a2, a3, a4, a5, a6, z7] := q5.put 6 a6
  exact q6.put 7 a7

theorem mods8 (W : World) (p : Nat) (a0 a1 a2 a3 a4 a5 a6 a7 : Value) :
    Mods (Is p) W ((((((((W.setCell ⟨p, 0, none⟩ a0).setCell ⟨p, 1, none⟩ a1).setCell ⟨p, 2, none⟩ a2).setCell ⟨p, 3, none⟩ a3).setCell ⟨p, 4, none⟩ a4).setCell ⟨p, 5, none⟩ a5).setCell ⟨p, 6, none⟩ a6).setCell ⟨p, 7, none⟩ a7) :=
  ((((((((Mods.refl _ W).put 0 a0).put 1 a1).put 2 a2).put 3 a3).put 4 a4).put 5 a5).put 6 a6).put 7 a7

theorem blw8 (hp : B ≤ p) (h : Below B w W) (a0 a1 a2 a3 a4 a5 a6 a7 : Value) :
    Below B w ((((((((W.setCell ⟨p, 0, none⟩ a0).setCell ⟨p, 1, none⟩ a1).setCell ⟨p, 2, none⟩ a2).setCell ⟨p, 3, none⟩ a3).setCell ⟨p, 4, none⟩ a4).setCell ⟨p, 5, none⟩ a5).setCell ⟨p, 6, none⟩ a6).setCell ⟨p, 7, none⟩ a7) :=
  (((((((h.setCell (p := ⟨p, 0, none⟩) hp a0).setCell (p := ⟨p, 1, none⟩) hp a1).setCell (p := ⟨p, 2, none⟩) hp a2).setCell (p := ⟨p, 3, none⟩) hp a3).setCell (p := ⟨p, 4, none⟩) hp a4).setCell (p := ⟨p, 5, none⟩) hp a5).setCell (p := ⟨p, 6, none⟩) hp a6).setCell (p := ⟨p, 7, none⟩) hp a7

end

/-- What Copy carries: the boxes, the copy with the slices x, y, z so far. -/
structure CpS (w : World) (r : Rn) (RA : Option Addr) (rc : Nat) (SA : Option Addr) (sc : Nat) (TA : Option Addr) (tc : Nat) (x y z : Value) (W : World) : Prop where
  below : Below w.heap.size w W
  box : Row W w.heap.size 54 #[.int .i64 r.st, .int .i64 (r.blk : Int), .int .i64 (r.pos : Int), .int .i64 r.val, .slice RA r.regs.length rc, .slice SA 0 sc, .slice TA r.trace.length tc, .int .i64 (r.steps : Int)]
  res : Row W (w.heap.size + 1) 54 #[.int .i64 0, .int .i64 0, .int .i64 0, .int .i64 0, .slice none 0 0, .slice none 0 0, .slice none 0 0, .int .i64 0]
  out : Row W (w.heap.size + 1 + 1) 54 #[.int .i64 r.st, .int .i64 (r.blk : Int), .int .i64 (r.pos : Int), .int .i64 r.val, x, y, z, .int .i64 (r.steps : Int)]

section
variable {w W W' : World} {r : Rn} {RA SA TA : Option Addr} {rc sc tc : Nat} {x y z : Value}

theorem CpS.next (h : CpS w r RA rc SA sc TA tc x y z W) (hb : Below W.heap.size W W') : CpS w r RA rc SA sc TA tc x y z W' :=
  ⟨h.below.trans (hb.mono h.below.size), h.box.below hb h.box.lt, h.res.below hb h.res.lt, h.out.below hb h.out.lt⟩

theorem CpS.put4 (h : CpS w r RA rc SA sc TA tc x y z W) (u : Value) : CpS w r RA rc SA sc TA tc u y z (W.setCell ⟨w.heap.size + 1 + 1, 4, none⟩ u) :=
  ⟨h.below.setCell (by show _ ≤ w.heap.size + 1 + 1; omega) _, h.box.far (by show _ ≠ w.heap.size + 1 + 1; omega) _, h.res.far (by show _ ≠ w.heap.size + 1 + 1; omega) _, h.out.put 4 u⟩

theorem CpS.put5 (h : CpS w r RA rc SA sc TA tc x y z W) (u : Value) : CpS w r RA rc SA sc TA tc x u z (W.setCell ⟨w.heap.size + 1 + 1, 5, none⟩ u) :=
  ⟨h.below.setCell (by show _ ≤ w.heap.size + 1 + 1; omega) _, h.box.far (by show _ ≠ w.heap.size + 1 + 1; omega) _, h.res.far (by show _ ≠ w.heap.size + 1 + 1; omega) _, h.out.put 5 u⟩

theorem CpS.put6 (h : CpS w r RA rc SA sc TA tc x y z W) (u : Value) : CpS w r RA rc SA sc TA tc x y u (W.setCell ⟨w.heap.size + 1 + 1, 6, none⟩ u) :=
  ⟨h.below.setCell (by show _ ≤ w.heap.size + 1 + 1; omega) _, h.box.far (by show _ ≠ w.heap.size + 1 + 1; omega) _, h.res.far (by show _ ≠ w.heap.size + 1 + 1; omega) _, h.out.put 6 u⟩

theorem CpS.start (w : World) (r : Rn) (RA : Option Addr) (rc : Nat) (SA : Option Addr) (sc : Nat) (TA : Option Addr) (tc : Nat) :
    CpS w r RA rc SA sc TA tc (.slice RA r.regs.length rc) (.slice SA 0 sc) (.slice TA r.trace.length tc) (((w.alloc (.cells #[.int .i64 r.st, .int .i64 (r.blk : Int), .int .i64 (r.pos : Int), .int .i64 r.val, .slice RA r.regs.length rc, .slice SA 0 sc, .slice TA r.trace.length tc, .int .i64 (r.steps : Int)] 54)).alloc (.cells #[.int .i64 0, .int .i64 0, .int .i64 0, .int .i64 0, .slice none 0 0, .slice none 0 0, .slice none 0 0, .int .i64 0] 54)).alloc (.cells #[.int .i64 r.st, .int .i64 (r.blk : Int), .int .i64 (r.pos : Int), .int .i64 r.val, .slice RA r.regs.length rc, .slice SA 0 sc, .slice TA r.trace.length tc, .int .i64 (r.steps : Int)] 54)) where
  below := (((Below.refl w.heap.size w).alloc (Nat.le_refl _) _).alloc (by simp) _).alloc (by simp; omega) _
  box := ((Row.new w _ _).alloc _).alloc _
  res := (Row.new' (p := w.heap.size + 1) (by simp) _ _).alloc _
  out := Row.new' (p := w.heap.size + 1 + 1) (by simp) _ _

end

/-- Memory behind an append to an empty new slice. -/
theorem app_new {w W : World} {l : List Int} {n : Nat} {v : Value} (hl : l.length = n) (ho2 : W.ownsRow w.heap.size 2 1 v n (ints l)) (hg : World.grownBy (w.alloc (.cells #[] 2)) W (Value.slice (some ⟨w.heap.size, 0, none⟩) 0 0).ownBlock) :
    ∃ A c, v = .slice A n c ∧ W.ownsRow w.heap.size 2 1 (.slice A n c) n (ints l) ∧ Below w.heap.size w W := by
  have hb1 : Below w.heap.size w W := ((Below.refl _ _).alloc (Nat.le_refl _) _).grown hg (by simp) (fun k hk => by simp [Value.ownBlock] at hk; omega)
  obtain ⟨A1, c1, rfl, _, _⟩ := ownS_slice ho2
  exact ⟨A1, c1, rfl, ho2, hb1⟩

end Go.Proofs.Ytcoehkphdfejjaa

/-
  Slices of integers that a call owns: small laws.
-/
namespace Go.Proofs.Ytcoehkphdfejjaa
open Go.RowKit
set_option linter.unusedVariables false

theorem own_row_ne {w : World} {lo n p : Nat} {e T : TypeId} {v : Value} {xs : List Value} {cs : Array Value} (h : w.ownsRow lo e 1 v n xs) (hr : Row w p T cs) (hT : e ≠ T) : ∀ k, v.ownBlock = some k → k ≠ p := by
  intro k hk e1
  subst e1
  rcases h.2 with ⟨rfl, _⟩ | ⟨a, cap, cur, rfl, _, h1, _⟩
  · cases hk
  · simp only [Value.ownBlock, Option.some.injEq] at hk
    subst hk
    unfold Row at hr
    rw [h1] at hr
    simp only [Option.some.injEq, Obj.cells.injEq] at hr
    exact hT hr.2.1

theorem regs_at {w : World} {lo : Nat} {e : TypeId} {c n k : Nat} {l : List Int} {A : Option Addr} (h : w.ownsRow lo e 1 (.slice A n c) n (ints l)) (hk : k < l.length) : ∃ g, A = some ⟨g, 0, none⟩ ∧ w.cell? ⟨g, k, none⟩ = some (.int .i64 (rg l (k : Int))) := by
  rw [rg_nat hk]
  rcases h.2 with ⟨h0, h1⟩ | ⟨g, cap, cur, hv, _, hg, _⟩
  · have := h.1
    rw [ints_length] at this
    injection h0 with _ h2 _
    omega
  · injection hv with hA
    subst hA
    exact ⟨g, rfl, by have := h.cells (g := g) rfl k _ (ints_get hk); simpa [Addr.add_lit] using this⟩

theorem blwq {B q : Nat} {a W : World} (h : Below B a W) (hq : B ≤ q) (i : Nat) (u : Value) : Below B a (W.setCell ⟨q, i, none⟩ u) := h.setCell (p := ⟨q, i, none⟩) hq u

end Go.Proofs.Ytcoehkphdfejjaa

/-
  The reference's Start.
-/
namespace Go.Proofs.Ytcoehkphdfejjaa
open Go.RowKit
set_option linter.unusedVariables false

/-- What the loop carries: the boxes, the run with k registers so far. -/
structure RsS (w : World) (args regs : Int) (FA : Option Addr) (bl bc : Nat) (p : Nat) (l : List Int) (v : Value) (W : World) : Prop where
  below : Below w.heap.size w W
  lt : w.heap.size + 1 < p
  box : Row W w.heap.size 24 #[.int .i64 args, .int .i64 regs, .slice FA bl bc]
  res : Row W (w.heap.size + 1) 54 #[.int .i64 0, .int .i64 0, .int .i64 0, .int .i64 0, .slice none 0 0, .slice none 0 0, .slice none 0 0, .int .i64 0]
  out : Row W p 54 #[.int .i64 0, .int .i64 0, .int .i64 0, .int .i64 0, v, .slice none 0 0, .slice none 0 0, .int .i64 0]
  own : W.ownsRow (w.heap.size + 1 + 1) 2 1 v l.length (ints l)

theorem RsS.step {w wr W : World} {args regs : Int} {FA : Option Addr} {bl bc p : Nat} {l l' : List Int} {v v' : Value} (h : RsS w args regs FA bl bc p l v wr) (o : Obj) (hg : (wr.alloc o).grownBy W v.ownBlock) (ho : W.ownsRow (w.heap.size + 1 + 1) 2 1 v' l'.length (ints l')) :
    Row W p 54 #[.int .i64 0, .int .i64 0, .int .i64 0, .int .i64 0, v, .slice none 0 0, .slice none 0 0, .int .i64 0] ∧ RsS w args regs FA bl bc p l' v' (W.setCell ⟨p, 4, none⟩ v') := by
  have hne := own_row_ne h.own h.out (by decide)
  have hlt := h.lt
  have hb : Below (w.heap.size + 1 + 1) wr W := ((Below.refl _ wr).alloc (by have := h.out.lt; omega) o).grown hg (by have := h.out.lt; simp; omega) fun k hk => (ownS_lt h.own k hk).1
  have hr : Row W p 54 #[.int .i64 0, .int .i64 0, .int .i64 0, .int .i64 0, v, .slice none 0 0, .slice none 0 0, .int .i64 0] :=
    (hg.block p (by have := h.out.lt; simp; omega) fun e => hne p e.symm rfl).trans (h.out.alloc o)
  have hne2 := own_row_ne ho hr (by decide)
  refine ⟨hr, (h.below.trans (hb.mono (by omega))).setCell (by show _ ≤ p; omega) _, h.lt, (h.box.below hb (by omega)).far (by show _ ≠ p; omega) _, (h.res.below hb (by omega)).far (by show _ ≠ p; omega) _, hr.put 4 v', ((Mods.refl (Is p) W).put 4 v').ownS ho fun k hk hs => hne2 k hk hs⟩

end Go.Proofs.Ytcoehkphdfejjaa

/-
  The program's Start.
-/
namespace Go.Proofs.Ytcoehkphdfejjaa
open Go.RowKit
set_option linter.unusedVariables false

abbrev zrun : Rn := ⟨0, 0, 0, 0, [], [], 0⟩

set_option maxRecDepth 100000 in
set_option maxHeartbeats 2000000 in
theorem start_bad (na : Nat) (args : List Int) (regs : Int) (FA AA : Option Addr) (bl bc ac : Nat) (fa : Int) (w : World) (h : ¬ (na : Int) = fa) (hm : na ≤ maxLen) :
    Calls Try.prog 37 #[.agg #[.int .i64 fa, .int .i64 regs, .slice FA bl bc], .slice AA na ac] w (RunQ w zrun 32) := by
  have e1 : ((na : Int) != fa) = true := by simp [h]
  unfold maxLen at hm
  have HB := Lib.hid (((Below.refl w.heap.size w).alloc (Nat.le_refl _) (.cells #[.int .i64 fa, .int .i64 regs, .slice FA bl bc] 24)).alloc (by simp) (.cells #[.int .i64 0, .int .i64 0, .int .i64 0, .int .i64 0, .slice none 0 0, .slice none 0 0, .slice none 0 0, .int .i64 0] 54))
  clear h
  go_enter Try.func37, Try.ntmps37
  go_wp2
  (try simp only [Exit.inBlock, Exit.then])
  refine bodyPost_ret (v := .tuple #[.agg #[.int .i64 0, .int .i64 0, .int .i64 0, .int .i64 0, .slice none 0 0, .slice none 0 0, .slice none 0 0, .int .i64 0], .int .i64 32]) ?_ rfl ⟨none, 0, none, 0, none, 0, rfl, RunV.zero _ _, HB.out⟩
  rw [results_cell_tmp rfl]
  go_simp

set_option maxRecDepth 100000 in
set_option maxHeartbeats 2000000 in
theorem start_any (args : List Int) (n : Nat) (B : Nat) (FA AA : Option Addr) (bl bc ac : Nat) (w : World) (hs : Sees w B AA (ints args)) (hB : B ≤ w.heap.size) (hn : n ≤ 1000) (hl : args.length ≤ n) :
    Calls Try.prog 37 #[.agg #[.int .i64 args.length, .int .i64 n, .slice FA bl bc], .slice AA args.length ac] w (RunQ w (rn0 n args) 0) := by
  have hmk := fun w => run_make_row' (P := Try.prog) 51 2 (.int .i64 0) 8 Try.underlying51 infoI64 rfl .i64 .i64 n (by omega) (by omega) w
  have e1 : ((args.length : Int) != (args.length : Int)) = false := by simp
  have hbl0 : Below w.heap.size w ((w.alloc (.cells #[.int .i64 args.length, .int .i64 n, .slice FA bl bc] 24)).alloc (.cells #[.int .i64 0, .int .i64 0, .int .i64 0, .int .i64 0, .slice none 0 0, .slice none 0 0, .slice none 0 0, .int .i64 0] 54)) := ((Below.refl _ w).alloc (Nat.le_refl _) _).alloc (by simp) _
  have hbox := (Row.new w 24 #[.int .i64 args.length, .int .i64 n, .slice FA bl bc]).alloc (.cells #[.int .i64 0, .int .i64 0, .int .i64 0, .int .i64 0, .slice none 0 0, .slice none 0 0, .slice none 0 0, .int .i64 0] 54)
  have hres := Row.new' (W := w.alloc (.cells #[.int .i64 args.length, .int .i64 n, .slice FA bl bc] 24)) (p := w.heap.size + 1) (by simp) 54 #[.int .i64 0, .int .i64 0, .int .i64 0, .int .i64 0, .slice none 0 0, .slice none 0 0, .slice none 0 0, .int .i64 0]
  have hs1 := ((hs.more hB).below hbl0)
  clear hs
  go_enter Try.func37, Try.ntmps37
  go_upto_region 1 with fail
  generalize ((w.alloc (.cells #[.int .i64 args.length, .int .i64 n, .slice FA bl bc] 24)).alloc (.cells #[.int .i64 0, .int .i64 0, .int .i64 0, .int .i64 0, .slice none 0 0, .slice none 0 0, .slice none 0 0, .int .i64 0] 54)) = W0 at *
  have d0 := hbox.cell 0; have d1 := hbox.cell 1
  simp only [List.getElem?_toArray, List.getElem?_cons_zero, List.getElem?_cons_succ] at d0 d1
  go_upto_region 4 with fail
  have hmade : (W0.alloc (.cells (madeCells #[.int .i64 0] n) 2)).heap[W0.heap.size]? = some (.cells (List.replicate n (Value.int .i64 0)).toArray 2 (0, 0)) := by
    rw [← toList_madeCells_one, Array.toArray_toList]
    exact heap_alloc_new W0 _
  have hb01 : Below W0.heap.size W0 (W0.alloc (.cells (madeCells #[.int .i64 0] n) 2)) := (Below.refl _ _).alloc (Nat.le_refl _) _
  have hlo : w.heap.size + 1 + 1 ≤ W0.heap.size := hres.lt
  have HB0 := Lib.hid hbl0
  have HX := Lib.hid hmade
  have HB1 := Lib.hid hb01
  have HS := Lib.hid hs1
  have HR := Lib.hid hres
  clear hmade hb01 hs1 hres hbox hbl0 hmk d0 d1
  generalize W0.alloc (.cells (madeCells #[.int .i64 0] n) 2) = W1 at *
  go_wp2_with (refine wpList_copy_splice rfl (.tmp 16) (.tmp 17) 51 51 rfl 2 Try.underlying51 (by kernel_rfl) (some ⟨W0.heap.size, 0, none⟩) AA n n args.length ac rfl rfl W0.heap.size 0 (List.replicate n (Value.int .i64 0)) 2 HX.out (ints args) ?k1 ?k3 ?k2 (ints_one _) W0.heap.size W0 HB1.out (Nat.le_refl _) ?_)
  case k1 => rw [ints_length]; exact (Nat.min_eq_left hl).symm
  case k2 => rw [ints_length, List.length_replicate]; omega
  case k3 =>
    intro h0
    obtain ⟨b, o, rfl, hb, hc⟩ := HS.out (fun e => by rw [e] at h0; simp at h0)
    first | refine ⟨rfl, _, rfl, fun j v hv => ?_⟩ | refine ⟨_, rfl, fun j v hv => ?_⟩
    rw [Addr.add_lit]
    exact (HB1.out.cell (p := ⟨b, o + j, none⟩) (show b < W0.heap.size by omega)).trans (hc j v hv)
  intro W2 HG hb2
  have hres2 := HR.out.below hb2 HR.out.lt
  have g0 := hres2.cell 0; have g1 := hres2.cell 1; have g2 := hres2.cell 2; have g3 := hres2.cell 3; have g4 := hres2.cell 4; have g5 := hres2.cell 5; have g6 := hres2.cell 6; have g7 := hres2.cell 7
  have r0 := hres2.frozen 0; have r1 := hres2.frozen 1; have r2 := hres2.frozen 2; have r3 := hres2.frozen 3; have r4 := hres2.frozen 4; have r5 := hres2.frozen 5; have r6 := hres2.frozen 6; have r7 := hres2.frozen 7
  simp only [List.getElem?_toArray, List.getElem?_cons_zero, List.getElem?_cons_succ] at g0 g1 g2 g3 g4 g5 g6 g7
  have hsp : splice (List.replicate n (Value.int .i64 0)) 0 (ints args) = ints (rn0 n args).regs := by
    show List.take 0 _ ++ (ints args ++ List.drop (0 + (ints args).length) _) = ints (args ++ List.replicate (n - args.length) 0)
    rw [ints_append, List.take_zero, List.nil_append, List.drop_replicate, Nat.zero_add, ints_length]
    simp [ints]
  have hrl : (rn0 n args).regs.length = n := by show (args ++ List.replicate (n - args.length) 0).length = n; rw [List.length_append, List.length_replicate]; omega
  have hown : W2.ownsRow (w.heap.size + 1 + 1) 2 1 (.slice (some ⟨W0.heap.size, 0, none⟩) n n) n (ints (rn0 n args).regs) := by
    have h1 := HG.out
    rw [hsp] at h1
    exact ⟨by rw [ints_length, hrl]; omega, .inr ⟨W0.heap.size, n, (ints (rn0 n args).regs).toArray, rfl, hlo, h1, Nat.le_refl _, by unfold maxLen; omega, by simp [ints_length, hrl], by rw [Nat.mul_one]; simp [List.take_of_length_le, ints_length, hrl]⟩⟩
  have HO := Lib.hid hown
  have HR2 := Lib.hid hres2
  have HB2 := Lib.hid (HB0.out.trans (hb2.mono (by omega)))
  have HL := Lib.hid hrl
  clear hown hres2 hrl hsp HG hb2 HX HB1
  go_wp2
  (try simp only [Exit.inBlock, Exit.then])
  refine bodyPost_ret (v := .tuple #[.agg #[.int .i64 0, .int .i64 0, .int .i64 0, .int .i64 0, .slice (some ⟨W0.heap.size, 0, none⟩) n n, .slice none 0 0, .slice none 0 0, .int .i64 0], .int .i64 0]) ?_ rfl ⟨some ⟨W0.heap.size, 0, none⟩, n, none, 0, none, 0, by rw [HL.out]; rfl, ⟨?_, own_none _ _ _ _, fun k _ hk => by simp [Value.ownBlock] at hk⟩, ?_⟩
  · rw [results_cell_tmp rfl]
    go_simp
  · rw [HL.out]
    exact ownS_base ((mods8 W2 (w.heap.size + 1) _ _ _ _ _ _ _ _).ownS HO.out fun k hk hs => by have := ownS_lt HO.out k hk; unfold Is at hs; omega) (by omega)
  · exact blw8 (by omega) HB2.out _ _ _ _ _ _ _ _

end Go.Proofs.Ytcoehkphdfejjaa

/-
  The program's interpreter in memory.
-/
namespace Go.Proofs.Ytcoehkphdfejjaa
open Go.RowKit
set_option linter.unusedVariables false

/-- The interpreter at block q with the run r; the run's slices lie from block lo on. -/
structure Ip (w : World) (lo q : Nat) (RA : Option Addr) (rc : Nat) (SA : Option Addr) (sc : Nat) (TA : Option Addr) (tc : Nat) (BA : Option Addr) (bl bc : Nat) (r : Rn) : Prop where
  row : Row w q 81 #[.int .i64 r.st, .int .i64 (r.blk : Int), .int .i64 (r.pos : Int), .int .i64 r.val, .slice RA r.regs.length rc, .slice SA 0 sc, .slice TA r.trace.length tc, .int .i64 (r.steps : Int), .slice BA bl bc]
  v : RunV w lo RA rc TA tc r
  lt : lo ≤ q

/-- What the interpreter's methods leave. -/
def IpP (w : World) (lo q : Nat) (SA : Option Addr) (sc : Nat) (BA : Option Addr) (bl bc : Nat) (r : Rn) (w' : World) : Prop :=
  ∃ RA rc TA tc, Ip w' lo q RA rc SA sc TA tc BA bl bc r ∧ Below lo w w'

section
variable {w w' : World} {lo q : Nat} {RA SA TA BA : Option Addr} {rc sc tc bl bc : Nat} {r : Rn}

theorem Ip.nr (h : Ip w lo q RA rc SA sc TA tc BA bl bc r) : ∀ k, (Value.slice RA r.regs.length rc).ownBlock = some k → k ≠ q := own_row_ne h.v.regs h.row (by decide)

theorem Ip.nt (h : Ip w lo q RA rc SA sc TA tc BA bl bc r) : ∀ k, (Value.slice TA r.trace.length tc).ownBlock = some k → k ≠ q := own_row_ne h.v.trace h.row (by decide)

theorem Ip.next (h : Ip w lo q RA rc SA sc TA tc BA bl bc r) (hb : Below w.heap.size w w') : Ip w' lo q RA rc SA sc TA tc BA bl bc r := ⟨h.row.below hb h.row.lt, h.v.below hb, h.lt⟩

theorem Ip.drewN (h : Ip w lo q RA rc SA sc TA tc BA bl bc r) (n : Nat) : Ip (w.drewN n) lo q RA rc SA sc TA tc BA bl bc r := h.next (blw_drewN (Below.refl _ _) n)

theorem Ip.drew (h : Ip w lo q RA rc SA sc TA tc BA bl bc r) : Ip w.drew lo q RA rc SA sc TA tc BA bl bc r := h.drewN 1

theorem vput (h : Ip w lo q RA rc SA sc TA tc BA bl bc r) (i : Nat) (u : Value) : RunV (w.setCell ⟨q, i, none⟩ u) lo RA rc TA tc r :=
  have hm := (Mods.refl (Is q) w).put i u
  ⟨hm.ownS h.v.regs fun k hk hs => h.nr k hk hs, hm.ownS h.v.trace fun k hk hs => h.nt k hk hs, h.v.ne⟩

theorem Below.put27 {B : Nat} {a W : World} {q : Nat} (h : Below B a W) (hq : B ≤ q) (u v : Value) : Below B a ((W.setCell ⟨q, 2, none⟩ u).setCell ⟨q, 7, none⟩ v) := (h.setCell (p := ⟨q, 2, none⟩) hq u).setCell (p := ⟨q, 7, none⟩) hq v

/-- One more instruction, one more step. -/
theorem Ip.tick (h : Ip w lo q RA rc SA sc TA tc BA bl bc r) : Ip ((w.setCell ⟨q, 2, none⟩ (.int .i64 ((r.pos + 1 : Nat) : Int))).setCell ⟨q, 7, none⟩ (.int .i64 ((r.steps + 1 : Nat) : Int))) lo q RA rc SA sc TA tc BA bl bc { r with pos := r.pos + 1, steps := r.steps + 1 } := by
  have h1 : Ip (w.setCell ⟨q, 2, none⟩ (.int .i64 ((r.pos + 1 : Nat) : Int))) lo q RA rc SA sc TA tc BA bl bc { r with pos := r.pos + 1 } := ⟨h.row.put 2 _, ⟨(vput h 2 _).regs, (vput h 2 _).trace, h.v.ne⟩, h.lt⟩
  exact ⟨h1.row.put 7 _, ⟨(vput h1 7 _).regs, (vput h1 7 _).trace, h.v.ne⟩, h.lt⟩

/-- The trace with one value more. -/
theorem Ip.app {W : World} (h : Ip w lo q RA rc SA sc TA tc BA bl bc r) (x : Int) (o : Obj) (hg : (w.alloc o).grownBy W (Value.slice TA r.trace.length tc).ownBlock) {A1 : Option Addr} {c1 : Nat}
    (ho : W.ownsRow lo 2 1 (.slice A1 (r.trace.length + 1) c1) (r.trace.length + 1) (ints (r.trace ++ [x]))) (ha : (Value.slice A1 (r.trace.length + 1) c1).ownBlock = (Value.slice TA r.trace.length tc).ownBlock ∨ (Value.slice A1 (r.trace.length + 1) c1).ownBlock = some (w.alloc o).heap.size) :
    Row W q 81 #[.int .i64 r.st, .int .i64 (r.blk : Int), .int .i64 (r.pos : Int), .int .i64 r.val, .slice RA r.regs.length rc, .slice SA 0 sc, .slice TA r.trace.length tc, .int .i64 (r.steps : Int), .slice BA bl bc] ∧
    Ip (W.setCell ⟨q, 6, none⟩ (.slice A1 (r.trace.length + 1) c1)) lo q RA rc SA sc A1 c1 BA bl bc { r with trace := r.trace ++ [x] } ∧ Below lo w (W.setCell ⟨q, 6, none⟩ (.slice A1 (r.trace.length + 1) c1)) := by
  have hql := h.row.lt
  have hlq := h.lt
  have hb : ∀ k, k < w.heap.size → (∀ j, (Value.slice TA r.trace.length tc).ownBlock = some j → ¬ k = j) → W.heap[k]? = w.heap[k]? := fun k hk hn =>
    (hg.block k (by simp; omega) fun e => hn _ e.symm rfl).trans (Below.heap_alloc w o k hk)
  have hrow : Row W q 81 #[.int .i64 r.st, .int .i64 (r.blk : Int), .int .i64 (r.pos : Int), .int .i64 r.val, .slice RA r.regs.length rc, .slice SA 0 sc, .slice TA r.trace.length tc, .int .i64 (r.steps : Int), .slice BA bl bc] :=
    (hb q hql fun j hj e => h.nt j hj e.symm).trans h.row
  have hmd : Mods (fun k => (Value.slice TA r.trace.length tc).ownBlock = some k) w W := ⟨hg.os, hg.tape, hg.output, Nat.le_trans (by simp) hg.size, fun k hk hn => hb k hk fun j hj e => hn (e ▸ hj)⟩
  have hR : W.ownsRow lo 2 1 (.slice RA r.regs.length rc) r.regs.length (ints r.regs) := hmd.ownS h.v.regs fun k hk hs => h.v.ne k hk hs
  have hnt := own_row_ne ho hrow (by decide)
  have hm := (Mods.refl (Is q) W).put 6 (.slice A1 (r.trace.length + 1) c1)
  have hl : (r.trace ++ [x]).length = r.trace.length + 1 := by simp
  refine ⟨hrow, ⟨?_, ⟨hm.ownS hR fun k hk hs => h.nr k hk hs, ?_, ?_⟩, h.lt⟩, ?_⟩
  · have := hrow.put 6 (.slice A1 (r.trace.length + 1) c1)
    rw [← hl] at this ⊢
    exact this
  · have := hm.ownS ho fun k hk hs => hnt k hk hs
    rw [← hl] at this ⊢
    exact this
  · intro k hk ht
    rw [show (Value.slice A1 (r.trace ++ [x]).length c1).ownBlock = (Value.slice A1 (r.trace.length + 1) c1).ownBlock from by rw [hl]] at ht
    rcases ha with ha | ha
    · exact h.v.ne k hk (ha ▸ ht)
    · rw [ha] at ht
      injection ht with ht
      have := (ownS_lt h.v.regs k hk).2
      simp at ht
      omega
  · exact (hmd.below (by omega) fun k hk => (ownS_lt h.v.trace k hk).1).setCell (by show lo ≤ q; omega) _

end

end Go.Proofs.Ytcoehkphdfejjaa

/-
  The program's perform at an emit (written by wip/lab/genperf.py).
-/
namespace Go.Proofs.Ytcoehkphdfejjaa
open Go.RowKit
set_option linter.unusedVariables false
set_option linter.unusedSimpArgs false

theorem keepS {W1 : World} {q g h a n rc : Nat} {x : Int} {u : Value} (h0 : W1.cell? ⟨q, 4, none⟩ = some (.slice (some ⟨g, 0, none⟩) n rc) ∧ W1.cell? ⟨h, 2, none⟩ = some (.int .i64 (a : Int)) ∧ W1.cell? ⟨g, a, none⟩ = some (.int .i64 x)) (hn : ¬ g = q ∧ ¬ h = q) :
    (W1.setCell ⟨q, 6, none⟩ u).cell? ⟨q, 4, none⟩ = some (.slice (some ⟨g, 0, none⟩) n rc) ∧ (W1.setCell ⟨q, 6, none⟩ u).cell? ⟨h, 2, none⟩ = some (.int .i64 (a : Int)) ∧ (W1.setCell ⟨q, 6, none⟩ u).cell? ⟨g, a, none⟩ = some (.int .i64 x) :=
  ⟨(World.cell?_setCell_other _ _ _ _ (by simp)).trans h0.1, (World.cell?_setCell_other _ _ _ _ (by simp [hn.2])).trans h0.2.1, (World.cell?_setCell_other _ _ _ _ (by simp [hn.1])).trans h0.2.2⟩

set_option maxRecDepth 100000 in
set_option maxHeartbeats 4000000 in
theorem emit_any (i : In) (r : Rn) (lo q : Nat) (RA SA TA BA : Option Addr) (rc sc tc bl bc : Nat) (w : World) (hI : Ip w lo q RA rc SA sc TA tc BA bl bc r) (h17 : i.op = 17) (ha0 : 0 ≤ i.a) (ha1 : i.a < r.regs.length) (hp : r.pos ≤ 1000000) (hst : r.steps ≤ 1000000) (htr : r.trace.length ≤ 1000000) (hrl : r.regs.length ≤ 1000000) :
    Calls Try.prog 53 #[.pointer (some ⟨q, 0, none⟩), .agg #[.int .i64 i.op, .int .i64 i.d, .int .i64 i.a, .int .i64 i.b, .int .i64 i.imm]] w fun e w' => e = .returned (.tuple #[]) ∧ IpP w lo q SA sc BA bl bc (perf i r) w' := by
  obtain ⟨i0, hi, hz0, hz1, hz2⟩ := info_parts infoI64
  have hI0 := hI.next ((Below.refl w.heap.size w).alloc (Nat.le_refl _) (.cells #[.int .i64 i.op, .int .i64 i.d, .int .i64 i.a, .int .i64 i.b, .int .i64 i.imm] 62))
  have hbx := Row.new w 62 #[.int .i64 i.op, .int .i64 i.d, .int .i64 i.a, .int .i64 i.b, .int .i64 i.imm]
  have hb0 := (Below.refl w.heap.size w).alloc (Nat.le_refl _) (.cells #[.int .i64 i.op, .int .i64 i.d, .int .i64 i.a, .int .i64 i.b, .int .i64 i.imm] 62)
  have hqw : q < w.heap.size := hI.row.lt
  have hlq := hI.lt
  obtain ⟨a, ha⟩ := Int.eq_ofNat_of_zero_le ha0
  obtain ⟨op, d, ia, b, imm⟩ := i
  obtain ⟨st, blk, pos, val, regs, tr, steps⟩ := r
  dsimp only at *
  subst h17
  subst ha
  have han : a < regs.length := by omega
  have hx : perf ⟨17, d, (a : Int), b, imm⟩ ⟨st, blk, pos, val, regs, tr, steps⟩ = ⟨st, blk, pos + 1, val, regs, tr ++ [(rg regs (a : Int))], steps + 1⟩ := by
    unfold perf
    rw [if_pos rfl]
  rw [hx]
  clear hx hI ha0 ha1
  go_enter Try.func53, Try.ntmps53
  go_upto_region 1 with fail
  generalize w.alloc (.cells #[.int .i64 17, .int .i64 d, .int .i64 (a : Int), .int .i64 b, .int .i64 imm] 62) = W0 at *
  obtain ⟨g, rfl, hgc⟩ := regs_at hI0.v.regs han
  have d0 := hbx.cell 0; have d2 := hbx.cell 2; have p4 := hI0.row.cell 4; have p6 := hI0.row.cell 6
  simp only [List.getElem?_toArray, List.getElem?_cons_zero, List.getElem?_cons_succ] at d0 d2 p4 p6
  have HK0 := Lib.hid (And.intro p4 (And.intro d2 hgc))
  have hgq : ¬ g = q := hI0.nr g rfl
  have hglt : g < W0.heap.size := (ownS_lt hI0.v.regs g rfl).2
  have hhq : ¬ w.heap.size = q := by omega
  have hq0 : q < W0.heap.size := hI0.row.lt
  have hh0 : w.heap.size < W0.heap.size := hbx.lt
  have hgh : ¬ g = w.heap.size := own_row_ne hI0.v.regs hbx (by decide) g rfl
  have hlo1 : lo ≤ (W0.alloc (.cells #[.int .i64 (rg regs (a : Int))] 2)).heap.size := by simp; omega
  have hml : tr.length ≤ 1000000 := htr
  have HSX := Lib.hid (sees_new W0 #[.int .i64 (rg regs (a : Int))] 2)
  have HOA := Lib.hid (((Mods.refl No W0).alloc (.cells #[.int .i64 (rg regs (a : Int))] 2)).ownS hI0.v.trace fun _ _ h => h)
  have hKg : ∀ W1, (W0.alloc (.cells #[.int .i64 (rg regs (a : Int))] 2)).grownBy W1 (Value.slice TA tr.length tc).ownBlock → ∀ p : Addr, p.block < W0.heap.size → (∀ k, (Value.slice TA tr.length tc).ownBlock = some k → ¬ p.block = k) → W1.heap[p.block]? = W0.heap[p.block]? := fun W1 hg p hp hn =>
    (hg.block p.block (by simp; omega) fun e => hn _ e.symm rfl).trans (Below.heap_alloc W0 _ p.block hp)
  have HKg : Hid (∀ W1, (W0.alloc (.cells #[.int .i64 (rg regs (a : Int))] 2)).grownBy W1 (Value.slice TA tr.length tc).ownBlock → W1.cell? ⟨q, 4, none⟩ = some (.slice (some ⟨g, 0, none⟩) regs.length rc) ∧ W1.cell? ⟨w.heap.size, 2, none⟩ = some (.int .i64 (a : Int)) ∧ W1.cell? ⟨g, a, none⟩ = some (.int .i64 (rg regs (a : Int)))) := fun W1 hg =>
    ⟨(World.cell?_of_block (hKg W1 hg ⟨q, 4, none⟩ hq0 fun k hk e => hI0.nt k hk e.symm)).trans p4, (World.cell?_of_block (hKg W1 hg ⟨w.heap.size, 2, none⟩ hh0 fun k hk e => own_row_ne hI0.v.trace hbx (by decide) k hk e.symm)).trans d2, (World.cell?_of_block (hKg W1 hg ⟨g, a, none⟩ hglt fun k hk e => hI0.v.ne g rfl (by rw [hk]; exact congrArg some e.symm))).trans hgc⟩
  have HAP0 := fun (W1 : World) (A1 : Option Addr) (c1 : Nat) hg ho ha => hI0.app (rg regs (a : Int)) (.cells #[.int .i64 (rg regs (a : Int))] 2) (W := W1) (A1 := A1) (c1 := c1) hg ho ha
  dsimp only at HAP0
  have HAP := Lib.hid HAP0
  clear HAP0
  have HK1 : Hid ((W0.alloc (.cells #[.int .i64 (rg regs (a : Int))] 2)).cell? ⟨q, 4, none⟩ = some (.slice (some ⟨g, 0, none⟩) regs.length rc) ∧ (W0.alloc (.cells #[.int .i64 (rg regs (a : Int))] 2)).cell? ⟨w.heap.size, 2, none⟩ = some (.int .i64 (a : Int)) ∧ (W0.alloc (.cells #[.int .i64 (rg regs (a : Int))] 2)).cell? ⟨g, a, none⟩ = some (.int .i64 (rg regs (a : Int)))) :=
    ⟨(World.cell?_alloc_lt W0 _ ⟨q, 4, none⟩ hq0).trans p4, (World.cell?_alloc_lt W0 _ ⟨w.heap.size, 2, none⟩ hh0).trans d2, (World.cell?_alloc_lt W0 _ ⟨g, a, none⟩ hglt).trans hgc⟩
  have HI := Lib.hid hI0
  have HB := Lib.hid hb0
  have HKb := Lib.hid hKg
  clear hKg hI0 hb0 hbx
  generalize hX : (rg regs (a : Int)) = x at *
  have HXX := Lib.hid hX
  clear hX
  generalize hN : regs.length = n at *
  generalize hM : tr.length = m at *
  have HN := Lib.hid hN
  have HM := Lib.hid hM
  clear hN hM
  go_upto_region 2 with fail
  refine wp_region_held_drew (S := (fun w' => w'.cell? ⟨q, 4, none⟩ = some (.slice (some ⟨g, 0, none⟩) n rc) ∧ w'.cell? ⟨w.heap.size, 2, none⟩ = some (.int .i64 a) ∧ w'.cell? ⟨g, a, none⟩ = some (.int .i64 x))) (by kernel_rfl) HK0.out (fun hHeld => ?_)
  refine take_at 0 9 (.pointer (some ⟨q, 0, none⟩)) rfl rfl (by kernel_rfl) (by kernel_rfl) (by kernel_rfl) (fun _ _ _ h => h) (Or.inl ⟨by rfl, ?_⟩) hHeld ?_
  · intro w9 hSw
    (try dsimp only at hSw)
    go_simp
  (try simp only [Act.put, List.setIfInBounds_toArray, List.set_cons_zero, List.set_cons_succ])
  refine take_at 1 10 (.pointer (some ⟨q, 0, none⟩)) rfl rfl (by kernel_rfl) (by kernel_rfl) (by kernel_rfl) (fun _ _ _ h => h) (Or.inl ⟨by rfl, ?_⟩) hHeld ?_
  · intro w9 hSw
    (try dsimp only at hSw)
    go_simp
  (try simp only [Act.put, List.setIfInBounds_toArray, List.set_cons_zero, List.set_cons_succ])
  refine take_at 2 11 (.pointer (some ⟨q, 0, none⟩)) rfl rfl (by kernel_rfl) (by kernel_rfl) (by kernel_rfl) (fun _ _ _ h => h) (Or.inl ⟨by rfl, ?_⟩) hHeld ?_
  · intro w9 hSw
    (try dsimp only at hSw)
    go_simp
  (try simp only [Act.put, List.setIfInBounds_toArray, List.set_cons_zero, List.set_cons_succ])
  refine take_at 3 12 (.pointer (some ⟨q, 0, none⟩)) rfl rfl (by kernel_rfl) (by kernel_rfl) (by kernel_rfl) (fun _ _ _ h => h) (Or.inl ⟨by rfl, ?_⟩) hHeld ?_
  · intro w9 hSw
    (try dsimp only at hSw)
    go_simp
  (try simp only [Act.put, List.setIfInBounds_toArray, List.set_cons_zero, List.set_cons_succ])
  refine take_at 4 13 (.pointer (some ⟨q, 6, none⟩)) rfl rfl (by kernel_rfl) (by kernel_rfl) (by kernel_rfl) (fun _ _ _ h => h) (Or.inl ⟨by rfl, ?_⟩) hHeld ?_
  · intro w9 hSw
    (try dsimp only at hSw)
    go_simp
  (try simp only [Act.put, List.setIfInBounds_toArray, List.set_cons_zero, List.set_cons_succ])
  refine take_at 6 15 (.pointer (some ⟨q, 0, none⟩)) rfl rfl (by kernel_rfl) (by kernel_rfl) (by kernel_rfl) (fun _ _ _ h => h) (Or.inl ⟨by rfl, ?_⟩) hHeld ?_
  · intro w9 hSw
    (try dsimp only at hSw)
    go_simp
  (try simp only [Act.put, List.setIfInBounds_toArray, List.set_cons_zero, List.set_cons_succ])
  refine take_at 7 16 (.pointer (some ⟨q, 0, none⟩)) rfl rfl (by kernel_rfl) (by kernel_rfl) (by kernel_rfl) (fun _ _ _ h => h) (Or.inl ⟨by rfl, ?_⟩) hHeld ?_
  · intro w9 hSw
    (try dsimp only at hSw)
    go_simp
  (try simp only [Act.put, List.setIfInBounds_toArray, List.set_cons_zero, List.set_cons_succ])
  refine take_at 8 17 (.pointer (some ⟨q, 0, none⟩)) rfl rfl (by kernel_rfl) (by kernel_rfl) (by kernel_rfl) (fun _ _ _ h => h) (Or.inl ⟨by rfl, ?_⟩) hHeld ?_
  · intro w9 hSw
    (try dsimp only at hSw)
    go_simp
  (try simp only [Act.put, List.setIfInBounds_toArray, List.set_cons_zero, List.set_cons_succ])
  refine take_at 9 18 (.pointer (some ⟨q, 4, none⟩)) rfl rfl (by kernel_rfl) (by kernel_rfl) (by kernel_rfl) (fun _ _ _ h => h) (Or.inl ⟨by rfl, ?_⟩) hHeld ?_
  · intro w9 hSw
    (try dsimp only at hSw)
    go_simp
  (try simp only [Act.put, List.setIfInBounds_toArray, List.set_cons_zero, List.set_cons_succ])
  refine take_at 10 19 (.slice (some ⟨g, 0, none⟩) n rc) rfl rfl (by kernel_rfl) (by kernel_rfl) (by kernel_rfl) (fun _ _ _ h => h) (Or.inl ⟨by rfl, ?_⟩) hHeld ?_
  · intro w9 hSw
    (try dsimp only at hSw)
    go_simp
  (try simp only [Act.put, List.setIfInBounds_toArray, List.set_cons_zero, List.set_cons_succ])
  refine take_at 11 20 (.pointer (some ⟨w.heap.size, 2, none⟩)) rfl rfl (by kernel_rfl) (by kernel_rfl) (by kernel_rfl) (fun _ _ _ h => h) (Or.inl ⟨by rfl, ?_⟩) hHeld ?_
  · intro w9 hSw
    (try dsimp only at hSw)
    go_simp
  (try simp only [Act.put, List.setIfInBounds_toArray, List.set_cons_zero, List.set_cons_succ])
  refine take_at 12 21 (.int .i64 a) rfl rfl (by kernel_rfl) (by kernel_rfl) (by kernel_rfl) (fun _ _ _ h => h) (Or.inl ⟨by rfl, ?_⟩) hHeld ?_
  · intro w9 hSw
    (try dsimp only at hSw)
    go_simp
  (try simp only [Act.put, List.setIfInBounds_toArray, List.set_cons_zero, List.set_cons_succ])
  refine take_at 13 22 (.pointer (some ⟨g, a, none⟩)) rfl rfl (by kernel_rfl) (by kernel_rfl) (by kernel_rfl) (fun _ _ _ h => h) (Or.inl ⟨by rfl, ?_⟩) hHeld ?_
  · intro w9 hSw
    (try dsimp only at hSw)
    go_simp
  (try simp only [Act.put, List.setIfInBounds_toArray, List.set_cons_zero, List.set_cons_succ])
  refine take_at 14 23 (.int .i64 x) rfl rfl (by kernel_rfl) (by kernel_rfl) (by kernel_rfl) (fun _ _ _ h => h) (Or.inl ⟨by rfl, ?_⟩) hHeld ?_
  · intro w9 hSw
    (try dsimp only at hSw)
    go_simp
  (try simp only [Act.put, List.setIfInBounds_toArray, List.set_cons_zero, List.set_cons_succ])
  refine wpAnyH_ready (rs := [5, 15]) (by kernel_rfl) (by simp) ?_
  refine AllReadyH.cons rfl (fun K hK => ?_) ?_
  · go_simp
    refine hK.out _ _ (HK0.out) (fun hHeld => ?_)
    clear hK K
    refine wpAnyH_ready (rs := [15]) (by kernel_rfl) (by simp) ?_
    refine AllReadyH.cons rfl (fun K hK => ?_) ?_
    · go_simp
      refine hK.out _ _ (HK1.out) (fun hHeld => ?_)
      clear hK K
      refine wpAnyH_ready (rs := [16]) (by kernel_rfl) (by simp) ?_
      refine AllReadyH.cons rfl (fun K hK => ?_) ?_
      · refine step_append_any _ rfl (.tmp 14) (.tmp 24) 51 rfl lo 2 i0 _ 1 8 Try.underlying51 hi hz0 hz1 hz2 rfl (by decide) (.slice TA m tc) m (ints tr) rfl HOA.out (W0.heap.size + 1) (some ⟨W0.heap.size, 0, none⟩) 1 1 (ints [x]) rfl HSX.out rfl (ints_one _) (by unfold maxLen; omega) (by omega) hlo1 ?_
        intro v1 W1 ho1 hg1 ha1
        obtain ⟨A1, c1, rfl, _, _⟩ := ownS_slice ho1
        have hgg : World.grownBy (W0.alloc (.cells #[.int .i64 x] 2)) W1 (Value.slice TA m tc).ownBlock := ⟨hg1.os, hg1.tape, hg1.output, hg1.size, hg1.block⟩
        obtain ⟨hrow, hI2, hbl2⟩ := HAP.out W1 A1 c1 hgg (by rw [ints_append]; exact ho1) ha1
        have f6 := hrow.cell 6; have r6 := hrow.frozen 6
        simp only [List.getElem?_toArray, List.getElem?_cons_zero, List.getElem?_cons_succ] at f6
        have HI2 := Lib.hid (And.intro hI2 hbl2)
        have HKW := Lib.hid (HKg.out W1 hgg)
        clear ho1 hg1 ha1 hgg hrow hI2 hbl2
        refine hK.out _ _ (HKW.out) (fun hHeld => ?_)
        clear hK K
        refine take_at 17 26 (.pointer (some ⟨q, 0, none⟩)) rfl rfl (by kernel_rfl) (by kernel_rfl) (by kernel_rfl) (fun _ _ _ h => h) (Or.inl ⟨by rfl, ?_⟩) hHeld ?_
        · intro w9 hSw
          (try dsimp only at hSw)
          go_simp
        (try simp only [Act.put, List.setIfInBounds_toArray, List.set_cons_zero, List.set_cons_succ])
        refine take_at 18 27 (.pointer (some ⟨q, 0, none⟩)) rfl rfl (by kernel_rfl) (by kernel_rfl) (by kernel_rfl) (fun _ _ _ h => h) (Or.inl ⟨by rfl, ?_⟩) hHeld ?_
        · intro w9 hSw
          (try dsimp only at hSw)
          go_simp
        (try simp only [Act.put, List.setIfInBounds_toArray, List.set_cons_zero, List.set_cons_succ])
        refine take_at 19 28 (.pointer (some ⟨q, 6, none⟩)) rfl rfl (by kernel_rfl) (by kernel_rfl) (by kernel_rfl) (fun _ _ _ h => h) (Or.inl ⟨by rfl, ?_⟩) hHeld ?_
        · intro w9 hSw
          (try dsimp only at hSw)
          go_simp
        (try simp only [Act.put, List.setIfInBounds_toArray, List.set_cons_zero, List.set_cons_succ])
        refine wpAnyH_ready (rs := [20]) (by kernel_rfl) (by simp) ?_
        refine AllReadyH.cons rfl (fun K hK => ?_) ?_
        · go_simp
          refine hK.out _ _ (keepS HKW.out (by omega)) (fun hHeld => ?_)
          clear hK K
          refine wpAnyH_done (by kernel_rfl) ?_ _
          clear hHeld
          clear HKW HAP HKb HKg HK0 HK1 HOA HSX hgc p4 p6 d0 d2 f6 r6
          generalize W1.setCell ⟨q, 6, none⟩ (.slice A1 (m + 1) c1) = W2 at *
          have f2 := HI2.out.1.row.cell 2; have f7 := HI2.out.1.row.cell 7; have r2 := HI2.out.1.row.frozen 2; have r7 := HI2.out.1.row.frozen 7
          simp only [List.getElem?_toArray, List.getElem?_cons_zero, List.getElem?_cons_succ] at f2 f7
          go_wp2
          go_end0
          rw [HXX.out]
          exact ⟨rfl, _, _, _, _, HI2.out.1.tick, Below.put27 ((HB.out.mono (by omega)).trans HI2.out.2) (by omega) _ _⟩
        exact AllReadyH.nil
      exact AllReadyH.nil
    exact AllReadyH.nil
  refine AllReadyH.cons rfl (fun K hK => ?_) ?_
  · go_simp
    refine hK.out _ _ (HK1.out) (fun hHeld => ?_)
    clear hK K
    refine wpAnyH_ready (rs := [5]) (by kernel_rfl) (by simp) ?_
    refine AllReadyH.cons rfl (fun K hK => ?_) ?_
    · go_simp
      refine hK.out _ _ (HK1.out) (fun hHeld => ?_)
      clear hK K
      refine wpAnyH_ready (rs := [16]) (by kernel_rfl) (by simp) ?_
      refine AllReadyH.cons rfl (fun K hK => ?_) ?_
      · refine step_append_any _ rfl (.tmp 14) (.tmp 24) 51 rfl lo 2 i0 _ 1 8 Try.underlying51 hi hz0 hz1 hz2 rfl (by decide) (.slice TA m tc) m (ints tr) rfl HOA.out (W0.heap.size + 1) (some ⟨W0.heap.size, 0, none⟩) 1 1 (ints [x]) rfl HSX.out rfl (ints_one _) (by unfold maxLen; omega) (by omega) hlo1 ?_
        intro v1 W1 ho1 hg1 ha1
        obtain ⟨A1, c1, rfl, _, _⟩ := ownS_slice ho1
        have hgg : World.grownBy (W0.alloc (.cells #[.int .i64 x] 2)) W1 (Value.slice TA m tc).ownBlock := ⟨hg1.os, hg1.tape, hg1.output, hg1.size, hg1.block⟩
        obtain ⟨hrow, hI2, hbl2⟩ := HAP.out W1 A1 c1 hgg (by rw [ints_append]; exact ho1) ha1
        have f6 := hrow.cell 6; have r6 := hrow.frozen 6
        simp only [List.getElem?_toArray, List.getElem?_cons_zero, List.getElem?_cons_succ] at f6
        have HI2 := Lib.hid (And.intro hI2 hbl2)
        have HKW := Lib.hid (HKg.out W1 hgg)
        clear ho1 hg1 ha1 hgg hrow hI2 hbl2
        refine hK.out _ _ (HKW.out) (fun hHeld => ?_)
        clear hK K
        refine take_at 17 26 (.pointer (some ⟨q, 0, none⟩)) rfl rfl (by kernel_rfl) (by kernel_rfl) (by kernel_rfl) (fun _ _ _ h => h) (Or.inl ⟨by rfl, ?_⟩) hHeld ?_
        · intro w9 hSw
          (try dsimp only at hSw)
          go_simp
        (try simp only [Act.put, List.setIfInBounds_toArray, List.set_cons_zero, List.set_cons_succ])
        refine take_at 18 27 (.pointer (some ⟨q, 0, none⟩)) rfl rfl (by kernel_rfl) (by kernel_rfl) (by kernel_rfl) (fun _ _ _ h => h) (Or.inl ⟨by rfl, ?_⟩) hHeld ?_
        · intro w9 hSw
          (try dsimp only at hSw)
          go_simp
        (try simp only [Act.put, List.setIfInBounds_toArray, List.set_cons_zero, List.set_cons_succ])
        refine take_at 19 28 (.pointer (some ⟨q, 6, none⟩)) rfl rfl (by kernel_rfl) (by kernel_rfl) (by kernel_rfl) (fun _ _ _ h => h) (Or.inl ⟨by rfl, ?_⟩) hHeld ?_
        · intro w9 hSw
          (try dsimp only at hSw)
          go_simp
        (try simp only [Act.put, List.setIfInBounds_toArray, List.set_cons_zero, List.set_cons_succ])
        refine wpAnyH_ready (rs := [20]) (by kernel_rfl) (by simp) ?_
        refine AllReadyH.cons rfl (fun K hK => ?_) ?_
        · go_simp
          refine hK.out _ _ (keepS HKW.out (by omega)) (fun hHeld => ?_)
          clear hK K
          refine wpAnyH_done (by kernel_rfl) ?_ _
          clear hHeld
          clear HKW HAP HKb HKg HK0 HK1 HOA HSX hgc p4 p6 d0 d2 f6 r6
          generalize W1.setCell ⟨q, 6, none⟩ (.slice A1 (m + 1) c1) = W2 at *
          have f2 := HI2.out.1.row.cell 2; have f7 := HI2.out.1.row.cell 7; have r2 := HI2.out.1.row.frozen 2; have r7 := HI2.out.1.row.frozen 7
          simp only [List.getElem?_toArray, List.getElem?_cons_zero, List.getElem?_cons_succ] at f2 f7
          go_wp2
          go_end0
          rw [HXX.out]
          exact ⟨rfl, _, _, _, _, HI2.out.1.tick, Below.put27 ((HB.out.mono (by omega)).trans HI2.out.2) (by omega) _ _⟩
        exact AllReadyH.nil
      exact AllReadyH.nil
    exact AllReadyH.nil
  exact AllReadyH.nil

end Go.Proofs.Ytcoehkphdfejjaa

/-
  The program's perform.
-/
namespace Go.Proofs.Ytcoehkphdfejjaa
open Go.RowKit
set_option linter.unusedVariables false

section
variable {w w' : World} {lo q : Nat} {RA SA TA BA : Option Addr} {rc sc tc bl bc : Nat} {r : Rn}

/-- A register is set. -/
theorem Ip.setreg {g k : Nat} {v : Int} (h : Ip w lo q (some ⟨g, 0, none⟩) rc SA sc TA tc BA bl bc r) (hk : k < r.regs.length) :
    Ip (w.setCell ⟨g, k, none⟩ (.int .i64 v)) lo q (some ⟨g, 0, none⟩) rc SA sc TA tc BA bl bc { r with regs := r.regs.set k v } ∧ Below lo w (w.setCell ⟨g, k, none⟩ (.int .i64 v)) := by
  have hl : (r.regs.set k v).length = r.regs.length := by simp
  have hgq := h.nr g rfl
  have hlg := (ownS_lt h.v.regs g rfl).1
  have h1 := ownS_put h.v.regs (g := g) rfl (j := k) (by rw [ints_length]; exact hk) (.int .i64 v)
  have hm := (Mods.refl (Is g) w).put k (.int .i64 v)
  refine ⟨⟨?_, ⟨?_, hm.ownS h.v.trace fun j hj hs => h.v.ne g rfl (by unfold Is at hs; rw [hj, hs]), ?_⟩, h.lt⟩, (Below.refl _ _).setCell (by show lo ≤ g; exact hlg) _⟩
  · have := h.row.far (q := ⟨g, k, none⟩) (fun e => hgq e.symm) (.int .i64 v)
    rw [← hl] at this
    exact this
  · rw [ints_set]
    rw [← hl] at h1
    exact h1
  · intro j hj ht
    rw [hl] at hj
    exact h.v.ne j hj ht

/-- What perform carries: the interpreter and the instruction's box. -/
structure PW (w0 : World) (i : In) (lo q : Nat) (RA : Option Addr) (rc : Nat) (SA : Option Addr) (sc : Nat) (TA : Option Addr) (tc : Nat) (BA : Option Addr) (bl bc : Nat) (r : Rn) (W : World) : Prop where
  ip : Ip W lo q RA rc SA sc TA tc BA bl bc r
  below : Below w0.heap.size w0 W
  bx : Row W w0.heap.size 62 #[.int .i64 i.op, .int .i64 i.d, .int .i64 i.a, .int .i64 i.b, .int .i64 i.imm]

theorem PW.next {w0 : World} {i : In} (hp : PW w0 i lo q RA rc SA sc TA tc BA bl bc r w) (hb : Below w.heap.size w w') : PW w0 i lo q RA rc SA sc TA tc BA bl bc r w' := ⟨hp.ip.next hb, hp.below.trans (hb.mono hp.below.size), hp.bx.below hb hp.bx.lt⟩

theorem PW.drewN {w0 : World} {i : In} (hp : PW w0 i lo q RA rc SA sc TA tc BA bl bc r w) (n : Nat) : PW w0 i lo q RA rc SA sc TA tc BA bl bc r (w.drewN n) := hp.next (blw_drewN (Below.refl _ _) n)

theorem PW.drew {w0 : World} {i : In} (hp : PW w0 i lo q RA rc SA sc TA tc BA bl bc r w) : PW w0 i lo q RA rc SA sc TA tc BA bl bc r w.drew := hp.drewN 1

theorem reg_cell {g k : Nat} (h : Ip w lo q (some ⟨g, 0, none⟩) rc SA sc TA tc BA bl bc r) (hk : k < r.regs.length) : w.cell? ⟨g, k, none⟩ = some (.int .i64 (rg r.regs (k : Int))) := by
  obtain ⟨g', e, hc⟩ := regs_at h.v.regs hk
  injection e with e
  injection e with e _ _
  subst e
  exact hc

theorem PW.cells {w0 : World} {g a b : Nat} {op d imm : Int} (hp : PW w0 ⟨op, d, (a : Int), (b : Int), imm⟩ lo q (some ⟨g, 0, none⟩) rc SA sc TA tc BA bl bc r w) (ha : a < r.regs.length) (hb : b < r.regs.length) :
    PW w0 ⟨op, d, (a : Int), (b : Int), imm⟩ lo q (some ⟨g, 0, none⟩) rc SA sc TA tc BA bl bc r w ∧ w.cell? ⟨w0.heap.size, 0, none⟩ = some (.int .i64 op) ∧ w.cell? ⟨w0.heap.size, 2, none⟩ = some (.int .i64 (a : Int)) ∧ w.cell? ⟨w0.heap.size, 3, none⟩ = some (.int .i64 (b : Int)) ∧ w.cell? ⟨w0.heap.size, 4, none⟩ = some (.int .i64 imm) ∧ w.cell? ⟨q, 4, none⟩ = some (.slice (some ⟨g, 0, none⟩) r.regs.length rc) ∧
    w.cell? ⟨g, a, none⟩ = some (.int .i64 (rg r.regs (a : Int))) ∧ w.cell? ⟨g, b, none⟩ = some (.int .i64 (rg r.regs (b : Int))) :=
  ⟨hp, hp.bx.cell 0, hp.bx.cell 2, hp.bx.cell 3, hp.bx.cell 4, hp.ip.row.cell 4, reg_cell hp.ip ha, reg_cell hp.ip hb⟩

end

set_option maxRecDepth 100000 in
set_option maxHeartbeats 4000000 in
theorem op_any (i : In) (r : Rn) (lo q : Nat) (RA SA TA BA : Option Addr) (rc sc tc bl bc : Nat) (w : World) (hI : Ip w lo q RA rc SA sc TA tc BA bl bc r) (h17 : ¬ i.op = 17) (ha0 : 0 ≤ i.a) (ha1 : i.a < r.regs.length) (hd0 : 0 ≤ i.d) (hd1 : i.d < r.regs.length) (hb0 : 0 ≤ i.b) (hb1 : i.b < r.regs.length) (hw : ∀ v ∈ r.regs, InI v) (hp : r.pos ≤ 1000000) (hst : r.steps ≤ 1000000) (hrl : r.regs.length ≤ 1000000) :
    Calls Try.prog 53 #[.pointer (some ⟨q, 0, none⟩), .agg #[.int .i64 i.op, .int .i64 i.d, .int .i64 i.a, .int .i64 i.b, .int .i64 i.imm]] w fun e w' => e = .returned (.tuple #[]) ∧ IpP w lo q SA sc BA bl bc (perf i r) w' := by
  have hbl0 := (Below.refl w.heap.size w).alloc (Nat.le_refl _) (.cells #[.int .i64 i.op, .int .i64 i.d, .int .i64 i.a, .int .i64 i.b, .int .i64 i.imm] 62)
  have hG : PW w i lo q RA rc SA sc TA tc BA bl bc r (w.alloc (.cells #[.int .i64 i.op, .int .i64 i.d, .int .i64 i.a, .int .i64 i.b, .int .i64 i.imm] 62)) := ⟨hI.next hbl0, hbl0, Row.new _ _ _⟩
  have hqw : q < w.heap.size := hI.row.lt
  have hlq := hI.lt
  have hxa := hw _ (rg_mem ha0 ha1)
  have hxb := hw _ (rg_mem hb0 hb1)
  obtain ⟨a, ha⟩ := Int.eq_ofNat_of_zero_le ha0
  obtain ⟨b, hb⟩ := Int.eq_ofNat_of_zero_le hb0
  obtain ⟨d, hd⟩ := Int.eq_ofNat_of_zero_le hd0
  obtain ⟨op, id, ia, ib, imm⟩ := i
  obtain ⟨st, blk, pos, val, regs, tr, steps⟩ := r
  dsimp only at *
  subst ha
  subst hb
  subst hd
  have han : a < regs.length := by omega
  have hbn : b < regs.length := by omega
  have hdn : d < regs.length := by omega
  have e17 : (op == 17) = false := by simp [h17]
  have HX : Hid (perf ⟨op, (d : Int), (a : Int), (b : Int), imm⟩ ⟨st, blk, pos, val, regs, tr, steps⟩ = if evo op (rg regs (b : Int)) = true then ⟨st, blk, pos + 1, val, regs.set d (ev op (rg regs (a : Int)) (rg regs (b : Int)) imm), tr, steps + 1⟩ else ⟨2, blk, pos, val, regs, tr, steps⟩) := by
    rw [Hid, perf, if_neg h17]
    rfl
  clear hI ha0 ha1 hb0 hb1 hd0 hd1 hw h17
  obtain ⟨g, rfl, _⟩ := regs_at hG.ip.v.regs han
  have hgc := fun W (h : PW w ⟨op, (d : Int), (a : Int), (b : Int), imm⟩ lo q (some ⟨g, 0, none⟩) rc SA sc TA tc BA bl bc ⟨st, blk, pos, val, regs, tr, steps⟩ W) => PW.cells h han hbn
  dsimp only at hgc
  have HGC := Lib.hid hgc
  clear hgc
  have HBL := Lib.hid hbl0
  clear hbl0
  go_enter Try.func53, Try.ntmps53
  go_upto_region 1 with fail
  generalize w.alloc (.cells #[.int .i64 op, .int .i64 (d : Int), .int .i64 (a : Int), .int .i64 (b : Int), .int .i64 imm] 62) = W0 at *
  have d0 := hG.bx.cell 0
  simp only [List.getElem?_toArray, List.getElem?_cons_zero] at d0
  obtain ⟨_, s1, s2, s3, s4, s5, s6, s7⟩ := HGC.out _ hG
  have C1 := Lib.hid fun W (h : PW w ⟨op, (d : Int), (a : Int), (b : Int), imm⟩ lo q (some ⟨g, 0, none⟩) rc SA sc TA tc BA bl bc ⟨st, blk, pos, val, regs, tr, steps⟩ W) => (eval_any op (rg regs (a : Int)) (rg regs (b : Int)) imm W hxa hxb).mono fun e w' ⟨he, hb⟩ => (⟨he, h.next hb⟩ : e = _ ∧ PW w ⟨op, (d : Int), (a : Int), (b : Int), imm⟩ lo q (some ⟨g, 0, none⟩) rc SA sc TA tc BA bl bc ⟨st, blk, pos, val, regs, tr, steps⟩ w')
  have hgq : ¬ g = q := hG.ip.nr g rfl
  clear HBL
  generalize hV : rg regs (a : Int) = x at *
  generalize hY : rg regs (b : Int) = y at *
  generalize hE : ev op x y imm = v at *
  generalize hO : evo op y = ok at *
  have HV := Lib.hid (And.intro hV hY)
  clear hV hY hE hO hxa hxb
  go_upto_region 3 with fail
  go_region_held3 (fun w' => PW w ⟨op, (d : Int), (a : Int), (b : Int), imm⟩ lo q (some ⟨g, 0, none⟩) rc SA sc TA tc BA bl bc ⟨st, blk, pos, val, regs, tr, steps⟩ w' ∧ w'.cell? ⟨w.heap.size, 0, none⟩ = some (.int .i64 op) ∧ w'.cell? ⟨w.heap.size, 2, none⟩ = some (.int .i64 (a : Int)) ∧ w'.cell? ⟨w.heap.size, 3, none⟩ = some (.int .i64 (b : Int)) ∧ w'.cell? ⟨w.heap.size, 4, none⟩ = some (.int .i64 imm) ∧ w'.cell? ⟨q, 4, none⟩ = some (.slice (some ⟨g, 0, none⟩) regs.length rc) ∧ w'.cell? ⟨g, a, none⟩ = some (.int .i64 x) ∧ w'.cell? ⟨g, b, none⟩ = some (.int .i64 y)) (first | exact HGC.out _ hG | exact HGC.out _ hG.drew | exact HGC.out _ (hG.drewN _)) (first
    | (go_at_call 64; go_must ((with_reducible refine (C1.out _ (by first | exact hG | exact hG.drew | exact hG.drewN _)).mono ?_); rintro e W3 ⟨rfl, hG⟩))
    )
  have hrc := reg_cell hG.ip hdn
  have hrf := own_frozen hG.ip.v.regs (g := g) (k := d) rfl
  have f0 := hG.ip.row.cell 0; have f4 := hG.ip.row.cell 4; have b1 := hG.bx.cell 1; have r0 := hG.ip.row.frozen 0
  simp only [List.getElem?_toArray, List.getElem?_cons_zero, List.getElem?_cons_succ] at f0 f4 b1
  have HG := Lib.hid hG
  clear hG s1 s2 s3 s4 s5 s6 s7 d0 C1 HGC
  cases ok
  · have hX := HX.out
    rw [if_neg (by decide)] at hX
    have HX2 := Lib.hid hX
    clear HX hX
    go_wp2
    (try simp only [Exit.inBlock, Exit.then])
    refine bodyPost_ret (v := .tuple #[]) (results_none rfl _ _ _) rfl ?_
    rw [HX2.out]
    exact ⟨rfl, _, _, _, _, ⟨HG.out.ip.row.put 0 _, ⟨(vput HG.out.ip 0 _).regs, (vput HG.out.ip 0 _).trace, HG.out.ip.v.ne⟩, hlq⟩, (HG.out.below.mono (by omega)).setCell (by show lo ≤ q; omega) _⟩
  · have hX := HX.out
    rw [if_pos rfl] at hX
    have HX2 := Lib.hid hX
    clear HX hX
    go_upto_region 6 with fail
    go_region
    obtain ⟨hI4, hb4⟩ := HG.out.ip.setreg (v := v) hdn
    have hI5 := hI4.drew
    have hb5 := Below.drew hb4
    have f2 := hI5.row.cell 2; have f7 := hI5.row.cell 7; have r2 := hI5.row.frozen 2; have r7 := hI5.row.frozen 7
    simp only [List.getElem?_toArray, List.getElem?_cons_zero, List.getElem?_cons_succ] at f2 f7
    have HI5 := Lib.hid (And.intro hI5 ((HG.out.below.mono (Nat.le_of_lt (Nat.lt_of_le_of_lt hlq hqw))).trans hb5))
    clear hI4 hb4 hI5 hb5 hrc hrf f0 f4 b1 r0 HG
    generalize (W3.setCell ⟨g, d, none⟩ (.int .i64 v)).drew = W4 at *
    go_wp2
    go_end0
    rw [HX2.out]
    exact ⟨rfl, _, _, _, _, HI5.out.1.tick, Below.put27 HI5.out.2 hlq _ _⟩

/-- Performing an instruction of a valid function. -/
theorem perf_any (i : In) (r : Rn) (lo q : Nat) (RA SA TA BA : Option Addr) (rc sc tc bl bc : Nat) (w : World) (hI : Ip w lo q RA rc SA sc TA tc BA bl bc r) (hok : InOk r.regs.length i) (hw : ∀ v ∈ r.regs, InI v) (hp : r.pos ≤ 1000000) (hst : r.steps ≤ 1000000) (htr : r.trace.length ≤ 1000000) (hrl : r.regs.length ≤ 1000000) :
    Calls Try.prog 53 #[.pointer (some ⟨q, 0, none⟩), .agg #[.int .i64 i.op, .int .i64 i.d, .int .i64 i.a, .int .i64 i.b, .int .i64 i.imm]] w fun e w' => e = .returned (.tuple #[]) ∧ IpP w lo q SA sc BA bl bc (perf i r) w' := by
  obtain ⟨_, ha0, ha1, h17 | ⟨h17, hd0, hd1, hb0, hb1⟩⟩ := hok
  · exact emit_any i r lo q RA SA TA BA rc sc tc bl bc w hI h17 ha0 ha1 hp hst htr hrl
  · exact op_any i r lo q RA SA TA BA rc sc tc bl bc w hI h17 ha0 ha1 hd0 hd1 hb0 hb1 hw hp hst hrl

end Go.Proofs.Ytcoehkphdfejjaa

/-
  The program's leave.
-/
namespace Go.Proofs.Ytcoehkphdfejjaa
open Go.RowKit
set_option linter.unusedVariables false

section
variable {w w' : World} {lo q : Nat} {RA SA TA BA : Option Addr} {rc sc tc bl bc : Nat} {r : Rn}

theorem Ip.pSt (h : Ip w lo q RA rc SA sc TA tc BA bl bc r) (s : Int) : Ip (w.setCell ⟨q, 0, none⟩ (.int .i64 s)) lo q RA rc SA sc TA tc BA bl bc { r with st := s } := ⟨h.row.put 0 _, ⟨(vput h 0 _).regs, (vput h 0 _).trace, h.v.ne⟩, h.lt⟩

theorem Ip.pBlk (h : Ip w lo q RA rc SA sc TA tc BA bl bc r) (k : Nat) : Ip (w.setCell ⟨q, 1, none⟩ (.int .i64 (k : Int))) lo q RA rc SA sc TA tc BA bl bc { r with blk := k } := ⟨h.row.put 1 _, ⟨(vput h 1 _).regs, (vput h 1 _).trace, h.v.ne⟩, h.lt⟩

theorem Ip.pPos (h : Ip w lo q RA rc SA sc TA tc BA bl bc r) (k : Nat) : Ip (w.setCell ⟨q, 2, none⟩ (.int .i64 (k : Int))) lo q RA rc SA sc TA tc BA bl bc { r with pos := k } := ⟨h.row.put 2 _, ⟨(vput h 2 _).regs, (vput h 2 _).trace, h.v.ne⟩, h.lt⟩

theorem Ip.pVal (h : Ip w lo q RA rc SA sc TA tc BA bl bc r) (v : Int) : Ip (w.setCell ⟨q, 3, none⟩ (.int .i64 v)) lo q RA rc SA sc TA tc BA bl bc { r with val := v } := ⟨h.row.put 3 _, ⟨(vput h 3 _).regs, (vput h 3 _).trace, h.v.ne⟩, h.lt⟩

theorem Ip.pSteps (h : Ip w lo q RA rc SA sc TA tc BA bl bc r) (k : Nat) : Ip (w.setCell ⟨q, 7, none⟩ (.int .i64 (k : Int))) lo q RA rc SA sc TA tc BA bl bc { r with steps := k } := ⟨h.row.put 7 _, ⟨(vput h 7 _).regs, (vput h 7 _).trace, h.v.ne⟩, h.lt⟩

/-- What leave carries: the interpreter and the terminator's box. -/
structure TW (w0 : World) (t : Tm) (lo q : Nat) (RA : Option Addr) (rc : Nat) (SA : Option Addr) (sc : Nat) (TA : Option Addr) (tc : Nat) (BA : Option Addr) (bl bc : Nat) (r : Rn) (W : World) : Prop where
  ip : Ip W lo q RA rc SA sc TA tc BA bl bc r
  below : Below lo w0 W
  bx : Row W w0.heap.size 43 #[.int .i64 t.kind, .int .i64 t.a, .int .i64 t.to, .int .i64 t.el]

theorem TW.next {w0 : World} {t : Tm} (hp : TW w0 t lo q RA rc SA sc TA tc BA bl bc r w) (hb : Below w.heap.size w w') : TW w0 t lo q RA rc SA sc TA tc BA bl bc r w' := ⟨hp.ip.next hb, hp.below.trans (hb.mono (by have := hp.ip.row.lt; have := hp.ip.lt; omega)), hp.bx.below hb hp.bx.lt⟩

end

set_option maxRecDepth 100000 in
set_option maxHeartbeats 1000000 in
theorem succ1_any (a b c : Int) (w : World) :
    Calls Try.prog 65 #[.agg #[.int .i64 1, .int .i64 a, .int .i64 b, .int .i64 c]] w fun e w' => ∃ g, e = .returned (.slice (some ⟨g, 0, none⟩) 1 1) ∧ w.heap.size ≤ g ∧ g < w'.heap.size ∧ w'.cell? ⟨g, 0, none⟩ = some (.int .i64 b) ∧ Below w.heap.size w w' := by
  have HB := Lib.hid ((Below.refl w.heap.size w).alloc (Nat.le_refl _) (.cells #[.int .i64 1, .int .i64 a, .int .i64 b, .int .i64 c] 43))
  go_enter Try.func65, Try.ntmps65
  go_wp2
  go_ret
  exact ⟨w.heap.size + 1, rfl, by omega, by simp, (Row.new' (p := w.heap.size + 1) (by simp) 3 #[.int .i64 b]).cell 0, HB.out.alloc HB.out.size _⟩

set_option maxRecDepth 100000 in
set_option maxHeartbeats 1000000 in
theorem succ2_any (a b c : Int) (w : World) :
    Calls Try.prog 65 #[.agg #[.int .i64 2, .int .i64 a, .int .i64 b, .int .i64 c]] w fun e w' => ∃ g, e = .returned (.slice (some ⟨g, 0, none⟩) 2 2) ∧ w.heap.size ≤ g ∧ g < w'.heap.size ∧ w'.cell? ⟨g, 0, none⟩ = some (.int .i64 b) ∧ w'.cell? ⟨g, 1, none⟩ = some (.int .i64 c) ∧ Below w.heap.size w w' := by
  have HB := Lib.hid ((Below.refl w.heap.size w).alloc (Nat.le_refl _) (.cells #[.int .i64 2, .int .i64 a, .int .i64 b, .int .i64 c] 43))
  go_enter Try.func65, Try.ntmps65
  go_wp2
  go_ret
  have hr := Row.new' (W := w.alloc (.cells #[.int .i64 2, .int .i64 a, .int .i64 b, .int .i64 c] 43)) (p := w.heap.size + 1) (by simp) 3 #[.int .i64 b, .int .i64 c]
  exact ⟨w.heap.size + 1, rfl, by omega, by simp, hr.cell 0, hr.cell 1, HB.out.alloc HB.out.size _⟩

set_option maxRecDepth 100000 in
set_option maxHeartbeats 4000000 in
theorem leave_any (t : Tm) (r : Rn) (nb lo q : Nat) (RA SA TA BA : Option Addr) (rc sc tc bl bc : Nat) (w : World) (hI : Ip w lo q RA rc SA sc TA tc BA bl bc r) (hok : TmOk r.regs.length nb t) (hst : r.steps ≤ 1000000) (hrl : r.regs.length ≤ 1000000) :
    Calls Try.prog 54 #[.pointer (some ⟨q, 0, none⟩), .agg #[.int .i64 t.kind, .int .i64 t.a, .int .i64 t.to, .int .i64 t.el]] w fun e w' => e = .returned (.tuple #[]) ∧ IpP w lo q SA sc BA bl bc (leav t r) w' := by
  have hbl0 := (Below.refl w.heap.size w).alloc (Nat.le_refl _) (.cells #[.int .i64 t.kind, .int .i64 t.a, .int .i64 t.to, .int .i64 t.el] 43)
  have hqw : q < w.heap.size := hI.row.lt
  have hlq := hI.lt
  have hG : TW w t lo q RA rc SA sc TA tc BA bl bc r (w.alloc (.cells #[.int .i64 t.kind, .int .i64 t.a, .int .i64 t.to, .int .i64 t.el] 43)) := ⟨hI.next hbl0, hbl0.mono (by omega), Row.new _ _ _⟩
  obtain ⟨kind, ta, tt, el⟩ := t
  obtain ⟨st, blk, pos, val, regs, tr, steps⟩ := r
  dsimp only at *
  clear hI hbl0
  rcases hok with ⟨hk, ht0, ht1⟩ | ⟨hk, ha0, ha1, ht0, ht1, he0, he1⟩ | ⟨hk, ha0, ha1⟩
  · dsimp only at hk ht0 ht1
    subst hk
    obtain ⟨tn, rfl⟩ := Int.eq_ofNat_of_zero_le ht0
    have HX : Hid (leav ⟨1, ta, (tn : Int), el⟩ ⟨st, blk, pos, val, regs, tr, steps⟩ = ⟨st, tn, 0, val, regs, tr, steps + 1⟩) := by
      rw [Hid, leav, if_neg (show ¬ (1 : Int) = 3 by decide)]
      simp
    clear ht0
    go_enter Try.func54, Try.ntmps54
    go_upto_region 1 with fail
    generalize w.alloc (.cells #[.int .i64 1, .int .i64 ta, .int .i64 (tn : Int), .int .i64 el] 43) = W0 at *
    have f7 := hG.ip.row.cell 7; have b0 := hG.bx.cell 0; have r7 := hG.ip.row.frozen 7
    simp only [List.getElem?_toArray, List.getElem?_cons_zero, List.getElem?_cons_succ] at f7 b0
    have hG1 := hG.ip.pSteps (steps + 1)
    have hB1 := blwq hG.below hlq 7 (.int .i64 ((steps + 1 : Nat) : Int))
    have hX1 := hG.bx.far (q := ⟨q, 7, none⟩) (by show w.heap.size ≠ q; omega) (.int .i64 ((steps + 1 : Nat) : Int))
    have HG0 := Lib.hid (show TW w ⟨1, ta, (tn : Int), el⟩ lo q RA rc SA sc TA tc BA bl bc ⟨st, blk, pos, val, regs, tr, steps + 1⟩ (W0.setCell ⟨q, 7, none⟩ (.int .i64 ((steps : Int) + 1))) from ⟨hG1, hB1, hX1⟩)
    clear hG hG1 hB1 hX1
    go_upto_region 4 with fail
    clear f7 r7 b0
    generalize W0.setCell ⟨q, 7, none⟩ (.int .i64 ((steps : Int) + 1)) = W1 at *
    have b0 := HG0.out.bx.cell 0; have b1 := HG0.out.bx.cell 1; have b2 := HG0.out.bx.cell 2; have b3 := HG0.out.bx.cell 3
    simp only [List.getElem?_toArray, List.getElem?_cons_zero, List.getElem?_cons_succ] at b0 b1 b2 b3
    have hq1 : q < W1.heap.size := HG0.out.ip.row.lt
    go_wp2_with fail
    refine (succ1_any _ _ _ _).mono ?_
    rintro e W2 ⟨g, rfl, hg0, hg1, hgc, hb2⟩
    have HG2 := Lib.hid (HG0.out.next hb2)
    have f1 := HG2.out.ip.row.cell 1; have f2 := HG2.out.ip.row.cell 2; have r1 := HG2.out.ip.row.frozen 1; have r2 := HG2.out.ip.row.frozen 2
    have e0 := HG2.out.bx.cell 0
    simp only [List.getElem?_toArray, List.getElem?_cons_zero, List.getElem?_cons_succ] at f1 f2 e0
    have hne : ¬ w.heap.size = q := by omega
    have HB2 := Lib.hid hb2
    clear b0 b1 b2 b3 HG0 hb2
    go_upto_region 6 with fail
    go_quiet (fail)
    go_wp2
    go_end0
    rw [HX.out]
    exact ⟨rfl, _, _, _, _, ((HG2.out.ip.pBlk tn).pPos 0).drewN _, blw_drewN (blwq (blwq HG2.out.below hlq 1 _) hlq 2 _) _⟩
  · dsimp only at hk ha0 ha1 ht0 ht1 he0 he1
    subst hk
    obtain ⟨a, rfl⟩ := Int.eq_ofNat_of_zero_le ha0
    obtain ⟨tn, rfl⟩ := Int.eq_ofNat_of_zero_le ht0
    obtain ⟨en, rfl⟩ := Int.eq_ofNat_of_zero_le he0
    have han : a < regs.length := by omega
    have HX : Hid (leav ⟨2, (a : Int), (tn : Int), (en : Int)⟩ ⟨st, blk, pos, val, regs, tr, steps⟩ = ⟨st, if rg regs (a : Int) = 0 then en else tn, 0, val, regs, tr, steps + 1⟩) := by
      rw [Hid, leav, if_neg (show ¬ (2 : Int) = 3 by decide)]
      simp
    obtain ⟨ga, rfl, _⟩ := regs_at hG.ip.v.regs han
    have hgq : ¬ ga = q := hG.ip.nr ga rfl
    have HRC := Lib.hid fun W (h : TW w ⟨2, (a : Int), (tn : Int), (en : Int)⟩ lo q (some ⟨ga, 0, none⟩) rc SA sc TA tc BA bl bc ⟨st, blk, pos, val, regs, tr, steps + 1⟩ W) => reg_cell h.ip han
    dsimp only at HRC
    generalize rg regs (a : Int) = x at *
    clear ht0 ht1 ha0 ha1 he0 he1
    go_enter Try.func54, Try.ntmps54
    go_upto_region 1 with fail
    generalize w.alloc (.cells #[.int .i64 2, .int .i64 (a : Int), .int .i64 (tn : Int), .int .i64 (en : Int)] 43) = W0 at *
    have f7 := hG.ip.row.cell 7; have b0 := hG.bx.cell 0; have r7 := hG.ip.row.frozen 7
    simp only [List.getElem?_toArray, List.getElem?_cons_zero, List.getElem?_cons_succ] at f7 b0
    have hG1 := hG.ip.pSteps (steps + 1)
    have hB1 := blwq hG.below hlq 7 (.int .i64 ((steps + 1 : Nat) : Int))
    have hX1 := hG.bx.far (q := ⟨q, 7, none⟩) (by show w.heap.size ≠ q; omega) (.int .i64 ((steps + 1 : Nat) : Int))
    have HG0 := Lib.hid (show TW w ⟨2, (a : Int), (tn : Int), (en : Int)⟩ lo q (some ⟨ga, 0, none⟩) rc SA sc TA tc BA bl bc ⟨st, blk, pos, val, regs, tr, steps + 1⟩ (W0.setCell ⟨q, 7, none⟩ (.int .i64 ((steps : Int) + 1))) from ⟨hG1, hB1, hX1⟩)
    clear hG hG1 hB1 hX1
    go_upto_region 4 with fail
    clear f7 r7 b0
    generalize W0.setCell ⟨q, 7, none⟩ (.int .i64 ((steps : Int) + 1)) = W1 at *
    have b0 := HG0.out.bx.cell 0; have b1 := HG0.out.bx.cell 1; have b2 := HG0.out.bx.cell 2; have b3 := HG0.out.bx.cell 3
    simp only [List.getElem?_toArray, List.getElem?_cons_zero, List.getElem?_cons_succ] at b0 b1 b2 b3
    have hq1 : q < W1.heap.size := HG0.out.ip.row.lt
    go_wp2_with fail
    refine (succ2_any _ _ _ _).mono ?_
    rintro e W2 ⟨g, rfl, hg0, hg1, hgc, hgd, hb2⟩
    have HG2 := Lib.hid (HG0.out.next hb2)
    have f1 := HG2.out.ip.row.cell 1; have f2 := HG2.out.ip.row.cell 2; have f4 := HG2.out.ip.row.cell 4; have r1 := HG2.out.ip.row.frozen 1; have r2 := HG2.out.ip.row.frozen 2
    have e0 := HG2.out.bx.cell 0; have e1 := HG2.out.bx.cell 1
    have hxc := HRC.out _ HG2.out
    simp only [List.getElem?_toArray, List.getElem?_cons_zero, List.getElem?_cons_succ] at f1 f2 f4 e0 e1
    have hne : ¬ w.heap.size = q := by omega
    have hne2 : ¬ g = q := by omega
    have HB2 := Lib.hid hb2
    clear b0 b1 b2 b3 HG0 hb2 HRC
    by_cases hx : x = 0
    · subst hx
      rw [Hid, if_pos rfl] at HX
      have HX3 := Lib.hid HX
      clear HX
      go_upto_region 6 with fail
      go_quiet (fail)
      have hI3 := ((HG2.out.ip.pBlk tn).pPos 0).drewN nq
      have hB3 := blw_drewN (blwq (blwq HG2.out.below hlq 1 (.int .i64 (tn : Int))) hlq 2 (.int .i64 ((0 : Nat) : Int))) nq
      have HI3 := Lib.hid (And.intro hI3 hB3)
      have f9 := hI3.row.cell 1; have r9 := hI3.row.frozen 1
      simp only [List.getElem?_toArray, List.getElem?_cons_zero, List.getElem?_cons_succ] at f9
      clear hI3 hB3
      go_wp2
      go_end0
      rw [HX3.out]
      first
        | exact ⟨rfl, _, _, _, _, HI3.out.1.pBlk en, blwq HI3.out.2 hlq 1 _⟩
        | exact ⟨rfl, _, _, _, _, (((HG2.out.ip.pBlk tn).pPos 0).pBlk en).drewN nq, blw_drewN (blwq (blwq (blwq HG2.out.below hlq 1 _) hlq 2 _) hlq 1 _) nq⟩
        | trace_state
    · have hx0 : (x == 0) = false := by simp [hx]
      rw [Hid, if_neg hx] at HX
      have HX3 := Lib.hid HX
      clear HX
      clear hx
      go_upto_region 6 with fail
      go_quiet (fail)
      go_wp2
      go_end0
      rw [HX3.out]
      exact ⟨rfl, _, _, _, _, ((HG2.out.ip.pBlk tn).pPos 0).drewN _, blw_drewN (blwq (blwq HG2.out.below hlq 1 _) hlq 2 _) _⟩
  · dsimp only at hk ha0 ha1
    subst hk
    obtain ⟨a, rfl⟩ := Int.eq_ofNat_of_zero_le ha0
    have han : a < regs.length := by omega
    have HX : Hid (leav ⟨3, (a : Int), tt, el⟩ ⟨st, blk, pos, val, regs, tr, steps⟩ = ⟨1, blk, pos, rg regs (a : Int), regs, tr, steps + 1⟩) := by
      rw [Hid, leav, if_pos rfl]
    obtain ⟨g, rfl, hga⟩ := regs_at hG.ip.v.regs han
    have hgq : ¬ g = q := hG.ip.nr g rfl
    clear ha0 ha1
    go_enter Try.func54, Try.ntmps54
    go_upto_region 1 with fail
    generalize w.alloc (.cells #[.int .i64 3, .int .i64 (a : Int), .int .i64 tt, .int .i64 el] 43) = W0 at *
    have f0 := hG.ip.row.cell 0; have f3 := hG.ip.row.cell 3; have f4 := hG.ip.row.cell 4; have f7 := hG.ip.row.cell 7; have b0 := hG.bx.cell 0; have b1 := hG.bx.cell 1; have r0 := hG.ip.row.frozen 0; have r3 := hG.ip.row.frozen 3; have r7 := hG.ip.row.frozen 7
    simp only [List.getElem?_toArray, List.getElem?_cons_zero, List.getElem?_cons_succ] at f0 f3 f4 f7 b0 b1
    have HG := Lib.hid hG
    clear hG
    generalize rg regs (a : Int) = x at *
    go_upto_region 3 with fail
    go_region
    go_wp2
    (try simp only [Exit.inBlock, Exit.then])
    refine bodyPost_ret (v := .tuple #[]) (results_none rfl _ _ _) rfl ?_
    rw [HX.out]
    exact ⟨rfl, _, _, _, _, (((HG.out.ip.pSteps (steps + 1)).pSt 1).pVal x).drew, Below.drew (blwq (blwq (blwq HG.out.below hlq 7 _) hlq 0 _) hlq 3 _)⟩

end Go.Proofs.Ytcoehkphdfejjaa

/-
  The program's step.
-/
namespace Go.Proofs.Ytcoehkphdfejjaa
open Go.RowKit
set_option linter.unusedVariables false

set_option maxRecDepth 100000 in
set_option maxHeartbeats 4000000 in
theorem step_any (bs : List Blk) (r : Rn) (B lo q : Nat) (RA SA TA BA : Option Addr) (rc sc tc bc : Nat) (w : World) (hI : Ip w lo q RA rc SA sc TA tc BA bs.length bc r) (hs : BlksAt w B BA bs) (hB : B ≤ lo) (hF : OkF r.regs.length bs) (hG : Good r.regs.length bs r) (h0 : r.st = 0) (hst : r.steps ≤ 1000000) (hrl : r.regs.length ≤ 1000000) (hn : codeN bs ≤ 1000000) (hm : bs.length ≤ 1000) :
    Calls Try.prog 38 #[.pointer (some ⟨q, 0, none⟩)] w fun e w' => e = .returned (.tuple #[]) ∧ IpP w lo q SA sc BA bs.length bc (stepR bs r) w' := by
  have hqw : q < w.heap.size := hI.row.lt
  have hlq := hI.lt
  have htr : r.trace.length ≤ 1000000 := Nat.le_trans hG.tr hst
  obtain ⟨b, o, rfl, hb, hat⟩ := hs.at_ hG.blk
  obtain ⟨A1, c1, hc0, hl1, hl2, hin⟩ := hat.code
  have hcl := codeN_mem bs r.blk hG.blk
  have hgb := hG.blk
  have hpl : r.pos ≤ bs[r.blk].code.length := by have := hG.pos; rwa [blkAt_lt hG.blk] at this
  have hbk : (r.blk : Int) < bs.length := by have := hG.blk; omega
  have f1 := hI.row.cell 1; have f2 := hI.row.cell 2; have f8 := hI.row.cell 8
  simp only [List.getElem?_toArray, List.getElem?_cons_zero, List.getElem?_cons_succ] at f1 f2 f8
  have HI := Lib.hid hI
  have hxy : blkAt bs r.blk = bs[r.blk] := blkAt_lt hG.blk
  have hbq : ¬ b = q := by omega
  by_cases hlt : r.pos < bs[r.blk].code.length
  · have HX : Hid (stepR bs r = perf (bs[r.blk].code[r.pos]) r) := by
      have hlt' : r.pos < (blkAt bs r.blk).code.length := by rw [hxy]; exact hlt
      rw [Hid, stepR, if_pos h0, dif_pos hlt']
      congr 1
      simp only [hxy]
    have hio := hF.ins _ (List.getElem_mem hG.blk) _ (List.getElem_mem hlt)
    obtain ⟨b1, o1, rfl, hb1, hi⟩ := hin.at_ hlt
    have C1 := Lib.hid fun (W : World) (n : Nat) (h : Ip W lo q RA rc SA sc TA tc (some ⟨b, o, none⟩) bs.length bc r) => perf_any (bs[r.blk].code[r.pos]) r lo q RA SA TA (some ⟨b, o, none⟩) rc sc tc bs.length bc W h hio hG.wf (by omega) hst htr hrl
    have e0 := hi.c0; have e1 := hi.c1; have e2 := hi.c2; have e3 := hi.c3; have e4 := hi.c4
    have hlt2 : (r.pos : Int) < bs[r.blk].code.length := by omega
    clear hat hs hI hF hi hin hl1 hl2 hpl hxy hio
    generalize bs[r.blk].code[r.pos] = x at *
    generalize bs[r.blk] = y at *
    generalize hN : bs.length = nb at *
    generalize r.blk = kb at *
    generalize r.pos = kp at *
    go_enter Try.func38, Try.ntmps38
    go_wp2
    go_quiet (fail)
    revert nq
    intro n1
    go_wp2
    go_quiet (fail)
    go_upto_region 2 with fail
    have HI5 := Lib.hid ((HI.out.drewN n1).drewN nq)
    have HB5 := Lib.hid (blw_drewN (blw_drewN (Below.refl lo w) n1) nq)
    have HC := Lib.hid (show ((w.drewN n1).drewN nq).cell? ⟨q, 2, none⟩ = some (.int .i64 (kp : Int)) ∧ ((w.drewN n1).drewN nq).cell? ⟨b, o + kb * 5, none⟩ = some (.slice (some ⟨b1, o1, none⟩) y.code.length c1) ∧ ((w.drewN n1).drewN nq).cell? ⟨b1, o1 + kp * 5, none⟩ = some (.int .i64 x.op) ∧ ((w.drewN n1).drewN nq).cell? ⟨b1, o1 + kp * 5 + 1, none⟩ = some (.int .i64 x.d) ∧ ((w.drewN n1).drewN nq).cell? ⟨b1, o1 + kp * 5 + 2, none⟩ = some (.int .i64 x.a) ∧ ((w.drewN n1).drewN nq).cell? ⟨b1, o1 + kp * 5 + 3, none⟩ = some (.int .i64 x.b) ∧ ((w.drewN n1).drewN nq).cell? ⟨b1, o1 + kp * 5 + 4, none⟩ = some (.int .i64 x.imm) from ⟨f2, hc0, e0, e1, e2, e3, e4⟩)
    clear f1 f2 f8 hc0 e0 e1 e2 e3 e4 HI
    generalize (w.drewN n1).drewN nq = W5 at *
    obtain ⟨f2, hc0, e0, e1, e2, e3, e4⟩ := HC.out
    clear HC
    go_still_tail 12, (by kernel_rfl)
    change wpList _ _ _ _ _ W5.drew
    go_wp2_with fail
    refine (C1.out _ 0 HI5.out.drew).mono ?_
    rintro e W6 ⟨rfl, hI6⟩
    have HI6 := Lib.hid hI6
    clear hI6
    go_wp2
    go_end0
    rw [HX.out]
    obtain ⟨RB, rd, TB, td, h1, h2⟩ := HI6.out
    exact ⟨rfl, RB, rd, TB, td, h1, HB5.out.trans (below_un h2 (Nat.le_refl _))⟩
  · have HX : Hid (stepR bs r = leav bs[r.blk].term r) := by
      have hlt' : ¬ r.pos < (blkAt bs r.blk).code.length := by rw [hxy]; exact hlt
      rw [Hid, stepR, if_pos h0, dif_neg hlt', hxy]
    have hto := hF.tm _ (List.getElem_mem hG.blk)
    have C1 := Lib.hid fun (W : World) (n : Nat) (h : Ip W lo q RA rc SA sc TA tc (some ⟨b, o, none⟩) bs.length bc r) => leave_any bs[r.blk].term r bs.length lo q RA SA TA (some ⟨b, o, none⟩) rc sc tc bs.length bc W h hto hst hrl
    have t0 := hat.t0; have t1 := hat.t1; have t2 := hat.t2; have t3 := hat.t3
    have hlt2 : (bs[r.blk].code.length : Int) ≤ r.pos := by omega
    clear hat hs hI hF hin hl1 hl2 hpl hxy hto
    generalize bs[r.blk] = y at *
    generalize hN : bs.length = nb at *
    generalize r.blk = kb at *
    generalize r.pos = kp at *
    go_enter Try.func38, Try.ntmps38
    go_wp2
    go_quiet (fail)
    revert nq
    intro n1
    go_wp2
    go_quiet (fail)
    go_wp2_with fail
    refine (C1.out _ 0 (HI.out.drewN (n1 + nq))).mono ?_
    rintro e W6 ⟨rfl, hI6⟩
    have HI6 := Lib.hid hI6
    clear hI6
    go_wp2
    go_end0
    rw [HX.out]
    obtain ⟨RB, rd, TB, td, h1, h2⟩ := HI6.out
    exact ⟨rfl, RB, rd, TB, td, h1, below_unN h2 (Nat.le_refl _)⟩

end Go.Proofs.Ytcoehkphdfejjaa

/-
  The program's Exec.
-/
namespace Go.Proofs.Ytcoehkphdfejjaa
open Go.RowKit
set_option linter.unusedVariables false
set_option linter.unusedSimpArgs false

set_option maxRecDepth 100000 in
set_option maxHeartbeats 2000000 in
theorem exec_bad (na : Nat) (regs : Int) (FA AA : Option Addr) (bl bc ac : Nat) (fa fuel : Int) (w : World) (h : ¬ (na : Int) = fa) (hm : na ≤ maxLen) :
    Calls Try.prog 16 #[.agg #[.int .i64 fa, .int .i64 regs, .slice FA bl bc], .slice AA na ac, .int .i64 fuel] w (RunQ w zrun 32) := by
  have hb0 := ((Below.refl w.heap.size w).alloc (Nat.le_refl _) (.cells #[.int .i64 fa, .int .i64 regs, .slice FA bl bc] 24)).alloc (by simp) (.cells #[.int .i64 0, .int .i64 0, .int .i64 0, .int .i64 0, .slice none 0 0, .slice none 0 0, .slice none 0 0, .int .i64 0] 54)
  have hrs := Row.new' (W := w.alloc (.cells #[.int .i64 fa, .int .i64 regs, .slice FA bl bc] 24)) (p := w.heap.size + 1) (by simp) 54 #[.int .i64 0, .int .i64 0, .int .i64 0, .int .i64 0, .slice none 0 0, .slice none 0 0, .slice none 0 0, .int .i64 0]
  have HB := Lib.hid hb0
  have HR := Lib.hid hrs
  clear hb0 hrs
  have C1 := Lib.hid fun W => start_bad na [] regs FA AA bl bc ac fa W h hm
  clear h hm
  go_enter Try.func16, Try.ntmps16
  go_wp2_with fail
  refine (C1.out _).mono ?_
  rintro e W1 ⟨RA, rc, SA, sc, TA, tc, rfl, hv, hb⟩
  have hrow := HR.out.below hb HR.out.lt
  have g0 := hrow.cell 0; have g1 := hrow.cell 1; have g2 := hrow.cell 2; have g3 := hrow.cell 3; have g4 := hrow.cell 4; have g5 := hrow.cell 5; have g6 := hrow.cell 6; have g7 := hrow.cell 7
  have r0 := hrow.frozen 0; have r1 := hrow.frozen 1; have r2 := hrow.frozen 2; have r3 := hrow.frozen 3; have r4 := hrow.frozen 4; have r5 := hrow.frozen 5; have r6 := hrow.frozen 6; have r7 := hrow.frozen 7
  simp only [List.getElem?_toArray, List.getElem?_cons_zero, List.getElem?_cons_succ] at g0 g1 g2 g3 g4 g5 g6 g7
  have hlt := hrow.lt
  have HB1 := Lib.hid (HB.out.trans (hb.mono HB.out.size))
  clear hrow hv hb HB HR C1
  go_wp2
  (try simp only [Exit.inBlock, Exit.then])
  have hb9 := blw8 (p := w.heap.size + 1) (by omega) HB1.out (.int .i64 0) (.int .i64 0) (.int .i64 0) (.int .i64 0) (.slice none 0 0) (.slice none 0 0) (.slice none 0 0) (.int .i64 0)
  refine bodyPost_ret (v := .tuple #[.agg #[.int .i64 0, .int .i64 0, .int .i64 0, .int .i64 0, .slice none 0 0, .slice none 0 0, .slice none 0 0, .int .i64 0], .int .i64 32]) ?_ rfl ⟨none, 0, none, 0, none, 0, rfl, RunV.zero _ _, hb9.alloc hb9.size _⟩
  rw [results_cell_tmp rfl]
  go_simp

set_option maxRecDepth 100000 in
set_option maxHeartbeats 4000000 in
theorem exec_any (args : List Int) (n : Nat) (bs : List Blk) (B : Nat) (BA AA : Option Addr) (bc ac : Nat) (fuel : Int) (w : World) (hs : Sees w B AA (ints args)) (hbs : BlksAt w B BA bs) (hB : B ≤ w.heap.size) (hn : n ≤ 1000) (hl : args.length ≤ n) (hF : OkF n bs) (hwa : ∀ v ∈ args, InI v) (hcn : codeN bs ≤ 1000000) (hm : bs.length ≤ 1000) (hfu : fuel ≤ 1000000) :
    Calls Try.prog 16 #[.agg #[.int .i64 args.length, .int .i64 n, .slice BA bs.length bc], .slice AA args.length ac, .int .i64 fuel] w (RunQ w (runR bs (rn0 n args) fuel.toNat) 0) := by
  have hb0 := ((Below.refl w.heap.size w).alloc (Nat.le_refl _) (.cells #[.int .i64 args.length, .int .i64 n, .slice BA bs.length bc] 24)).alloc (by simp) (.cells #[.int .i64 0, .int .i64 0, .int .i64 0, .int .i64 0, .slice none 0 0, .slice none 0 0, .slice none 0 0, .int .i64 0] 54)
  have hbx := (Row.new w 24 #[.int .i64 args.length, .int .i64 n, .slice BA bs.length bc]).alloc (.cells #[.int .i64 0, .int .i64 0, .int .i64 0, .int .i64 0, .slice none 0 0, .slice none 0 0, .slice none 0 0, .int .i64 0] 54)
  have hrs := Row.new' (W := w.alloc (.cells #[.int .i64 args.length, .int .i64 n, .slice BA bs.length bc] 24)) (p := w.heap.size + 1) (by simp) 54 #[.int .i64 0, .int .i64 0, .int .i64 0, .int .i64 0, .slice none 0 0, .slice none 0 0, .slice none 0 0, .int .i64 0]
  have hsz : ((w.alloc (.cells #[.int .i64 args.length, .int .i64 n, .slice BA bs.length bc] 24)).alloc (.cells #[.int .i64 0, .int .i64 0, .int .i64 0, .int .i64 0, .slice none 0 0, .slice none 0 0, .slice none 0 0, .int .i64 0] 54)).heap.size = w.heap.size + 1 + 1 := by simp
  have C1 := Lib.hid (start_any args n w.heap.size BA AA bs.length bc ac _ ((hs.more hB).below hb0) hb0.size hn hl)
  have HB := Lib.hid hb0
  have HX := Lib.hid hbx
  have HR := Lib.hid hrs
  have HZ := Lib.hid hsz
  have HBS := Lib.hid (hbs.more hB)
  have HG0 := Lib.hid (start_good hF hl hwa)
  have HL := Lib.hid hl
  clear hb0 hbx hrs hsz hs hbs hl hwa
  go_enter Try.func16, Try.ntmps16
  go_wp2_with fail
  refine C1.out.mono ?_
  generalize ((w.alloc (.cells #[.int .i64 args.length, .int .i64 n, .slice BA bs.length bc] 24)).alloc (.cells #[.int .i64 0, .int .i64 0, .int .i64 0, .int .i64 0, .slice none 0 0, .slice none 0 0, .slice none 0 0, .int .i64 0] 54)) = W0 at *
  rintro e W1 ⟨RA, rc, SA, sc, TA, tc, rfl, hv, hb⟩
  have hr0 : (rn0 n args).regs.length = n := by show (args ++ List.replicate (n - args.length) 0).length = n; rw [List.length_append, List.length_replicate]; have := HL.out; omega
  have hv2 := hv.base (lo' := w.heap.size + 1 + 1) (by have := HZ.out; omega)
  have hbx1 := HX.out.below hb HX.out.lt
  have hrs1 := HR.out.below hb HR.out.lt
  have hz1 : w.heap.size + 1 + 1 ≤ W1.heap.size := by have := HZ.out; have := hb.size; omega
  have HB1 := Lib.hid (HB.out.trans (hb.mono HB.out.size))
  have HV := Lib.hid hv2
  have HX1 := Lib.hid hbx1
  have HR1 := Lib.hid hrs1
  have HR0 := Lib.hid hr0
  have d2 := hbx1.cell 2
  simp only [List.getElem?_toArray, List.getElem?_cons_zero, List.getElem?_cons_succ] at d2
  clear hv hv2 hb hbx1 hrs1 HB HX HR HZ C1 hr0
  have hw1 : w.heap.size < W1.heap.size := by omega
  have hbz := ((Below.refl W1.heap.size W1).alloc (Nat.le_refl _) (.cells #[.int .i64 (rn0 n args).st, .int .i64 ((rn0 n args).blk : Int), .int .i64 ((rn0 n args).pos : Int), .int .i64 (rn0 n args).val, .slice RA (rn0 n args).regs.length rc, .slice SA 0 sc, .slice TA (rn0 n args).trace.length tc, .int .i64 ((rn0 n args).steps : Int)] 54)).alloc (by simp) (.cells #[.int .i64 (rn0 n args).st, .int .i64 ((rn0 n args).blk : Int), .int .i64 ((rn0 n args).pos : Int), .int .i64 (rn0 n args).val, .slice RA (rn0 n args).regs.length rc, .slice SA 0 sc, .slice TA (rn0 n args).trace.length tc, .int .i64 ((rn0 n args).steps : Int), .slice BA bs.length bc] 81)
  have hI : Ip ((W1.alloc (.cells #[.int .i64 (rn0 n args).st, .int .i64 ((rn0 n args).blk : Int), .int .i64 ((rn0 n args).pos : Int), .int .i64 (rn0 n args).val, .slice RA (rn0 n args).regs.length rc, .slice SA 0 sc, .slice TA (rn0 n args).trace.length tc, .int .i64 ((rn0 n args).steps : Int)] 54)).alloc (.cells #[.int .i64 (rn0 n args).st, .int .i64 ((rn0 n args).blk : Int), .int .i64 ((rn0 n args).pos : Int), .int .i64 (rn0 n args).val, .slice RA (rn0 n args).regs.length rc, .slice SA 0 sc, .slice TA (rn0 n args).trace.length tc, .int .i64 ((rn0 n args).steps : Int), .slice BA bs.length bc] 81)) (w.heap.size + 1 + 1) (W1.heap.size + 1) RA rc SA sc TA tc BA bs.length bc (rn0 n args) :=
    ⟨Row.new' (p := W1.heap.size + 1) (by simp) _ _, HV.out.below hbz, by omega⟩
  have HI0 := Lib.hid hI
  have HR2 := Lib.hid (HR1.out.below hbz HR1.out.lt)
  have HB2 := Lib.hid (HB1.out.trans (hbz.mono HB1.out.size))
  have HS0 := Lib.hid (show (rn0 n args).st = 0 ∧ (rn0 n args).steps = 0 from ⟨rfl, rfl⟩)
  have hfu2 : fuel ≤ 1073741824 := by omega
  clear hbz hI HR1 HB1 HX1 HV
  go_upto_region 5 with fail
  clear d2
  go_wp2
  go_loopg [] fuel.toNat (fun g wr => ∃ (k : Nat) (RB : Option Addr) (rd : Nat) (TB : Option Addr) (td : Nat), k + g = fuel.toNat ∧ Hid (Ip wr (w.heap.size + 1 + 1) (W1.heap.size + 1) RB rd SA sc TB td BA bs.length bc (runR bs (rn0 n args) k)) ∧ Hid (Row wr (w.heap.size + 1) 54 #[.int .i64 0, .int .i64 0, .int .i64 0, .int .i64 0, .slice none 0 0, .slice none 0 0, .slice none 0 0, .int .i64 0]) ∧ Hid (Below w.heap.size w wr))
  case atStart => exact ⟨0, RA, rc, TA, tc, by omega, HI0.out, HR2.out, HB2.out⟩
  case round =>
    obtain ⟨k, RB, rd, TB, td, hk, HI, HRW, HBW⟩ := hrel
    have hgd := run_good hF HG0.out k
    have hsp := run_steps bs (rn0 n args) k
    have hstop := run_stop bs (rn0 n args) (n := k)
    have hkn : (runR bs (rn0 n args) k).st = 0 → (runR bs (rn0 n args) (k + 1)) = stepR bs (runR bs (rn0 n args) k) := fun _ => rfl
    rw [HS0.out.2, Nat.zero_add] at hsp
    have HGD := Lib.hid hgd
    have HSP := Lib.hid hsp
    have HST := Lib.hid hstop
    have HKN : Hid (runR bs (rn0 n args) (k + 1) = stepR bs (runR bs (rn0 n args) k)) := rfl
    have HFIN : Hid (¬ (k : Int) < fuel → runR bs (rn0 n args) fuel.toNat = runR bs (rn0 n args) k) := fun h => by rw [show fuel.toNat = k by omega]
    have HFX: Hid (¬ (runR bs (rn0 n args) k).st = 0 → runR bs (rn0 n args) fuel.toNat = runR bs (rn0 n args) k) := fun h => by rw [← hk]; exact hstop h gk
    have hk9 : (k : Int) ≤ 1000000 := by omega
    clear HI0 HR2 HB2 hgd hsp hstop hkn
    generalize hr : runR bs (rn0 n args) k = r at *
    have HRR := Lib.hid hr
    clear hr
    have f0 := HI.out.row.cell 0; have f7 := HI.out.row.cell 7
    simp only [List.getElem?_toArray, List.getElem?_cons_zero, List.getElem?_cons_succ] at f0 f7
    have hq9 : W1.heap.size + 1 < wr.heap.size := HI.out.row.lt
    by_cases h0 : r.st = 0
    · have e0 : (r.st == 0) = true := by simp [h0]
      have hsk : r.steps = k := HSP.out.2.2 h0
      by_cases hkf : (k : Int) < fuel
      · have hlt : (r.steps : Int) < fuel := by omega
        have hgp : 0 < gk := by omega
        have hn9 := HGD.out.len
        have C2 := Lib.hid (step_any bs r w.heap.size (w.heap.size + 1 + 1) (W1.heap.size + 1) RB SA TB BA rd sc td bc wr HI.out (HBS.out.below HBW.out) (by omega) (by rw [hn9]; exact hF) (by rw [hn9]; exact HGD.out) h0 (by omega) (by omega) hcn hm)
        have HH := Lib.hid (And.intro h0 (And.intro hsk (And.intro hgp hk)))
        clear h0 hsk hgp hk hn9
        go_wp2_with fail
        refine C2.out.mono ?_
        rintro e W4 ⟨rfl, RC, re, TC, te, hI4, hb4⟩
        have HI4 := Lib.hid hI4
        have HR4 := Lib.hid (HRW.out.below hb4 (by omega))
        have HB4 := Lib.hid (HBW.out.trans (hb4.mono (by omega)))
        clear hI4 hb4 f0 f7 C2
        go_wp2
        go_roundg (gk - 1)
        case measure => have := HH.out.2.2.1; omega
        case rel => exact ⟨k + 1, RC, re, TC, te, by have := HH.out.2.2; omega, by rw [Hid, HKN.out]; exact HI4.out, HR4.out, HB4.out⟩
      · have hlt : fuel ≤ (r.steps : Int) := by omega
        have HE := Lib.hid (HFIN.out hkf)
        clear hkf h0 hsk hk
        have f1 := HI.out.row.cell 1; have f2 := HI.out.row.cell 2; have f3 := HI.out.row.cell 3; have f4 := HI.out.row.cell 4; have f5 := HI.out.row.cell 5; have f6 := HI.out.row.cell 6
        have g0 := HRW.out.cell 0; have g1 := HRW.out.cell 1; have g2 := HRW.out.cell 2; have g3 := HRW.out.cell 3; have g4 := HRW.out.cell 4; have g5 := HRW.out.cell 5; have g6 := HRW.out.cell 6; have g7 := HRW.out.cell 7
        have r0' := HRW.out.frozen 0; have r1 := HRW.out.frozen 1; have r2 := HRW.out.frozen 2; have r3 := HRW.out.frozen 3; have r4 := HRW.out.frozen 4; have r5 := HRW.out.frozen 5; have r6 := HRW.out.frozen 6; have r7 := HRW.out.frozen 7
        simp only [List.getElem?_toArray, List.getElem?_cons_zero, List.getElem?_cons_succ] at f1 f2 f3 f4 f5 f6 g0 g1 g2 g3 g4 g5 g6 g7
        go_wp2
        (try simp only [Exit.inBlock, Exit.then])
        rw [HE.out]
        refine bodyPost_ret (v := .tuple #[.agg #[.int .i64 r.st, .int .i64 (r.blk : Int), .int .i64 (r.pos : Int), .int .i64 r.val, .slice RB r.regs.length rd, .slice SA 0 sc, .slice TB r.trace.length td, .int .i64 (r.steps : Int)], .int .i64 0]) ?_ rfl ⟨RB, rd, SA, sc, TB, td, rfl, (HI.out.v.mods (mods8 wr (w.heap.size + 1) _ _ _ _ _ _ _ _) (fun k hk => .inl (by unfold Is at hk; omega))).base (by omega), blw8 (by omega) HBW.out _ _ _ _ _ _ _ _⟩
        rw [results_cell_tmp rfl]
        go_simp
    · have e0 : (r.st == 0) = false := by simp [h0]
      have HE := Lib.hid (HFX.out h0)
      clear h0 hk
      have f1 := HI.out.row.cell 1; have f2 := HI.out.row.cell 2; have f3 := HI.out.row.cell 3; have f4 := HI.out.row.cell 4; have f5 := HI.out.row.cell 5; have f6 := HI.out.row.cell 6
      have g0 := HRW.out.cell 0; have g1 := HRW.out.cell 1; have g2 := HRW.out.cell 2; have g3 := HRW.out.cell 3; have g4 := HRW.out.cell 4; have g5 := HRW.out.cell 5; have g6 := HRW.out.cell 6; have g7 := HRW.out.cell 7
      have r0' := HRW.out.frozen 0; have r1 := HRW.out.frozen 1; have r2 := HRW.out.frozen 2; have r3 := HRW.out.frozen 3; have r4 := HRW.out.frozen 4; have r5 := HRW.out.frozen 5; have r6 := HRW.out.frozen 6; have r7 := HRW.out.frozen 7
      simp only [List.getElem?_toArray, List.getElem?_cons_zero, List.getElem?_cons_succ] at f1 f2 f3 f4 f5 f6 g0 g1 g2 g3 g4 g5 g6 g7
      go_wp2
      (try simp only [Exit.inBlock, Exit.then])
      rw [HE.out]
      refine bodyPost_ret (v := .tuple #[.agg #[.int .i64 r.st, .int .i64 (r.blk : Int), .int .i64 (r.pos : Int), .int .i64 r.val, .slice RB r.regs.length rd, .slice SA 0 sc, .slice TB r.trace.length td, .int .i64 (r.steps : Int)], .int .i64 0]) ?_ rfl ⟨RB, rd, SA, sc, TB, td, rfl, (HI.out.v.mods (mods8 wr (w.heap.size + 1) _ _ _ _ _ _ _ _) (fun k hk => .inl (by unfold Is at hk; omega))).base (by omega), blw8 (by omega) HBW.out _ _ _ _ _ _ _ _⟩
      rw [results_cell_tmp rfl]
      go_simp

end Go.Proofs.Ytcoehkphdfejjaa
