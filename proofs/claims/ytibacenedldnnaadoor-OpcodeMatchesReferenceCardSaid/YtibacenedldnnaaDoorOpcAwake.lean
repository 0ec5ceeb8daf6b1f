/-
  The fixed examples that every statement of layer 5 checks first: they come out true.
-/
import Derived.Test.YtibacenedldnnaaDoorOpcFind
namespace Go.Proofs.YtibacenedldnnaaDoor
open Go.RowKit

/-- What a walk carries from call to call: only new blocks since the start, and the program's table as it was. -/
structure St (w0 w : World) : Prop where
  below : Below w0.heap.size w0 w
  tab : Tab w
theorem St.start {w : World} (h : Tab w) : St w w := ⟨Below.refl _ _, h⟩
theorem St.next {w0 w w' : World} (h : St w0 w) (hb : Below w.heap.size w w') : St w0 w' :=
  ⟨h.below.trans (hb.mono h.below.size), h.tab.on hb⟩
theorem St.alloc {w0 w : World} (h : St w0 w) (o : Obj) : St w0 (w.alloc o) := h.next ((Below.refl _ _).alloc (Nat.le_refl _) o)

/-- A new block of four cells reads in later worlds as it was laid. -/
theorem kept4 {w1 w2 : World} {a b c d : Value} {t : TypeId} (hb : Below (w1.alloc (.cells #[a, b, c, d] t)).heap.size (w1.alloc (.cells #[a, b, c, d] t)) w2) :
    w2.cell? ⟨w1.heap.size, 0, none⟩ = some a ∧ w2.cell? ⟨w1.heap.size, 1, none⟩ = some b ∧ w2.cell? ⟨w1.heap.size, 2, none⟩ = some c ∧ w2.cell? ⟨w1.heap.size, 3, none⟩ = some d := by
  have hlt : w1.heap.size < (w1.alloc (.cells #[a, b, c, d] t)).heap.size := by simp
  have e := fun i => hb.cell (p := ⟨w1.heap.size, i, none⟩) hlt
  have hh : (w1.alloc (.cells #[a, b, c, d] t)).heap[w1.heap.size]? = some (.cells #[a, b, c, d] t) := heap_alloc_new w1 _
  refine ⟨?_, ?_, ?_, ?_⟩
  · rw [e 0, cell_of_row _ _ 0 _ _ _ hh]; rfl
  · rw [e 1, cell_of_row _ _ 1 _ _ _ hh]; rfl
  · rw [e 2, cell_of_row _ _ 2 _ _ _ hh]; rfl
  · rw [e 3, cell_of_row _ _ 3 _ _ _ hh]; rfl

theorem find_at (l : List UInt8) (n : Nat) (w : World) (hn : fnd l = n) (ht : Tab w) :
    Calls Tryd.prog 14 #[.string ⟨l.toArray⟩] w fun e w' => e = .returned (.int .i64 n) ∧ w = w' := by
  subst hn; exact find_any ⟨l.toArray⟩ w ht
theorem name_at (op : Int) (s : ByteArray) (w : World) (hs : nameB op = s) (ht : Tab w) :
    Calls Tryd.prog 12 #[.int .i64 op] w fun e w' => e = .returned (.string s) ∧ w = w' := by
  subst hs; exact name_any op w ht

theorem fnd_mul : fnd [109, 117, 108] = 7 := by decide
theorem fnd_jump : fnd [106, 117, 109, 112] = 0 := by decide
theorem fnd_empty : fnd [] = 0 := by decide

set_option maxRecDepth 100000 in
set_option maxHeartbeats 1000000 in
theorem awake_any (w : World) (ht : Tab w) : Calls Tryd.prog 6 #[] w fun e w' => e = .returned (.bool true) ∧ St w w' := by
  have hst := St.start ht
  go_enter Tryd.func6, Tryd.ntmps6
  go_wp2_with fail
  refine (of_at 7 true true true false true _ rfl rfl rfl rfl rfl).mono ?_
  rintro e w1 ⟨rfl, hb⟩
  replace hst := (hst.next hb).alloc (.cells #[.bool true, .bool true, .bool true, .bool false] 24); clear hb
  go_wp2_with fail
  refine (of_at 0 false false false false false _ rfl rfl rfl rfl rfl).mono ?_
  rintro e w2 ⟨rfl, hb⟩
  have hb2 := hb.alloc (by have := hb.size; exact this) (.cells #[.bool false, .bool false, .bool false, .bool false] 24)
  obtain ⟨k0, k1, k2, k3⟩ := kept4 hb2
  replace hst := hst.next hb2; clear hb hb2
  go_wp2_with fail
  refine (name_at 7 ⟨#[109, 117, 108]⟩ _ rfl hst.tab).mono ?_
  rintro e w' ⟨rfl, rfl⟩
  go_wp2_with fail
  refine (find_at [109, 117, 108] 7 _ fnd_mul hst.tab).mono ?_
  rintro e w' ⟨rfl, rfl⟩
  go_wp2_with fail
  refine (find_at [106, 117, 109, 112] 0 _ fnd_jump hst.tab).mono ?_
  rintro e w' ⟨rfl, rfl⟩
  go_wp2_with fail
  refine (find_at [] 0 _ fnd_empty hst.tab).mono ?_
  rintro e w' ⟨rfl, rfl⟩
  go_wp2_with fail
  refine (source_any 2 true _ rfl).mono ?_
  rintro e w' ⟨rfl, rfl⟩
  go_wp2_with fail
  refine (machine_any 2 false _ rfl).mono ?_
  rintro e w' ⟨rfl, rfl⟩
  go_wp2_with fail
  refine (machine_any 18 true _ rfl).mono ?_
  rintro e w' ⟨rfl, rfl⟩
  go_wp2_with fail
  refine (source_any 18 false _ rfl).mono ?_
  rintro e w' ⟨rfl, rfl⟩
  go_wp2_with fail
  go_ret
  exact ⟨rfl, hst⟩

end Go.Proofs.YtibacenedldnnaaDoor
