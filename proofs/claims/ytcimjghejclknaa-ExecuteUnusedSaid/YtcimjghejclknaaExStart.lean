/-
  The program's Start.
-/
import Derived.Test.YtcimjghejclknaaExMem
import Derived.Laws.CopyOwn
import Derived.Laws.OwnMore
import Derived.Deep.OwnRows
namespace Go.Proofs.Ytcimjghejclknaa
open Go.RowKit
set_option linter.unusedVariables false

abbrev zrx : Xn := ⟨0, 0, 0, 0, [], [], [], 0⟩

set_option maxRecDepth 100000 in
set_option maxHeartbeats 2000000 in
theorem xstart_bad (na : Nat) (regs slots : Int) (FA AA : Option Addr) (bl bc ac : Nat) (fa : Int) (w : World) (h : ¬ (na : Int) = fa) (hm : na ≤ maxLen) :
    Calls Try.prog 12 #[.agg #[.int .i64 fa, .int .i64 regs, .int .i64 slots, .slice FA bl bc], .slice AA na ac] w (XQ w zrx 32) := by
  have e1 : ((na : Int) != fa) = true := by simp [h]
  unfold maxLen at hm
  have HB := Lib.hid (((Below.refl w.heap.size w).alloc (Nat.le_refl _) (.cells #[.int .i64 fa, .int .i64 regs, .int .i64 slots, .slice FA bl bc] 24)).alloc (by simp) (.cells #[.int .i64 0, .int .i64 0, .int .i64 0, .int .i64 0, .slice none 0 0, .slice none 0 0, .slice none 0 0, .int .i64 0] 29))
  clear h
  go_enter Try.func12, Try.ntmps12
  go_wp2
  (try simp only [Exit.inBlock, Exit.then])
  refine bodyPost_ret (v := .tuple #[.agg #[.int .i64 0, .int .i64 0, .int .i64 0, .int .i64 0, .slice none 0 0, .slice none 0 0, .slice none 0 0, .int .i64 0], .int .i64 32]) ?_ rfl ⟨none, 0, none, 0, none, 0, rfl, XV.zero _ _, HB.out⟩
  rw [results_cell_tmp rfl]
  go_simp

theorem reps_ints (n : Nat) : List.replicate n (Value.int .i64 0) = ints (List.replicate n 0) := by simp [ints]
/-- A new row of zeros is owned. -/
theorem own_made (W : World) (n : Nat) (hn : n ≤ 1000) : (W.alloc (.cells (madeCells #[.int .i64 0] n) 2)).ownsRow W.heap.size 2 1 (.slice (some ⟨W.heap.size, 0, none⟩) n n) n (ints (List.replicate n 0)) := by
  have hmade : (W.alloc (.cells (madeCells #[.int .i64 0] n) 2)).heap[W.heap.size]? = some (.cells (ints (List.replicate n 0)).toArray 2 (0, 0)) := by
    rw [← reps_ints, ← toList_madeCells_one, Array.toArray_toList]
    exact heap_alloc_new W _
  exact ⟨by simp [ints_length], .inr ⟨W.heap.size, n, (ints (List.replicate n 0)).toArray, rfl, Nat.le_refl _, hmade, Nat.le_refl _, by unfold maxLen; omega, by simp [ints_length], by rw [Nat.mul_one]; simp [List.take_of_length_le, ints_length]⟩⟩

set_option maxRecDepth 100000 in
set_option maxHeartbeats 2000000 in
theorem xstart_any (args : List Int) (n m : Nat) (B : Nat) (FA AA : Option Addr) (bl bc ac : Nat) (w : World) (hs : Sees w B AA (ints args)) (hB : B ≤ w.heap.size) (hn : n ≤ 1000) (hm : m ≤ 1000) (hl : args.length ≤ m) :
    Calls Try.prog 12 #[.agg #[.int .i64 args.length, .int .i64 n, .int .i64 m, .slice FA bl bc], .slice AA args.length ac] w (XQ w (xn0 n m args) 0) := by
  have hmk := fun w => run_make_row' (P := Try.prog) 25 2 (.int .i64 0) 8 Try.underlying25 infoI64 rfl .i64 .i64 m (by omega) (by omega) w
  have hmk2 := fun w => run_make_row' (P := Try.prog) 25 2 (.int .i64 0) 8 Try.underlying25 infoI64 rfl .i64 .i64 n (by omega) (by omega) w
  have e1 : ((args.length : Int) != (args.length : Int)) = false := by simp
  have hbl0 : Below w.heap.size w ((w.alloc (.cells #[.int .i64 args.length, .int .i64 n, .int .i64 m, .slice FA bl bc] 24)).alloc (.cells #[.int .i64 0, .int .i64 0, .int .i64 0, .int .i64 0, .slice none 0 0, .slice none 0 0, .slice none 0 0, .int .i64 0] 29)) := ((Below.refl _ w).alloc (Nat.le_refl _) _).alloc (by simp) _
  have hbox := (Row.new w 24 #[.int .i64 args.length, .int .i64 n, .int .i64 m, .slice FA bl bc]).alloc (.cells #[.int .i64 0, .int .i64 0, .int .i64 0, .int .i64 0, .slice none 0 0, .slice none 0 0, .slice none 0 0, .int .i64 0] 29)
  have hres := Row.new' (W := w.alloc (.cells #[.int .i64 args.length, .int .i64 n, .int .i64 m, .slice FA bl bc] 24)) (p := w.heap.size + 1) (by simp) 29 #[.int .i64 0, .int .i64 0, .int .i64 0, .int .i64 0, .slice none 0 0, .slice none 0 0, .slice none 0 0, .int .i64 0]
  have hs1 := ((hs.more hB).below hbl0)
  clear hs
  go_enter Try.func12, Try.ntmps12
  go_upto_region 1 with fail
  generalize ((w.alloc (.cells #[.int .i64 args.length, .int .i64 n, .int .i64 m, .slice FA bl bc] 24)).alloc (.cells #[.int .i64 0, .int .i64 0, .int .i64 0, .int .i64 0, .slice none 0 0, .slice none 0 0, .slice none 0 0, .int .i64 0] 29)) = W0 at *
  have d0 := hbox.cell 0; have d2 := hbox.cell 2
  simp only [List.getElem?_toArray, List.getElem?_cons_zero, List.getElem?_cons_succ] at d0 d2
  go_upto_region 4 with fail
  have hmade : (W0.alloc (.cells (madeCells #[.int .i64 0] m) 2)).heap[W0.heap.size]? = some (.cells (List.replicate m (Value.int .i64 0)).toArray 2 (0, 0)) := by
    rw [← toList_madeCells_one, Array.toArray_toList]
    exact heap_alloc_new W0 _
  have hb01 : Below W0.heap.size W0 (W0.alloc (.cells (madeCells #[.int .i64 0] m) 2)) := (Below.refl _ _).alloc (Nat.le_refl _) _
  have hlo : w.heap.size + 1 + 1 ≤ W0.heap.size := hres.lt
  have HB0 := Lib.hid hbl0
  have HX := Lib.hid hmade
  have HB1 := Lib.hid hb01
  have HS := Lib.hid hs1
  have HR := Lib.hid (And.intro hres hbox)
  clear hmade hb01 hs1 hres hbox hbl0 hmk d0 d2
  generalize W0.alloc (.cells (madeCells #[.int .i64 0] m) 2) = W1 at *
  go_wp2_with (refine wpList_copy_splice rfl (.tmp 16) (.tmp 17) 25 25 rfl 2 Try.underlying25 (by kernel_rfl) (some ⟨W0.heap.size, 0, none⟩) AA m m args.length ac rfl rfl W0.heap.size 0 (List.replicate m (Value.int .i64 0)) 2 HX.out (ints args) ?k1 ?k3 ?k2 (ints_one _) W0.heap.size W0 HB1.out (Nat.le_refl _) ?_)
  case k1 => rw [ints_length]; exact (Nat.min_eq_left hl).symm
  case k2 => rw [ints_length, List.length_replicate]; omega
  case k3 =>
    intro h0
    obtain ⟨b, o, rfl, hb, hc⟩ := HS.out (fun e => by rw [e] at h0; simp at h0)
    first | refine ⟨rfl, _, rfl, fun j v hv => ?_⟩ | refine ⟨_, rfl, fun j v hv => ?_⟩
    rw [Addr.add_lit]
    exact (HB1.out.cell (p := ⟨b, o + j, none⟩) (show b < W0.heap.size by omega)).trans (hc j v hv)
  intro W2 HG hb2
  have hres2 := HR.out.1.below hb2 HR.out.1.lt
  have hbox2 := HR.out.2.below hb2 HR.out.2.lt
  have d1 := hbox2.cell 1
  simp only [List.getElem?_toArray, List.getElem?_cons_zero, List.getElem?_cons_succ] at d1
  have hsp : splice (List.replicate m (Value.int .i64 0)) 0 (ints args) = ints (xn0 n m args).slots := by
    show List.take 0 _ ++ (ints args ++ List.drop (0 + (ints args).length) _) = ints (args ++ List.replicate (m - args.length) 0)
    rw [ints_append, List.take_zero, List.nil_append, List.drop_replicate, Nat.zero_add, ints_length]
    simp [ints]
  have hrl : (xn0 n m args).slots.length = m := by show (args ++ List.replicate (m - args.length) 0).length = m; rw [List.length_append, List.length_replicate]; omega
  have hrr : (xn0 n m args).regs.length = n := by show (List.replicate n 0).length = n; rw [List.length_replicate]
  have hown : W2.ownsRow (w.heap.size + 1 + 1) 2 1 (.slice (some ⟨W0.heap.size, 0, none⟩) m m) m (ints (xn0 n m args).slots) := by
    have h1 := HG.out
    rw [hsp] at h1
    exact ⟨by rw [ints_length, hrl]; omega, .inr ⟨W0.heap.size, m, (ints (xn0 n m args).slots).toArray, rfl, hlo, h1, Nat.le_refl _, by unfold maxLen; omega, by simp [ints_length, hrl], by rw [Nat.mul_one]; simp [List.take_of_length_le, ints_length, hrl]⟩⟩
  have hz2 : W0.heap.size < W2.heap.size := (ownS_lt hown _ rfl).2
  have hz1 : w.heap.size < W2.heap.size := by omega
  have hw2 : w.heap.size + 1 < W2.heap.size := by omega
  have g0 := hres2.cell 0; have g1 := hres2.cell 1; have g2 := hres2.cell 2; have g3 := hres2.cell 3; have g4 := hres2.cell 4; have g5 := hres2.cell 5; have g6 := hres2.cell 6; have g7 := hres2.cell 7
  have r0 := hres2.frozen 0; have r1 := hres2.frozen 1; have r2 := hres2.frozen 2; have r3 := hres2.frozen 3; have r4 := hres2.frozen 4; have r5 := hres2.frozen 5; have r6 := hres2.frozen 6; have r7 := hres2.frozen 7
  simp only [List.getElem?_toArray, List.getElem?_cons_zero, List.getElem?_cons_succ] at g0 g1 g2 g3 g4 g5 g6 g7
  have HO := Lib.hid hown
  have HB2 := Lib.hid (HB0.out.trans (hb2.mono (by omega)))
  have HL := Lib.hid (And.intro hrl hrr)
  have HRP := Lib.hid (show (xn0 n m args).regs = List.replicate n 0 from rfl)
  clear hown hres2 hbox2 hrl hrr hsp HG hb2 HX HB1 HR HS HB0
  go_wp2
  (try simp only [Exit.inBlock, Exit.then])
  refine bodyPost_ret (v := .tuple #[.agg #[.int .i64 0, .int .i64 0, .int .i64 0, .int .i64 0, .slice (some ⟨W2.heap.size, 0, none⟩) n n, .slice (some ⟨W0.heap.size, 0, none⟩) m m, .slice none 0 0, .int .i64 0], .int .i64 0]) ?_ rfl ⟨some ⟨W2.heap.size, 0, none⟩, n, some ⟨W0.heap.size, 0, none⟩, m, none, 0, by rw [HL.out.1, HL.out.2]; rfl, ?_, ?_⟩
  · rw [results_cell_tmp rfl]
    go_simp
  · have hO2 := (mods8 W2 (w.heap.size + 1) (.int .i64 0) (.int .i64 0) (.int .i64 0) (.int .i64 0) (.slice (some ⟨W2.heap.size, 0, none⟩) n n) (.slice (some ⟨W0.heap.size, 0, none⟩) m m) (.slice none 0 0) (.int .i64 0)).ownS HO.out fun k hk hs => by have := ownS_lt HO.out k hk; unfold Is at hs; omega
    refine ⟨?_, ?_, own_none _ _ _ _, fun k h1 h2 => ?_, fun k _ hk => by simp [Value.ownBlock] at hk, fun k _ hk => by simp [Value.ownBlock] at hk⟩
    · rw [HL.out.2, HRP.out]
      have hm9 := own_made ((((((((W2.setCell ⟨w.heap.size + 1, 0, none⟩ (.int .i64 0)).setCell ⟨w.heap.size + 1, 1, none⟩ (.int .i64 0)).setCell ⟨w.heap.size + 1, 2, none⟩ (.int .i64 0)).setCell ⟨w.heap.size + 1, 3, none⟩ (.int .i64 0)).setCell ⟨w.heap.size + 1, 4, none⟩ (.slice (some ⟨W2.heap.size, 0, none⟩) n n)).setCell ⟨w.heap.size + 1, 5, none⟩ (.slice (some ⟨W0.heap.size, 0, none⟩) m m)).setCell ⟨w.heap.size + 1, 6, none⟩ (.slice none 0 0)).setCell ⟨w.heap.size + 1, 7, none⟩ (.int .i64 0)) n hn
      simp only [World.size_setCell] at hm9
      exact ownS_base hm9 (by omega)
    · rw [HL.out.1]
      exact ownS_base (((Mods.refl No _).alloc _).ownS hO2 fun _ _ h => h) (by omega)
    · rw [HL.out.1] at h2
      rw [HL.out.2] at h1
      simp [Value.ownBlock] at h1 h2
      omega
  · exact (blw8 (by omega) HB2.out _ _ _ _ _ _ _ _).alloc (by have := HB2.out.size; simp; omega) _

end Go.Proofs.Ytcimjghejclknaa
