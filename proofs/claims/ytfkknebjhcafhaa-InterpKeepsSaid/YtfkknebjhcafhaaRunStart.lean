/-
  The program's Start.
-/
import Derived.Test.YtfkknebjhcafhaaRunRst
import Derived.Laws.CopyOwn
import Derived.Laws.OwnMore
import Derived.Deep.OwnRows
namespace Go.Proofs.Ytfkknebjhcafhaa
open Go.RowKit
set_option linter.unusedVariables false

abbrev zrun : Rn := ⟨0, 0, 0, 0, [], [], 0⟩

set_option maxRecDepth 100000 in
set_option maxHeartbeats 2000000 in
theorem start_bad (na : Nat) (args : List Int) (regs : Int) (FA AA : Option Addr) (bl bc ac : Nat) (fa : Int) (w : World) (h : ¬ (na : Int) = fa) (hm : na ≤ maxLen) :
    Calls Try.prog 11 #[.agg #[.int .i64 fa, .int .i64 regs, .slice FA bl bc], .slice AA na ac] w (RunQ w zrun 32) := by
  have e1 : ((na : Int) != fa) = true := by simp [h]
  unfold maxLen at hm
  have HB := Lib.hid (((Below.refl w.heap.size w).alloc (Nat.le_refl _) (.cells #[.int .i64 fa, .int .i64 regs, .slice FA bl bc] 24)).alloc (by simp) (.cells #[.int .i64 0, .int .i64 0, .int .i64 0, .int .i64 0, .slice none 0 0, .slice none 0 0, .slice none 0 0, .int .i64 0] 29))
  clear h
  go_enter Try.func11, Try.ntmps11
  go_wp2
  (try simp only [Exit.inBlock, Exit.then])
  refine bodyPost_ret (v := .tuple #[.agg #[.int .i64 0, .int .i64 0, .int .i64 0, .int .i64 0, .slice none 0 0, .slice none 0 0, .slice none 0 0, .int .i64 0], .int .i64 32]) ?_ rfl ⟨none, 0, none, 0, none, 0, rfl, RunV.zero _ _, HB.out⟩
  rw [results_cell_tmp rfl]
  go_simp

set_option maxRecDepth 100000 in
set_option maxHeartbeats 2000000 in
theorem start_any (args : List Int) (n : Nat) (B : Nat) (FA AA : Option Addr) (bl bc ac : Nat) (w : World) (hs : Sees w B AA (ints args)) (hB : B ≤ w.heap.size) (hn : n ≤ 1000) (hl : args.length ≤ n) :
    Calls Try.prog 11 #[.agg #[.int .i64 args.length, .int .i64 n, .slice FA bl bc], .slice AA args.length ac] w (RunQ w (rn0 n args) 0) := by
  have hmk := fun w => run_make_row' (P := Try.prog) 25 2 (.int .i64 0) 8 Try.underlying25 infoI64 rfl .i64 .i64 n (by omega) (by omega) w
  have e1 : ((args.length : Int) != (args.length : Int)) = false := by simp
  have hbl0 : Below w.heap.size w ((w.alloc (.cells #[.int .i64 args.length, .int .i64 n, .slice FA bl bc] 24)).alloc (.cells #[.int .i64 0, .int .i64 0, .int .i64 0, .int .i64 0, .slice none 0 0, .slice none 0 0, .slice none 0 0, .int .i64 0] 29)) := ((Below.refl _ w).alloc (Nat.le_refl _) _).alloc (by simp) _
  have hbox := (Row.new w 24 #[.int .i64 args.length, .int .i64 n, .slice FA bl bc]).alloc (.cells #[.int .i64 0, .int .i64 0, .int .i64 0, .int .i64 0, .slice none 0 0, .slice none 0 0, .slice none 0 0, .int .i64 0] 29)
  have hres := Row.new' (W := w.alloc (.cells #[.int .i64 args.length, .int .i64 n, .slice FA bl bc] 24)) (p := w.heap.size + 1) (by simp) 29 #[.int .i64 0, .int .i64 0, .int .i64 0, .int .i64 0, .slice none 0 0, .slice none 0 0, .slice none 0 0, .int .i64 0]
  have hs1 := ((hs.more hB).below hbl0)
  clear hs
  go_enter Try.func11, Try.ntmps11
  go_upto_region 1 with fail
  generalize ((w.alloc (.cells #[.int .i64 args.length, .int .i64 n, .slice FA bl bc] 24)).alloc (.cells #[.int .i64 0, .int .i64 0, .int .i64 0, .int .i64 0, .slice none 0 0, .slice none 0 0, .slice none 0 0, .int .i64 0] 29)) = W0 at *
  have d0 := hbox.cell 0; have d1 := hbox.cell 1
  simp only [List.getElem?_toArray, List.getElem?_cons_zero, List.getElem?_cons_succ] at d0 d1
  go_upto_region 4 with fail
  have hmade : (W0.alloc (.cells (madeCells #[.int .i64 0] n) 2)).heap[W0.heap.size]? = some (.cells (List.replicate n (Value.int .i64 0)).toArray 2 (0, 0)) := by
    rw [← toList_madeCells_one, Array.toArray_toList]
    exact heap_alloc_new W0 _
  have hb01 : Below W0.heap.size W0 (W0.alloc (.cells (madeCells #[.int .i64 0] n) 2)) := (Below.refl _ _).alloc (Nat.le_refl _) _
  have hlo : w.heap.size + 1 + 1 ≤ W0.heap.size := hres.lt
  have HB0 := Lib.hid hbl0
  have HX := Lib.hid hmade
  have HB1 := Lib.hid hb01
  have HS := Lib.hid hs1
  have HR := Lib.hid hres
  clear hmade hb01 hs1 hres hbox hbl0 hmk d0 d1
  generalize W0.alloc (.cells (madeCells #[.int .i64 0] n) 2) = W1 at *
  go_wp2_with (refine wpList_copy_splice rfl (.tmp 16) (.tmp 17) 25 25 rfl 2 Try.underlying25 (by kernel_rfl) (some ⟨W0.heap.size, 0, none⟩) AA n n args.length ac rfl rfl W0.heap.size 0 (List.replicate n (Value.int .i64 0)) 2 HX.out (ints args) ?k1 ?k3 ?k2 (ints_one _) W0.heap.size W0 HB1.out (Nat.le_refl _) ?_)
  case k1 => rw [ints_length]; exact (Nat.min_eq_left hl).symm
  case k2 => rw [ints_length, List.length_replicate]; omega
  case k3 =>
    intro h0
    obtain ⟨b, o, rfl, hb, hc⟩ := HS.out (fun e => by rw [e] at h0; simp at h0)
    first | refine ⟨rfl, _, rfl, fun j v hv => ?_⟩ | refine ⟨_, rfl, fun j v hv => ?_⟩
    rw [Addr.add_lit]
    exact (HB1.out.cell (p := ⟨b, o + j, none⟩) (show b < W0.heap.size by omega)).trans (hc j v hv)
  intro W2 HG hb2
  have hres2 := HR.out.below hb2 HR.out.lt
  have g0 := hres2.cell 0; have g1 := hres2.cell 1; have g2 := hres2.cell 2; have g3 := hres2.cell 3; have g4 := hres2.cell 4; have g5 := hres2.cell 5; have g6 := hres2.cell 6; have g7 := hres2.cell 7
  have r0 := hres2.frozen 0; have r1 := hres2.frozen 1; have r2 := hres2.frozen 2; have r3 := hres2.frozen 3; have r4 := hres2.frozen 4; have r5 := hres2.frozen 5; have r6 := hres2.frozen 6; have r7 := hres2.frozen 7
  simp only [List.getElem?_toArray, List.getElem?_cons_zero, List.getElem?_cons_succ] at g0 g1 g2 g3 g4 g5 g6 g7
  have hsp : splice (List.replicate n (Value.int .i64 0)) 0 (ints args) = ints (rn0 n args).regs := by
    show List.take 0 _ ++ (ints args ++ List.drop (0 + (ints args).length) _) = ints (args ++ List.replicate (n - args.length) 0)
    rw [ints_append, List.take_zero, List.nil_append, List.drop_replicate, Nat.zero_add, ints_length]
    simp [ints]
  have hrl : (rn0 n args).regs.length = n := by show (args ++ List.replicate (n - args.length) 0).length = n; rw [List.length_append, List.length_replicate]; omega
  have hown : W2.ownsRow (w.heap.size + 1 + 1) 2 1 (.slice (some ⟨W0.heap.size, 0, none⟩) n n) n (ints (rn0 n args).regs) := by
    have h1 := HG.out
    rw [hsp] at h1
    exact ⟨by rw [ints_length, hrl]; omega, .inr ⟨W0.heap.size, n, (ints (rn0 n args).regs).toArray, rfl, hlo, h1, Nat.le_refl _, by unfold maxLen; omega, by simp [ints_length, hrl], by rw [Nat.mul_one]; simp [List.take_of_length_le, ints_length, hrl]⟩⟩
  have HO := Lib.hid hown
  have HR2 := Lib.hid hres2
  have HB2 := Lib.hid (HB0.out.trans (hb2.mono (by omega)))
  have HL := Lib.hid hrl
  clear hown hres2 hrl hsp HG hb2 HX HB1
  go_wp2
  (try simp only [Exit.inBlock, Exit.then])
  refine bodyPost_ret (v := .tuple #[.agg #[.int .i64 0, .int .i64 0, .int .i64 0, .int .i64 0, .slice (some ⟨W0.heap.size, 0, none⟩) n n, .slice none 0 0, .slice none 0 0, .int .i64 0], .int .i64 0]) ?_ rfl ⟨some ⟨W0.heap.size, 0, none⟩, n, none, 0, none, 0, by rw [HL.out]; rfl, ⟨?_, own_none _ _ _ _, fun k _ hk => by simp [Value.ownBlock] at hk⟩, ?_⟩
  · rw [results_cell_tmp rfl]
    go_simp
  · rw [HL.out]
    exact ownS_base ((mods8 W2 (w.heap.size + 1) _ _ _ _ _ _ _ _).ownS HO.out fun k hk hs => by have := ownS_lt HO.out k hk; unfold Is at hs; omega) (by omega)
  · exact blw8 (by omega) HB2.out _ _ _ _ _ _ _ _

end Go.Proofs.Ytfkknebjhcafhaa
