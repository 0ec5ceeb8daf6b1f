/-
  The program of layer 17: below, within, unlessFailed, termShapeOf, isKind, a field that may be used (made by wip/lab/genicpgb.py).
-/
import Derived.Test.YtacmgfndmolnfaaIcPgA
import Derived.Test.YtacmgfndmolnfaaPk1
import Derived.Laws.EntriesVeiled
import Derived.Shelf.Abstract
namespace Go.Proofs.Ytacmgfndmolnfaa
open Go.RowKit
set_option linter.unusedVariables false
set_option linter.unusedSimpArgs false

/-- A field: how it is read from the cursor at p. -/
def numC (p : Nat) (K : FuncId) (caps : Array Value) (why : Int) : Array Value := #[.func (.func 72) #[.pointer (some ⟨p, 0, none⟩)] #[], .func (.func 34) #[.pointer (some ⟨p, 0, none⟩)] #[], .func (.func K) #[] caps, .int .i64 why]

set_option maxRecDepth 100000 in
set_option maxHeartbeats 1000000 in
theorem below1_any (x : Nat) (bd v : Int) (W : World) (hx : Row W x 3 #[.int .i64 bd]) :
    Calls Try.prog 73 #[.int .i64 v, .pointer (some ⟨x, 0, none⟩)] W fun e w' => e = .returned (.bool (decide (0 ≤ v ∧ v < bd))) ∧ W = w' := by
  have c0 := hx.cell 0
  simp only [List.getElem?_toArray, List.getElem?_cons_zero, List.getElem?_cons_succ] at c0
  clear hx
  generalize hb : decide (0 ≤ v ∧ v < bd) = b
  by_cases h0 : 0 ≤ v
  · have HE : Hid (b = decide (v < bd)) := by show _ = _; rw [← hb]; simp [h0]
    clear hb
    go_enter Try.func73, Try.ntmps73
    go_wp2
    go_ret
    exact ⟨by rw [HE.out]; rfl, rfl⟩
  · have HE : Hid (b = false) := by show _ = _; rw [← hb]; simp [h0]
    have h1 : v < 0 := by omega
    clear hb
    go_enter Try.func73, Try.ntmps73
    go_wp2
    go_ret
    exact ⟨by rw [HE.out]; rfl, rfl⟩

set_option maxRecDepth 100000 in
set_option maxHeartbeats 1000000 in
theorem within1_any (x y : Nat) (r n v : Int) (W : World) (hx : Row W x 3 #[.int .i64 r]) (hy : Row W y 3 #[.int .i64 n]) (hv : Fits v) :
    Calls Try.prog 82 #[.int .i64 v, .pointer (some ⟨x, 0, none⟩), .pointer (some ⟨y, 0, none⟩)] W fun e w' => e = .returned (.bool (locS v r n)) ∧ W = w' := by
  have c0 := hx.cell 0
  have c1 := hy.cell 0
  simp only [List.getElem?_toArray, List.getElem?_cons_zero, List.getElem?_cons_succ] at c0 c1
  have C := Lib.hid (locin_any v r n W hv)
  clear hx hy
  generalize locS v r n = b at *
  go_enter Try.func82, Try.ntmps82
  go_wp2_with fail
  refine C.out.mono ?_
  rintro e W2 ⟨rfl, rfl⟩
  go_wp2
  go_ret
  exact ⟨rfl, rfl⟩

theorem two_rowsI (w : World) (T T' : TypeId) (x y : Array Value) : Below w.heap.size w ((w.alloc (.cells x T)).alloc (.cells y T')) ∧ Row ((w.alloc (.cells x T)).alloc (.cells y T')) w.heap.size T x ∧ Row ((w.alloc (.cells x T)).alloc (.cells y T')) (w.heap.size + 1) T' y := by
  have hR := Row.new (w.alloc (.cells x T)) T' y
  rw [show (w.alloc (.cells x T)).heap.size = w.heap.size + 1 by simp] at hR
  exact ⟨((Below.refl w.heap.size w).alloc (Nat.le_refl _) _).alloc (by simp) _, (Row.new w T x).alloc _, hR⟩
theorem three_rowsI (w : World) (T T' T2 : TypeId) (x y z : Array Value) : Below w.heap.size w (((w.alloc (.cells x T)).alloc (.cells y T')).alloc (.cells z T2)) ∧ Row (((w.alloc (.cells x T)).alloc (.cells y T')).alloc (.cells z T2)) w.heap.size T x ∧ Row (((w.alloc (.cells x T)).alloc (.cells y T')).alloc (.cells z T2)) (w.heap.size + 1) T' y ∧ Row (((w.alloc (.cells x T)).alloc (.cells y T')).alloc (.cells z T2)) (w.heap.size + 1 + 1) T2 z := by
  have hR := Row.new (w.alloc (.cells x T)) T' y
  rw [show (w.alloc (.cells x T)).heap.size = w.heap.size + 1 by simp] at hR
  have hR2 := Row.new ((w.alloc (.cells x T)).alloc (.cells y T')) T2 z
  rw [show ((w.alloc (.cells x T)).alloc (.cells y T')).heap.size = w.heap.size + 1 + 1 by simp] at hR2
  exact ⟨(((Below.refl w.heap.size w).alloc (Nat.le_refl _) _).alloc (by simp) _).alloc (by simp; omega) _, ((Row.new w T x).alloc _).alloc _, hR.alloc _, hR2⟩

set_option maxRecDepth 100000 in
set_option maxHeartbeats 1000000 in
theorem below_any (p : Nat) (bd why : Int) (w : World) :
    Calls Try.prog 43 #[.pointer (some ⟨p, 0, none⟩), .int .i64 bd, .int .i64 why] w fun e w' => ∃ x, e = .returned (.agg (numC p 73 #[.pointer (some ⟨x, 0, none⟩)] why)) ∧ w.heap.size ≤ x ∧ Row w' x 3 #[.int .i64 bd] ∧ Below w.heap.size w w' := by
  have hmf : ∀ (fn : Fn) (first cap : Array Value) (w : World), (Instr.makeFunc fn first cap).run Try.prog w = .ok (.func fn first cap) w := fun _ _ _ _ => rfl
  obtain ⟨t1, t2, t3⟩ := two_rowsI w 3 84 #[.int .i64 bd] #[.func (.func 72) #[.pointer (some ⟨p, 0, none⟩)] #[], .func (.func 34) #[.pointer (some ⟨p, 0, none⟩)] #[], .func (.func 73) #[] #[.pointer (some ⟨w.heap.size, 0, none⟩)], .int .i64 why]
  have HB := Lib.hid t1
  have HX := Lib.hid t2
  have HR := Lib.hid t3
  clear t1 t2 t3
  go_enter Try.func43, Try.ntmps43
  go_wp2
  (try simp only [Exit.inBlock, Exit.then])
  refine bodyPost_ret (v := .agg #[.func (.func 72) #[.pointer (some ⟨p, 0, none⟩)] #[], .func (.func 34) #[.pointer (some ⟨p, 0, none⟩)] #[], .func (.func 73) #[] #[.pointer (some ⟨w.heap.size, 0, none⟩)], .int .i64 why]) ?_ rfl ⟨w.heap.size, rfl, Nat.le_refl _, HX.out, HB.out⟩
  exact results_cell_row rfl _ _ (w.heap.size + 1) 84 _ (0, 0) _ rfl HR.out Try.underlying84 rfl (by kernel_rfl)

set_option maxRecDepth 100000 in
set_option maxHeartbeats 1000000 in
theorem within_any (p : Nat) (r n : Int) (w : World) :
    Calls Try.prog 70 #[.pointer (some ⟨p, 0, none⟩), .int .i64 r, .int .i64 n] w fun e w' => ∃ x y, e = .returned (.agg (numC p 82 #[.pointer (some ⟨x, 0, none⟩), .pointer (some ⟨y, 0, none⟩)] 10)) ∧ w.heap.size ≤ x ∧ w.heap.size ≤ y ∧ Row w' x 3 #[.int .i64 r] ∧ Row w' y 3 #[.int .i64 n] ∧ Below w.heap.size w w' := by
  have hmf : ∀ (fn : Fn) (first cap : Array Value) (w : World), (Instr.makeFunc fn first cap).run Try.prog w = .ok (.func fn first cap) w := fun _ _ _ _ => rfl
  obtain ⟨t1, t2, t3, t4⟩ := three_rowsI w 3 3 84 #[.int .i64 r] #[.int .i64 n] #[.func (.func 72) #[.pointer (some ⟨p, 0, none⟩)] #[], .func (.func 34) #[.pointer (some ⟨p, 0, none⟩)] #[], .func (.func 82) #[] #[.pointer (some ⟨w.heap.size, 0, none⟩), .pointer (some ⟨w.heap.size + 1, 0, none⟩)], .int .i64 10]
  have HB := Lib.hid t1
  have HX := Lib.hid t2
  have HY := Lib.hid t3
  have HR := Lib.hid t4
  clear t1 t2 t3 t4
  go_enter Try.func70, Try.ntmps70
  go_wp2
  (try simp only [Exit.inBlock, Exit.then])
  refine bodyPost_ret (v := .agg #[.func (.func 72) #[.pointer (some ⟨p, 0, none⟩)] #[], .func (.func 34) #[.pointer (some ⟨p, 0, none⟩)] #[], .func (.func 82) #[] #[.pointer (some ⟨w.heap.size, 0, none⟩), .pointer (some ⟨w.heap.size + 1, 0, none⟩)], .int .i64 10]) ?_ rfl ⟨w.heap.size, w.heap.size + 1, rfl, Nat.le_refl _, Nat.le_succ _, HX.out, HY.out, HB.out⟩
  exact results_cell_row rfl _ _ (w.heap.size + 1 + 1) 84 _ (0, 0) _ rfl HR.out Try.underlying84 rfl (by kernel_rfl)

set_option maxRecDepth 100000 in
set_option maxHeartbeats 1000000 in
theorem unl_instr {w : World} {lo p : Nat} {l : List Nat} {A : Option Addr} {c : Nat} {t : Ip} (h : CE lo p l A c t w) (v0 v1 v2 v3 v4 : Int) :
    Calls Try.prog 36 #[.pointer (some ⟨p, 0, none⟩), .agg #[.int .i64 v0, .int .i64 v1, .int .i64 v2, .int .i64 v3, .int .i64 v4]] w fun e w' => e = .returned (.agg (if t.err ≠ 0 then #[.int .i64 0, .int .i64 0, .int .i64 0, .int .i64 0, .int .i64 0] else #[.int .i64 v0, .int .i64 v1, .int .i64 v2, .int .i64 v3, .int .i64 v4])) ∧ Below w.heap.size w w' := by
  obtain ⟨i, hc, _⟩ := h
  obtain ⟨t1, t2, t3⟩ := two_rowsI w 30 30 #[.int .i64 v0, .int .i64 v1, .int .i64 v2, .int .i64 v3, .int .i64 v4] #[.int .i64 0, .int .i64 0, .int .i64 0, .int .i64 0, .int .i64 0]
  have HB := Lib.hid t1
  have HX := Lib.hid t2
  have HR := Lib.hid t3
  have hu : ¬ w.heap.size + 1 = w.heap.size := by omega
  have CC := Lib.hid (err_any ((hc.alloc (.cells #[.int .i64 v0, .int .i64 v1, .int .i64 v2, .int .i64 v3, .int .i64 v4] 30)).alloc (.cells #[.int .i64 0, .int .i64 0, .int .i64 0, .int .i64 0, .int .i64 0] 30)))
  clear t1 t2 t3 hc
  by_cases he : t.err ≠ 0
  · rw [if_pos he]
    have d0 : (t.err != 0) = true := by simp [he]
    clear he HB HX HR
    obtain ⟨t1, _, t3, t4⟩ := three_rowsI w 30 30 30 #[.int .i64 v0, .int .i64 v1, .int .i64 v2, .int .i64 v3, .int .i64 v4] #[.int .i64 0, .int .i64 0, .int .i64 0, .int .i64 0, .int .i64 0] #[.int .i64 0, .int .i64 0, .int .i64 0, .int .i64 0, .int .i64 0]
    have HB2 := Lib.hid t1
    have HR2 := Lib.hid t3
    have HZ := Lib.hid t4
    clear t1 t3 t4
    go_enter Try.func36, Try.ntmps36
    go_wp2_with fail
    refine CC.out.mono ?_
    rintro e W2 ⟨rfl, rfl⟩
    clear CC
    go_upto_region 3 with fail
    generalize (((w.alloc (.cells #[.int .i64 v0, .int .i64 v1, .int .i64 v2, .int .i64 v3, .int .i64 v4] 30)).alloc (.cells #[.int .i64 0, .int .i64 0, .int .i64 0, .int .i64 0, .int .i64 0] 30)).alloc (.cells #[.int .i64 0, .int .i64 0, .int .i64 0, .int .i64 0, .int .i64 0] 30)) = W2 at *
    have k0 := HR2.out.cell 0; have k1 := HR2.out.cell 1; have k2 := HR2.out.cell 2; have k3 := HR2.out.cell 3; have k4 := HR2.out.cell 4
    have kf0 := HR2.out.frozen 0; have kf1 := HR2.out.frozen 1; have kf2 := HR2.out.frozen 2; have kf3 := HR2.out.frozen 3; have kf4 := HR2.out.frozen 4
    simp only [List.getElem?_toArray, List.getElem?_cons_zero, List.getElem?_cons_succ] at k0 k1 k2 k3 k4
    have z0 := HZ.out.cell 0; have z1 := HZ.out.cell 1; have z2 := HZ.out.cell 2; have z3 := HZ.out.cell 3; have z4 := HZ.out.cell 4
    have zf0 := HZ.out.frozen 0; have zf1 := HZ.out.frozen 1; have zf2 := HZ.out.frozen 2; have zf3 := HZ.out.frozen 3; have zf4 := HZ.out.frozen 4
    simp only [List.getElem?_toArray, List.getElem?_cons_zero, List.getElem?_cons_succ] at z0 z1 z2 z3 z4
    go_wp2
    (try simp only [Exit.inBlock, Exit.then])
    refine bodyPost_ret (v := .agg #[.int .i64 0, .int .i64 0, .int .i64 0, .int .i64 0, .int .i64 0]) ?_ rfl ⟨rfl, HB2.out.trans ((mods5i W2 (w.heap.size + 1) (.int .i64 0) (.int .i64 0) (.int .i64 0) (.int .i64 0) (.int .i64 0)).below HB2.out.size fun k hk => by have : k = w.heap.size + 1 := hk; omega)⟩
    exact results_cell_row rfl _ _ (w.heap.size + 1) 30 #[.int .i64 0, .int .i64 0, .int .i64 0, .int .i64 0, .int .i64 0] (0, 0) _ rfl (HR2.out.put5i _ _ _ _ _) Try.underlying30 rfl (by kernel_rfl)
  · rw [if_neg he]
    have d0 : (t.err != 0) = false := by simpa using he
    clear he
    go_enter Try.func36, Try.ntmps36
    go_wp2_with fail
    refine CC.out.mono ?_
    rintro e W2 ⟨rfl, rfl⟩
    generalize ((w.alloc (.cells #[.int .i64 v0, .int .i64 v1, .int .i64 v2, .int .i64 v3, .int .i64 v4] 30)).alloc (.cells #[.int .i64 0, .int .i64 0, .int .i64 0, .int .i64 0, .int .i64 0] 30)) = W1 at *
    have k0 := HR.out.cell 0; have k1 := HR.out.cell 1; have k2 := HR.out.cell 2; have k3 := HR.out.cell 3; have k4 := HR.out.cell 4
    have kf0 := HR.out.frozen 0; have kf1 := HR.out.frozen 1; have kf2 := HR.out.frozen 2; have kf3 := HR.out.frozen 3; have kf4 := HR.out.frozen 4
    simp only [List.getElem?_toArray, List.getElem?_cons_zero, List.getElem?_cons_succ] at k0 k1 k2 k3 k4
    have z0 := HX.out.cell 0; have z1 := HX.out.cell 1; have z2 := HX.out.cell 2; have z3 := HX.out.cell 3; have z4 := HX.out.cell 4
    have zf0 := HX.out.frozen 0; have zf1 := HX.out.frozen 1; have zf2 := HX.out.frozen 2; have zf3 := HX.out.frozen 3; have zf4 := HX.out.frozen 4
    simp only [List.getElem?_toArray, List.getElem?_cons_zero, List.getElem?_cons_succ] at z0 z1 z2 z3 z4
    clear CC
    go_wp2
    (try simp only [Exit.inBlock, Exit.then])
    refine bodyPost_ret (v := .agg #[.int .i64 v0, .int .i64 v1, .int .i64 v2, .int .i64 v3, .int .i64 v4]) ?_ rfl ⟨rfl, HB.out.trans ((mods5i W1 (w.heap.size + 1) (.int .i64 v0) (.int .i64 v1) (.int .i64 v2) (.int .i64 v3) (.int .i64 v4)).below HB.out.size fun k hk => by have : k = w.heap.size + 1 := hk; omega)⟩
    exact results_cell_row rfl _ _ (w.heap.size + 1) 30 #[.int .i64 v0, .int .i64 v1, .int .i64 v2, .int .i64 v3, .int .i64 v4] (0, 0) _ rfl (HR.out.put5i _ _ _ _ _) Try.underlying30 rfl (by kernel_rfl)

set_option maxRecDepth 100000 in
set_option maxHeartbeats 1000000 in
theorem unl_mach {w : World} {lo p : Nat} {l : List Nat} {A : Option Addr} {c : Nat} {t : Ip} (h : CE lo p l A c t w) (v0 v1 v2 v3 v4 v5 v6 : Int) :
    Calls Try.prog 39 #[.pointer (some ⟨p, 0, none⟩), .agg #[.int .i64 v0, .int .i64 v1, .int .i64 v2, .int .i64 v3, .int .i64 v4, .int .i64 v5, .int .i64 v6]] w fun e w' => e = .returned (.agg (if t.err ≠ 0 then #[.int .i64 0, .int .i64 0, .int .i64 0, .int .i64 0, .int .i64 0, .int .i64 0, .int .i64 0] else #[.int .i64 v0, .int .i64 v1, .int .i64 v2, .int .i64 v3, .int .i64 v4, .int .i64 v5, .int .i64 v6])) ∧ Below w.heap.size w w' := by
  obtain ⟨i, hc, _⟩ := h
  obtain ⟨t1, t2, t3⟩ := two_rowsI w 34 34 #[.int .i64 v0, .int .i64 v1, .int .i64 v2, .int .i64 v3, .int .i64 v4, .int .i64 v5, .int .i64 v6] #[.int .i64 0, .int .i64 0, .int .i64 0, .int .i64 0, .int .i64 0, .int .i64 0, .int .i64 0]
  have HB := Lib.hid t1
  have HX := Lib.hid t2
  have HR := Lib.hid t3
  have hu : ¬ w.heap.size + 1 = w.heap.size := by omega
  have CC := Lib.hid (err_any ((hc.alloc (.cells #[.int .i64 v0, .int .i64 v1, .int .i64 v2, .int .i64 v3, .int .i64 v4, .int .i64 v5, .int .i64 v6] 34)).alloc (.cells #[.int .i64 0, .int .i64 0, .int .i64 0, .int .i64 0, .int .i64 0, .int .i64 0, .int .i64 0] 34)))
  clear t1 t2 t3 hc
  by_cases he : t.err ≠ 0
  · rw [if_pos he]
    have d0 : (t.err != 0) = true := by simp [he]
    clear he HB HX HR
    obtain ⟨t1, _, t3, t4⟩ := three_rowsI w 34 34 34 #[.int .i64 v0, .int .i64 v1, .int .i64 v2, .int .i64 v3, .int .i64 v4, .int .i64 v5, .int .i64 v6] #[.int .i64 0, .int .i64 0, .int .i64 0, .int .i64 0, .int .i64 0, .int .i64 0, .int .i64 0] #[.int .i64 0, .int .i64 0, .int .i64 0, .int .i64 0, .int .i64 0, .int .i64 0, .int .i64 0]
    have HB2 := Lib.hid t1
    have HR2 := Lib.hid t3
    have HZ := Lib.hid t4
    clear t1 t3 t4
    go_enter Try.func39, Try.ntmps39
    go_wp2_with fail
    refine CC.out.mono ?_
    rintro e W2 ⟨rfl, rfl⟩
    clear CC
    go_upto_region 3 with fail
    generalize (((w.alloc (.cells #[.int .i64 v0, .int .i64 v1, .int .i64 v2, .int .i64 v3, .int .i64 v4, .int .i64 v5, .int .i64 v6] 34)).alloc (.cells #[.int .i64 0, .int .i64 0, .int .i64 0, .int .i64 0, .int .i64 0, .int .i64 0, .int .i64 0] 34)).alloc (.cells #[.int .i64 0, .int .i64 0, .int .i64 0, .int .i64 0, .int .i64 0, .int .i64 0, .int .i64 0] 34)) = W2 at *
    have k0 := HR2.out.cell 0; have k1 := HR2.out.cell 1; have k2 := HR2.out.cell 2; have k3 := HR2.out.cell 3; have k4 := HR2.out.cell 4; have k5 := HR2.out.cell 5; have k6 := HR2.out.cell 6
    have kf0 := HR2.out.frozen 0; have kf1 := HR2.out.frozen 1; have kf2 := HR2.out.frozen 2; have kf3 := HR2.out.frozen 3; have kf4 := HR2.out.frozen 4; have kf5 := HR2.out.frozen 5; have kf6 := HR2.out.frozen 6
    simp only [List.getElem?_toArray, List.getElem?_cons_zero, List.getElem?_cons_succ] at k0 k1 k2 k3 k4 k5 k6
    have z0 := HZ.out.cell 0; have z1 := HZ.out.cell 1; have z2 := HZ.out.cell 2; have z3 := HZ.out.cell 3; have z4 := HZ.out.cell 4; have z5 := HZ.out.cell 5; have z6 := HZ.out.cell 6
    have zf0 := HZ.out.frozen 0; have zf1 := HZ.out.frozen 1; have zf2 := HZ.out.frozen 2; have zf3 := HZ.out.frozen 3; have zf4 := HZ.out.frozen 4; have zf5 := HZ.out.frozen 5; have zf6 := HZ.out.frozen 6
    simp only [List.getElem?_toArray, List.getElem?_cons_zero, List.getElem?_cons_succ] at z0 z1 z2 z3 z4 z5 z6
    go_wp2
    (try simp only [Exit.inBlock, Exit.then])
    refine bodyPost_ret (v := .agg #[.int .i64 0, .int .i64 0, .int .i64 0, .int .i64 0, .int .i64 0, .int .i64 0, .int .i64 0]) ?_ rfl ⟨rfl, HB2.out.trans ((mods7i W2 (w.heap.size + 1) (.int .i64 0) (.int .i64 0) (.int .i64 0) (.int .i64 0) (.int .i64 0) (.int .i64 0) (.int .i64 0)).below HB2.out.size fun k hk => by have : k = w.heap.size + 1 := hk; omega)⟩
    exact results_cell_row rfl _ _ (w.heap.size + 1) 34 #[.int .i64 0, .int .i64 0, .int .i64 0, .int .i64 0, .int .i64 0, .int .i64 0, .int .i64 0] (0, 0) _ rfl (HR2.out.put7i _ _ _ _ _ _ _) Try.underlying34 rfl (by kernel_rfl)
  · rw [if_neg he]
    have d0 : (t.err != 0) = false := by simpa using he
    clear he
    go_enter Try.func39, Try.ntmps39
    go_wp2_with fail
    refine CC.out.mono ?_
    rintro e W2 ⟨rfl, rfl⟩
    generalize ((w.alloc (.cells #[.int .i64 v0, .int .i64 v1, .int .i64 v2, .int .i64 v3, .int .i64 v4, .int .i64 v5, .int .i64 v6] 34)).alloc (.cells #[.int .i64 0, .int .i64 0, .int .i64 0, .int .i64 0, .int .i64 0, .int .i64 0, .int .i64 0] 34)) = W1 at *
    have k0 := HR.out.cell 0; have k1 := HR.out.cell 1; have k2 := HR.out.cell 2; have k3 := HR.out.cell 3; have k4 := HR.out.cell 4; have k5 := HR.out.cell 5; have k6 := HR.out.cell 6
    have kf0 := HR.out.frozen 0; have kf1 := HR.out.frozen 1; have kf2 := HR.out.frozen 2; have kf3 := HR.out.frozen 3; have kf4 := HR.out.frozen 4; have kf5 := HR.out.frozen 5; have kf6 := HR.out.frozen 6
    simp only [List.getElem?_toArray, List.getElem?_cons_zero, List.getElem?_cons_succ] at k0 k1 k2 k3 k4 k5 k6
    have z0 := HX.out.cell 0; have z1 := HX.out.cell 1; have z2 := HX.out.cell 2; have z3 := HX.out.cell 3; have z4 := HX.out.cell 4; have z5 := HX.out.cell 5; have z6 := HX.out.cell 6
    have zf0 := HX.out.frozen 0; have zf1 := HX.out.frozen 1; have zf2 := HX.out.frozen 2; have zf3 := HX.out.frozen 3; have zf4 := HX.out.frozen 4; have zf5 := HX.out.frozen 5; have zf6 := HX.out.frozen 6
    simp only [List.getElem?_toArray, List.getElem?_cons_zero, List.getElem?_cons_succ] at z0 z1 z2 z3 z4 z5 z6
    clear CC
    go_wp2
    (try simp only [Exit.inBlock, Exit.then])
    refine bodyPost_ret (v := .agg #[.int .i64 v0, .int .i64 v1, .int .i64 v2, .int .i64 v3, .int .i64 v4, .int .i64 v5, .int .i64 v6]) ?_ rfl ⟨rfl, HB.out.trans ((mods7i W1 (w.heap.size + 1) (.int .i64 v0) (.int .i64 v1) (.int .i64 v2) (.int .i64 v3) (.int .i64 v4) (.int .i64 v5) (.int .i64 v6)).below HB.out.size fun k hk => by have : k = w.heap.size + 1 := hk; omega)⟩
    exact results_cell_row rfl _ _ (w.heap.size + 1) 34 #[.int .i64 v0, .int .i64 v1, .int .i64 v2, .int .i64 v3, .int .i64 v4, .int .i64 v5, .int .i64 v6] (0, 0) _ rfl (HR.out.put7i _ _ _ _ _ _ _) Try.underlying34 rfl (by kernel_rfl)

set_option maxRecDepth 100000 in
set_option maxHeartbeats 1000000 in
theorem unl_term {w : World} {lo p : Nat} {l : List Nat} {A : Option Addr} {c : Nat} {t : Ip} (h : CE lo p l A c t w) (v0 v1 v2 v3 : Int) :
    Calls Try.prog 46 #[.pointer (some ⟨p, 0, none⟩), .agg #[.int .i64 v0, .int .i64 v1, .int .i64 v2, .int .i64 v3]] w fun e w' => e = .returned (.agg (if t.err ≠ 0 then #[.int .i64 0, .int .i64 0, .int .i64 0, .int .i64 0] else #[.int .i64 v0, .int .i64 v1, .int .i64 v2, .int .i64 v3])) ∧ Below w.heap.size w w' := by
  obtain ⟨i, hc, _⟩ := h
  obtain ⟨t1, t2, t3⟩ := two_rowsI w 37 37 #[.int .i64 v0, .int .i64 v1, .int .i64 v2, .int .i64 v3] #[.int .i64 0, .int .i64 0, .int .i64 0, .int .i64 0]
  have HB := Lib.hid t1
  have HX := Lib.hid t2
  have HR := Lib.hid t3
  have hu : ¬ w.heap.size + 1 = w.heap.size := by omega
  have CC := Lib.hid (err_any ((hc.alloc (.cells #[.int .i64 v0, .int .i64 v1, .int .i64 v2, .int .i64 v3] 37)).alloc (.cells #[.int .i64 0, .int .i64 0, .int .i64 0, .int .i64 0] 37)))
  clear t1 t2 t3 hc
  by_cases he : t.err ≠ 0
  · rw [if_pos he]
    have d0 : (t.err != 0) = true := by simp [he]
    clear he HB HX HR
    obtain ⟨t1, _, t3, t4⟩ := three_rowsI w 37 37 37 #[.int .i64 v0, .int .i64 v1, .int .i64 v2, .int .i64 v3] #[.int .i64 0, .int .i64 0, .int .i64 0, .int .i64 0] #[.int .i64 0, .int .i64 0, .int .i64 0, .int .i64 0]
    have HB2 := Lib.hid t1
    have HR2 := Lib.hid t3
    have HZ := Lib.hid t4
    clear t1 t3 t4
    go_enter Try.func46, Try.ntmps46
    go_wp2_with fail
    refine CC.out.mono ?_
    rintro e W2 ⟨rfl, rfl⟩
    clear CC
    go_upto_region 3 with fail
    generalize (((w.alloc (.cells #[.int .i64 v0, .int .i64 v1, .int .i64 v2, .int .i64 v3] 37)).alloc (.cells #[.int .i64 0, .int .i64 0, .int .i64 0, .int .i64 0] 37)).alloc (.cells #[.int .i64 0, .int .i64 0, .int .i64 0, .int .i64 0] 37)) = W2 at *
    have k0 := HR2.out.cell 0; have k1 := HR2.out.cell 1; have k2 := HR2.out.cell 2; have k3 := HR2.out.cell 3
    have kf0 := HR2.out.frozen 0; have kf1 := HR2.out.frozen 1; have kf2 := HR2.out.frozen 2; have kf3 := HR2.out.frozen 3
    simp only [List.getElem?_toArray, List.getElem?_cons_zero, List.getElem?_cons_succ] at k0 k1 k2 k3
    have z0 := HZ.out.cell 0; have z1 := HZ.out.cell 1; have z2 := HZ.out.cell 2; have z3 := HZ.out.cell 3
    have zf0 := HZ.out.frozen 0; have zf1 := HZ.out.frozen 1; have zf2 := HZ.out.frozen 2; have zf3 := HZ.out.frozen 3
    simp only [List.getElem?_toArray, List.getElem?_cons_zero, List.getElem?_cons_succ] at z0 z1 z2 z3
    go_wp2
    (try simp only [Exit.inBlock, Exit.then])
    refine bodyPost_ret (v := .agg #[.int .i64 0, .int .i64 0, .int .i64 0, .int .i64 0]) ?_ rfl ⟨rfl, HB2.out.trans ((mods4i W2 (w.heap.size + 1) (.int .i64 0) (.int .i64 0) (.int .i64 0) (.int .i64 0)).below HB2.out.size fun k hk => by have : k = w.heap.size + 1 := hk; omega)⟩
    exact results_cell_row rfl _ _ (w.heap.size + 1) 37 #[.int .i64 0, .int .i64 0, .int .i64 0, .int .i64 0] (0, 0) _ rfl (HR2.out.put4i _ _ _ _) Try.underlying37 rfl (by kernel_rfl)
  · rw [if_neg he]
    have d0 : (t.err != 0) = false := by simpa using he
    clear he
    go_enter Try.func46, Try.ntmps46
    go_wp2_with fail
    refine CC.out.mono ?_
    rintro e W2 ⟨rfl, rfl⟩
    generalize ((w.alloc (.cells #[.int .i64 v0, .int .i64 v1, .int .i64 v2, .int .i64 v3] 37)).alloc (.cells #[.int .i64 0, .int .i64 0, .int .i64 0, .int .i64 0] 37)) = W1 at *
    have k0 := HR.out.cell 0; have k1 := HR.out.cell 1; have k2 := HR.out.cell 2; have k3 := HR.out.cell 3
    have kf0 := HR.out.frozen 0; have kf1 := HR.out.frozen 1; have kf2 := HR.out.frozen 2; have kf3 := HR.out.frozen 3
    simp only [List.getElem?_toArray, List.getElem?_cons_zero, List.getElem?_cons_succ] at k0 k1 k2 k3
    have z0 := HX.out.cell 0; have z1 := HX.out.cell 1; have z2 := HX.out.cell 2; have z3 := HX.out.cell 3
    have zf0 := HX.out.frozen 0; have zf1 := HX.out.frozen 1; have zf2 := HX.out.frozen 2; have zf3 := HX.out.frozen 3
    simp only [List.getElem?_toArray, List.getElem?_cons_zero, List.getElem?_cons_succ] at z0 z1 z2 z3
    clear CC
    go_wp2
    (try simp only [Exit.inBlock, Exit.then])
    refine bodyPost_ret (v := .agg #[.int .i64 v0, .int .i64 v1, .int .i64 v2, .int .i64 v3]) ?_ rfl ⟨rfl, HB.out.trans ((mods4i W1 (w.heap.size + 1) (.int .i64 v0) (.int .i64 v1) (.int .i64 v2) (.int .i64 v3)).below HB.out.size fun k hk => by have : k = w.heap.size + 1 := hk; omega)⟩
    exact results_cell_row rfl _ _ (w.heap.size + 1) 37 #[.int .i64 v0, .int .i64 v1, .int .i64 v2, .int .i64 v3] (0, 0) _ rfl (HR.out.put4i _ _ _ _) Try.underlying37 rfl (by kernel_rfl)

/-- What termShapeOf answers. -/
def kOk (k : Int) : Bool := decide (1 ≤ k ∧ k ≤ 3)
def kA (k : Int) : Bool := decide (k = 2 ∨ k = 3)
def kT (k : Int) : Bool := decide (k = 1 ∨ k = 2)
def kE (k : Int) : Bool := decide (k = 2)
def kshp (k : Int) : Value := .agg #[.bool (kA k), .bool (kT k), .bool (kE k)]
theorem kways (k : Int) : k = 1 ∨ k = 2 ∨ k = 3 ∨ ((k == 1) = false ∧ (k == 2) = false ∧ (k == 3) = false ∧ kOk k = false ∧ kA k = false ∧ kT k = false ∧ kE k = false) := by
  by_cases h1 : k = 1
  · exact .inl h1
  · by_cases h2 : k = 2
    · exact .inr (.inl h2)
    · by_cases h3 : k = 3
      · exact .inr (.inr (.inl h3))
      · exact .inr (.inr (.inr ⟨beq_eq_false_iff_ne.2 h1, beq_eq_false_iff_ne.2 h2, beq_eq_false_iff_ne.2 h3, decide_eq_false (by omega), decide_eq_false (by omega), decide_eq_false (by omega), decide_eq_false (by omega)⟩))

set_option maxRecDepth 100000 in
set_option maxHeartbeats 1000000 in
theorem tshape_any (k : Int) (w : World) :
    Calls Try.prog 42 #[.int .i64 k] w fun e w' => e = .returned (.tuple #[kshp k, .bool (kOk k)]) ∧ Below w.heap.size w w' := by
  rcases kways k with rfl | rfl | rfl | ⟨h1, h2, h3, e0, e1, e2, e3⟩
  · rw [show kshp 1 = .agg #[.bool false, .bool true, .bool false] from rfl, show kOk 1 = true from rfl]
    go_enter Try.func42, Try.ntmps42
    go_wp2
    (try simp only [Exit.inBlock, Exit.then])
    refine bodyPost_ret (v := .tuple #[.agg #[.bool false, .bool true, .bool false], .bool true]) ?_ rfl ⟨rfl, ?_⟩
    · rw [results_cell_tmp rfl]
      go_simp
    · exact (Below.refl _ _).alloc (Nat.le_refl _) _
  · rw [show kshp 2 = .agg #[.bool true, .bool true, .bool true] from rfl, show kOk 2 = true from rfl]
    go_enter Try.func42, Try.ntmps42
    go_wp2
    (try simp only [Exit.inBlock, Exit.then])
    refine bodyPost_ret (v := .tuple #[.agg #[.bool true, .bool true, .bool true], .bool true]) ?_ rfl ⟨rfl, ?_⟩
    · rw [results_cell_tmp rfl]
      go_simp
    · exact (Below.refl _ _).alloc (Nat.le_refl _) _
  · rw [show kshp 3 = .agg #[.bool true, .bool false, .bool false] from rfl, show kOk 3 = true from rfl]
    go_enter Try.func42, Try.ntmps42
    go_wp2
    (try simp only [Exit.inBlock, Exit.then])
    refine bodyPost_ret (v := .tuple #[.agg #[.bool true, .bool false, .bool false], .bool true]) ?_ rfl ⟨rfl, ?_⟩
    · rw [results_cell_tmp rfl]
      go_simp
    · exact (Below.refl _ _).alloc (Nat.le_refl _) _
  · rw [kshp, e0, e1, e2, e3]
    clear e0 e1 e2 e3
    go_enter Try.func42, Try.ntmps42
    go_wp2
    (try simp only [Exit.inBlock, Exit.then])
    refine bodyPost_ret (v := .tuple #[.agg #[.bool false, .bool false, .bool false], .bool false]) ?_ rfl ⟨rfl, ?_⟩
    · rw [results_cell_tmp rfl]
      go_simp
    · exact (Below.refl _ _).alloc (Nat.le_refl _) _

set_option maxRecDepth 100000 in
set_option maxHeartbeats 1000000 in
theorem iskind_any (k : Int) (w : World) :
    Calls Try.prog 41 #[.int .i64 k] w fun e w' => e = .returned (.bool (kOk k)) ∧ Below w.heap.size w w' := by
  have C := Lib.hid (tshape_any k w)
  unfold kshp at C
  generalize kOk k = b at *
  go_enter Try.func41, Try.ntmps41
  go_wp2_with fail
  refine C.out.mono ?_
  rintro e W ⟨rfl, hb⟩
  have HB := Lib.hid hb
  clear hb C
  go_wp2
  go_ret
  exact ⟨rfl, HB.out.alloc HB.out.size _⟩

/-- A field that is used if b. -/
theorem optE_eq {b b' : Bool} {bd why : Int} {t : Ip} (h : t.err = 0 → b' = b) : optE b' bd why t = optE b bd why t := by
  by_cases h0 : t.err = 0
  · rw [h h0]
  · rw [optE_err h0, optE_err h0]
theorem fld_any {w : World} {lo p : Nat} {l : List Nat} {A : Option Addr} {c : Nat} {t : Ip} (h : CE lo p l A c t w) (b : Bool) (x : Nat) (bd why : Int) (hx : Row w x 3 #[.int .i64 bd]) (hne : x ≠ p) (hwhy : why ≠ 0) (hbd : bd ≤ 9223372036854775807) :
    Calls Try.prog 44 #[.bool b, .func (.func 45) #[.agg (numC p 73 #[.pointer (some ⟨x, 0, none⟩)] why)] #[]] w fun e w' => e = .returned (.int .i64 (optE b bd why t).1) ∧ Mods (Is p) w w' ∧ CE lo p l A c (optE b bd why t).2 w' := by
  refine geti_any b (fun hb => ?_) fun hb => ?_
  · subst hb
    have hn := nxt_num (why := why) h.byt (show bd ≤ 9223372036854775808 by omega)
    have := next_any h why hwhy 73 #[.pointer (some ⟨x, 0, none⟩)] (fun args W => enters_of Try.func73 (by kernel_rfl) rfl args W) (fun v => decide (0 ≤ v ∧ v < bd))
      (fun v W hv hm => below1_any x bd v W (hx.mods hm fun hh => hne hh))
    rw [hn] at this
    exact this
  · subst hb
    exact ⟨rfl, Mods.refl _ _, h⟩
theorem imm_any {w : World} {lo p : Nat} {l : List Nat} {A : Option Addr} {c : Nat} {t : Ip} (h : CE lo p l A c t w) (b : Bool) :
    Calls Try.prog 68 #[.bool b, .func (.func 69) #[.pointer (some ⟨p, 0, none⟩)] #[]] w fun e w' => e = .returned (.int .i64 (immE b t).1) ∧ Mods (Is p) w w' ∧ CE lo p l A c (immE b t).2 w' := by
  refine getl_any b (fun hb => ?_) fun hb => ?_
  · subst hb
    exact int_ce h
  · subst hb
    have : immE false t = (0, t) := if_neg fun hh => by cases hh.1
    rw [this]
    exact ⟨rfl, Mods.refl _ _, h⟩
theorem place_any {w : World} {lo p : Nat} {l : List Nat} {A : Option Addr} {c : Nat} {t : Ip} (h : CE lo p l A c t w) (x y : Nat) (r n : Int) (hx : Row w x 3 #[.int .i64 r]) (hy : Row w y 3 #[.int .i64 n]) (hne : x ≠ p) (hne' : y ≠ p) (hr : r ≤ 65535) (hn : n ≤ 65535) :
    Calls Try.prog 45 #[.agg (numC p 82 #[.pointer (some ⟨x, 0, none⟩), .pointer (some ⟨y, 0, none⟩)] 10)] w fun e w' => e = .returned (.int .i64 (locE r n t).1) ∧ Mods (Is p) w w' ∧ CE lo p l A c (locE r n t).2 w' := by
  have hl := nxt_loc h.byt hr hn
  have := next_any h 10 (by decide) 82 #[.pointer (some ⟨x, 0, none⟩), .pointer (some ⟨y, 0, none⟩)] (fun args W => enters_of Try.func82 (by kernel_rfl) rfl args W) (fun v => locS v r n)
    (fun v W hv hm => within1_any x y r n v W (hx.mods hm fun hh => hne hh) (hy.mods hm fun hh => hne' hh) hv)
  rw [hl] at this
  exact this

end Go.Proofs.Ytacmgfndmolnfaa
