/-
  The reference's Do, continued: reads that succeed, and those that draw the order of their operations.
-/
import Derived.Test.YtjgigdmjciedpaaCurRef
namespace Go.Proofs.Ytjgigdmjciedpaa
open Go.RowKit
set_option linter.unusedVariables false

set_option maxRecDepth 100000 in
set_option maxHeartbeats 2000000 in
theorem do_2 (B : Nat) (A A' : Option Addr) (r : List Nat) (i q C : Nat) (a b m : Int) (w : World) (hite : (if C = i then A else Option.map (fun x => x.add i) A) = A') (hq : r.length = q) (hs : Sees w B A' (bts r)) (hB : B ≤ w.heap.size) (hby : Byt r) (hqC : i + q ≤ C) (hc : C ≤ maxLen) (hsm : i + q ≤ 1000) (ha : a ≤ 9223372036854775807) (hb64 : b ≤ 9223372036854775807) (hm0 : 0 ≤ m) (x n : Nat) (hx : (x : Int) ≤ m) (hg : getS r = (x, n, 0)) :
    Calls Try.prog 11 #[CurV A (i + q) C i 0, .agg #[.int .i64 2, .int .i64 a, .int .i64 b, .int .u64 m]] w (DoQ w B A r (i + q) C i 2 a b m) := by
  unfold maxLen at hc
  have hnq : n ≤ q := by
    have := getS_len r
    rw [hg, hq] at this
    exact this
  have hT : opT 2 a b m r = (x, n, 0) := by show uintS m r = _; unfold uintS; rw [hg]; exact if_neg fun h => by have := h.2; simp only at this; omega
  have HI := Lib.hid (show ((stepI i 0 (opT 2 a b m r) : Nat) : Int) = (i : Int) + ((n : Nat) : Int) by rw [hT]; exact okI _ _ _)
  have HE := Lib.hid (show opE 2 a (i + q) i 0 (opT 2 a b m r) = 0 by rw [hT]; exact okE _ _ _ _ _ _ (by decide) (by decide))
  have HV := Lib.hid (show opV 2 0 (opT 2 a b m r) = (x : Int) by rw [hT]; exact okV _ _ _ (by decide))
  have HL := Lib.hid (show opL 2 a 0 r = [] from if_neg (by decide))
  clear hT
  have hget := rget_any B A' r (C - i) (W3 w #[.slice A (i + q) C, .int .i64 i, .int .i64 0] #[.int .i64 2, .int .i64 a, .int .i64 b, .int .u64 m]) (hs.below ((W3_below w _ _).mono hB)) hby (by rw [hq]; unfold maxLen; omega)
  rw [hq, hg] at hget
  have HG := Lib.hid hget
  clear hget hg
  have HQ := Lib.hid hq
  have HY := Lib.hid hby
  have HS := Lib.hid hs
  clear hq hby hs
  unfold CurV
  go_enter Try.func11, Try.ntmps11
  go_wp2_with fail
  refine HG.out.mono ?_
  rintro e W ⟨rfl, rfl⟩
  unfold W3
  go_wp2_with fail
  refine (step_ok _ _ _ _ _ _ _ (by omega) (by omega) (by omega)).mono ?_
  rintro e Wa ⟨rfl, hb⟩
  obtain ⟨hbl, hrow⟩ := W3_after hb
  have f0 := hrow.frozen 0
  have f1 := hrow.frozen 1
  have f2 := hrow.frozen 2
  have g0 : Wa.cell? ⟨w.heap.size + 1 + 1, 0, none⟩ = some (.slice none 0 0) := hrow.cell 0
  have g1 : Wa.cell? ⟨w.heap.size + 1 + 1, 1, none⟩ = some (.int .i64 0) := hrow.cell 1
  have g2 : Wa.cell? ⟨w.heap.size + 1 + 1, 2, none⟩ = some (.int .i64 0) := hrow.cell 2
  obtain ⟨c0, c1, c2⟩ := set3 hrow (.slice A (i + q) C) (.int .i64 ((i : Int) + (n : Int))) (.int .i64 0)
  have H0 := Lib.hid c0
  have H1 := Lib.hid c1
  have H2 := Lib.hid c2
  have HB := Lib.hid hbl
  clear c0 c1 c2 hbl hb hrow
  unfold CurV
  go_wp2
  exact bodyPost_ret (v := .tuple #[.agg #[.slice A (i + q) C, .int .i64 ((i : Int) + (n : Int)), .int .i64 0], .int .u64 x, .slice none 0 0]) (by have c0 := H0.out; have c1 := H1.out; have c2 := H2.out; simp [results, Try.results11, go_sem, c0, c1, c2]) rfl ⟨none, 0, retD HI.out.symm HE.out.symm HV.out.symm (by rw [HL.out]; rfl), below_set3 HB.out (by omega) _ _ _, by rw [HL.out]; exact Sees.nil⟩

set_option maxRecDepth 100000 in
set_option maxHeartbeats 2000000 in
theorem do_4z (B : Nat) (A A' : Option Addr) (r : List Nat) (i q C : Nat) (a b m : Int) (w : World) (hite : (if C = i then A else Option.map (fun x => x.add i) A) = A') (hq : r.length = q) (hs : Sees w B A' (bts r)) (hB : B ≤ w.heap.size) (hby : Byt r) (hqC : i + q ≤ C) (hc : C ≤ maxLen) (hsm : i + q ≤ 1000) (ha : a ≤ 9223372036854775807) (hb64 : b ≤ 9223372036854775807) (hm0 : 0 ≤ m) (h0 : 0 ≤ a) (h1 : b = 0) (x n : Nat) (hx : (x : Int) ≤ a) (hg : getS r = (x, n, 0)) :
    Calls Try.prog 11 #[CurV A (i + q) C i 0, .agg #[.int .i64 4, .int .i64 a, .int .i64 b, .int .u64 m]] w (DoQ w B A r (i + q) C i 4 a b m) := by
  unfold maxLen at hc
  have hnq : n ≤ q := by
    have := getS_len r
    rw [hg, hq] at this
    exact this
  have hT : opT 4 a b m r = (x, n, 0) := by show countS a b r = _; have hu : uintS a r = (x, n, 0) := (by unfold uintS; rw [hg]; exact if_neg fun h => by have := h.2; simp only at this; omega); unfold countS; rw [if_neg (by omega), hu]; exact if_neg fun h => by have := h.2; simp only at this; omega
  have HI := Lib.hid (show ((stepI i 0 (opT 4 a b m r) : Nat) : Int) = (i : Int) + ((n : Nat) : Int) by rw [hT]; exact okI _ _ _)
  have HE := Lib.hid (show opE 4 a (i + q) i 0 (opT 4 a b m r) = 0 by rw [hT]; exact okE _ _ _ _ _ _ (by decide) (by decide))
  have HV := Lib.hid (show opV 4 0 (opT 4 a b m r) = (x : Int) by rw [hT]; exact okV _ _ _ (by decide))
  have HL := Lib.hid (show opL 4 a 0 r = [] from if_neg (by decide))
  clear hT
  have hget := rget_any B A' r (C - i) (W3 w #[.slice A (i + q) C, .int .i64 i, .int .i64 0] #[.int .i64 4, .int .i64 a, .int .i64 b, .int .u64 m]) (hs.below ((W3_below w _ _).mono hB)) hby (by rw [hq]; unfold maxLen; omega)
  rw [hq, hg] at hget
  have HG := Lib.hid hget
  clear hget hg
  have b0 : b ≤ 0 := by omega
  have b1 : 0 ≤ b := by omega
  clear h1
  have HQ := Lib.hid hq
  have HY := Lib.hid hby
  have HS := Lib.hid hs
  clear hq hby hs
  unfold CurV
  go_enter Try.func11, Try.ntmps11
  go_wp2_with fail
  refine HG.out.mono ?_
  rintro e W ⟨rfl, rfl⟩
  unfold W3
  go_wp2_with fail
  refine (step_ok _ _ _ _ _ _ _ (by omega) (by omega) (by omega)).mono ?_
  rintro e Wa ⟨rfl, hb⟩
  obtain ⟨hbl, hrow⟩ := W3_after hb
  have f0 := hrow.frozen 0
  have f1 := hrow.frozen 1
  have f2 := hrow.frozen 2
  have g0 : Wa.cell? ⟨w.heap.size + 1 + 1, 0, none⟩ = some (.slice none 0 0) := hrow.cell 0
  have g1 : Wa.cell? ⟨w.heap.size + 1 + 1, 1, none⟩ = some (.int .i64 0) := hrow.cell 1
  have g2 : Wa.cell? ⟨w.heap.size + 1 + 1, 2, none⟩ = some (.int .i64 0) := hrow.cell 2
  obtain ⟨c0, c1, c2⟩ := set3 hrow (.slice A (i + q) C) (.int .i64 ((i : Int) + (n : Int))) (.int .i64 0)
  have H0 := Lib.hid c0
  have H1 := Lib.hid c1
  have H2 := Lib.hid c2
  have HB := Lib.hid hbl
  clear c0 c1 c2 hbl hb hrow
  unfold CurV
  go_wp2
  exact bodyPost_ret (v := .tuple #[.agg #[.slice A (i + q) C, .int .i64 ((i : Int) + (n : Int)), .int .i64 0], .int .u64 x, .slice none 0 0]) (by have c0 := H0.out; have c1 := H1.out; have c2 := H2.out; simp [results, Try.results11, go_sem, c0, c1, c2]) rfl ⟨none, 0, retD HI.out.symm HE.out.symm HV.out.symm (by rw [HL.out]; rfl), below_set3 HB.out (by omega) _ _ _, by rw [HL.out]; exact Sees.nil⟩

set_option maxRecDepth 100000 in
set_option maxHeartbeats 2000000 in
theorem do_4s (B : Nat) (A A' : Option Addr) (r : List Nat) (i q C : Nat) (a b m : Int) (w : World) (hite : (if C = i then A else Option.map (fun x => x.add i) A) = A') (hq : r.length = q) (hs : Sees w B A' (bts r)) (hB : B ≤ w.heap.size) (hby : Byt r) (hqC : i + q ≤ C) (hc : C ≤ maxLen) (hsm : i + q ≤ 1000) (ha : a ≤ 9223372036854775807) (hb64 : b ≤ 9223372036854775807) (hm0 : 0 ≤ m) (h0 : 0 ≤ a) (h1 : 0 < b) (x n : Nat) (hx : (x : Int) ≤ a) (hg : getS r = (x, n, 0)) (hk : ((q : Int) - (n : Int)) / b < (x : Int)) :
    Calls Try.prog 11 #[CurV A (i + q) C i 0, .agg #[.int .i64 4, .int .i64 a, .int .i64 b, .int .u64 m]] w (DoQ w B A r (i + q) C i 4 a b m) := by
  unfold maxLen at hc
  have hnq : n ≤ q := by
    have := getS_len r
    rw [hg, hq] at this
    exact this
  have sp : 0 < b := h1
  have q0 : 0 ≤ ((q : Int) - (n : Int)) / b := Int.ediv_nonneg (by omega) (by omega)
  have q1 : ((q : Int) - (n : Int)) / b ≤ (q : Int) - (n : Int) := Int.ediv_le_self _ (by omega)
  have q2 : ((q : Int) - (n : Int)) / b ≤ 9223372036854775807 := by omega
  have hT : opT 4 a b m r = (0, 0, 1) := by show countS a b r = _; have hu : uintS a r = (x, n, 0) := (by unfold uintS; rw [hg]; exact if_neg fun h => by have := h.2; simp only at this; omega); unfold countS; rw [if_neg (by omega), hu, hq]; exact if_pos ⟨rfl, h1, hk⟩
  have HI := Lib.hid (show stepI i 0 (opT 4 a b m r) = i by rw [hT]; exact errI i _ (by decide))
  have HE := Lib.hid (show opE 4 a (i + q) i 0 (opT 4 a b m r) = ((1 : Nat) : Int) by rw [hT]; exact errE _ _ _ _ _ (by decide) (by decide))
  have HV := Lib.hid (show opV 4 0 (opT 4 a b m r) = 0 by rw [hT]; exact errV _ _)
  have HL := Lib.hid (show opL 4 a 0 r = [] from if_neg (by decide))
  clear hT
  have hget := rget_any B A' r (C - i) (W3 w #[.slice A (i + q) C, .int .i64 i, .int .i64 0] #[.int .i64 4, .int .i64 a, .int .i64 b, .int .u64 m]) (hs.below ((W3_below w _ _).mono hB)) hby (by rw [hq]; unfold maxLen; omega)
  rw [hq, hg] at hget
  have HG := Lib.hid hget
  clear hget hg
  have HQ := Lib.hid hq
  have HY := Lib.hid hby
  have HS := Lib.hid hs
  clear hq hby hs
  unfold CurV
  go_enter Try.func11, Try.ntmps11
  go_wp2_with fail
  refine HG.out.mono ?_
  rintro e W ⟨rfl, rfl⟩
  unfold W3
  go_wp2_with fail
  refine (step_err _ _ _ _ _ _ _ _ (by decide)).mono ?_
  rintro e Wa ⟨rfl, hb⟩
  obtain ⟨hbl, hrow⟩ := W3_after hb
  have f0 := hrow.frozen 0
  have f1 := hrow.frozen 1
  have f2 := hrow.frozen 2
  have g0 : Wa.cell? ⟨w.heap.size + 1 + 1, 0, none⟩ = some (.slice none 0 0) := hrow.cell 0
  have g1 : Wa.cell? ⟨w.heap.size + 1 + 1, 1, none⟩ = some (.int .i64 0) := hrow.cell 1
  have g2 : Wa.cell? ⟨w.heap.size + 1 + 1, 2, none⟩ = some (.int .i64 0) := hrow.cell 2
  obtain ⟨c0, c1, c2⟩ := set3 hrow (.slice A (i + q) C) (.int .i64 (i : Int)) (.int .i64 1)
  have H0 := Lib.hid c0
  have H1 := Lib.hid c1
  have H2 := Lib.hid c2
  have HB := Lib.hid hbl
  clear c0 c1 c2 hbl hb hrow
  unfold CurV
  go_wp2
  exact bodyPost_ret (v := .tuple #[.agg #[.slice A (i + q) C, .int .i64 (i : Int), .int .i64 1], .int .u64 0, .slice none 0 0]) (by have c0 := H0.out; have c1 := H1.out; have c2 := H2.out; simp [results, Try.results11, go_sem, c0, c1, c2]) rfl ⟨none, 0, retD (by rw [HI.out]) HE.out.symm HV.out.symm (by rw [HL.out]; rfl), below_set3 HB.out (by omega) _ _ _, by rw [HL.out]; exact Sees.nil⟩

set_option maxRecDepth 100000 in
set_option maxHeartbeats 2000000 in
theorem do_4 (B : Nat) (A A' : Option Addr) (r : List Nat) (i q C : Nat) (a b m : Int) (w : World) (hite : (if C = i then A else Option.map (fun x => x.add i) A) = A') (hq : r.length = q) (hs : Sees w B A' (bts r)) (hB : B ≤ w.heap.size) (hby : Byt r) (hqC : i + q ≤ C) (hc : C ≤ maxLen) (hsm : i + q ≤ 1000) (ha : a ≤ 9223372036854775807) (hb64 : b ≤ 9223372036854775807) (hm0 : 0 ≤ m) (h0 : 0 ≤ a) (h1 : 0 < b) (x n : Nat) (hx : (x : Int) ≤ a) (hg : getS r = (x, n, 0)) (hk : (x : Int) ≤ ((q : Int) - (n : Int)) / b) :
    Calls Try.prog 11 #[CurV A (i + q) C i 0, .agg #[.int .i64 4, .int .i64 a, .int .i64 b, .int .u64 m]] w (DoQ w B A r (i + q) C i 4 a b m) := by
  unfold maxLen at hc
  have hnq : n ≤ q := by
    have := getS_len r
    rw [hg, hq] at this
    exact this
  have sp : 0 < b := h1
  have q0 : 0 ≤ ((q : Int) - (n : Int)) / b := Int.ediv_nonneg (by omega) (by omega)
  have q1 : ((q : Int) - (n : Int)) / b ≤ (q : Int) - (n : Int) := Int.ediv_le_self _ (by omega)
  have q2 : ((q : Int) - (n : Int)) / b ≤ 9223372036854775807 := by omega
  have hT : opT 4 a b m r = (x, n, 0) := by show countS a b r = _; have hu : uintS a r = (x, n, 0) := (by unfold uintS; rw [hg]; exact if_neg fun h => by have := h.2; simp only at this; omega); unfold countS; rw [if_neg (by omega), hu, hq]; exact if_neg fun h => by have := h.2.2; simp only at this; omega
  have HI := Lib.hid (show ((stepI i 0 (opT 4 a b m r) : Nat) : Int) = (i : Int) + ((n : Nat) : Int) by rw [hT]; exact okI _ _ _)
  have HE := Lib.hid (show opE 4 a (i + q) i 0 (opT 4 a b m r) = 0 by rw [hT]; exact okE _ _ _ _ _ _ (by decide) (by decide))
  have HV := Lib.hid (show opV 4 0 (opT 4 a b m r) = (x : Int) by rw [hT]; exact okV _ _ _ (by decide))
  have HL := Lib.hid (show opL 4 a 0 r = [] from if_neg (by decide))
  clear hT
  have hget := rget_any B A' r (C - i) (W3 w #[.slice A (i + q) C, .int .i64 i, .int .i64 0] #[.int .i64 4, .int .i64 a, .int .i64 b, .int .u64 m]) (hs.below ((W3_below w _ _).mono hB)) hby (by rw [hq]; unfold maxLen; omega)
  rw [hq, hg] at hget
  have HG := Lib.hid hget
  clear hget hg
  have HQ := Lib.hid hq
  have HY := Lib.hid hby
  have HS := Lib.hid hs
  clear hq hby hs
  unfold CurV
  go_enter Try.func11, Try.ntmps11
  go_wp2_with fail
  refine HG.out.mono ?_
  rintro e W ⟨rfl, rfl⟩
  unfold W3
  go_wp2_with fail
  refine (step_ok _ _ _ _ _ _ _ (by omega) (by omega) (by omega)).mono ?_
  rintro e Wa ⟨rfl, hb⟩
  obtain ⟨hbl, hrow⟩ := W3_after hb
  have f0 := hrow.frozen 0
  have f1 := hrow.frozen 1
  have f2 := hrow.frozen 2
  have g0 : Wa.cell? ⟨w.heap.size + 1 + 1, 0, none⟩ = some (.slice none 0 0) := hrow.cell 0
  have g1 : Wa.cell? ⟨w.heap.size + 1 + 1, 1, none⟩ = some (.int .i64 0) := hrow.cell 1
  have g2 : Wa.cell? ⟨w.heap.size + 1 + 1, 2, none⟩ = some (.int .i64 0) := hrow.cell 2
  obtain ⟨c0, c1, c2⟩ := set3 hrow (.slice A (i + q) C) (.int .i64 ((i : Int) + (n : Int))) (.int .i64 0)
  have H0 := Lib.hid c0
  have H1 := Lib.hid c1
  have H2 := Lib.hid c2
  have HB := Lib.hid hbl
  clear c0 c1 c2 hbl hb hrow
  unfold CurV
  go_wp2
  exact bodyPost_ret (v := .tuple #[.agg #[.slice A (i + q) C, .int .i64 ((i : Int) + (n : Int)), .int .i64 0], .int .u64 x, .slice none 0 0]) (by have c0 := H0.out; have c1 := H1.out; have c2 := H2.out; simp [results, Try.results11, go_sem, c0, c1, c2]) rfl ⟨none, 0, retD HI.out.symm HE.out.symm HV.out.symm (by rw [HL.out]; rfl), below_set3 HB.out (by omega) _ _ _, by rw [HL.out]; exact Sees.nil⟩

set_option maxRecDepth 100000 in
set_option maxHeartbeats 2000000 in
theorem do_3 (B : Nat) (A A' : Option Addr) (r : List Nat) (i q C : Nat) (a b m : Int) (w : World) (hite : (if C = i then A else Option.map (fun x => x.add i) A) = A') (hq : r.length = q) (hs : Sees w B A' (bts r)) (hB : B ≤ w.heap.size) (hby : Byt r) (hqC : i + q ≤ C) (hc : C ≤ maxLen) (hsm : i + q ≤ 1000) (ha : a ≤ 9223372036854775807) (hb64 : b ≤ 9223372036854775807) (hm0 : 0 ≤ m) (x n : Nat) (hg : getS r = (x, n, 0)) :
    Calls Try.prog 11 #[CurV A (i + q) C i 0, .agg #[.int .i64 3, .int .i64 a, .int .i64 b, .int .u64 m]] w (DoQ w B A r (i + q) C i 3 a b m) := by
  unfold maxLen at hc
  have hnq : n ≤ q := by
    have := getS_len r
    rw [hg, hq] at this
    exact this
  have hxm := getS_max r hby
  rw [hg] at hxm
  have HU : Hid (InU (x : Int)) := by unfold InU; exact ⟨by omega, by simp only at hxm; omega⟩
  clear hxm
  have hT : opT 3 a b m r = (x, n, 0) := hg
  have HI := Lib.hid (show ((stepI i 0 (opT 3 a b m r) : Nat) : Int) = (i : Int) + ((n : Nat) : Int) by rw [hT]; exact okI _ _ _)
  have HE := Lib.hid (show opE 3 a (i + q) i 0 (opT 3 a b m r) = 0 by rw [hT]; exact okE _ _ _ _ _ _ (by decide) (by decide))
  have HV := Lib.hid (show opV 3 0 (opT 3 a b m r) = IntKind.u64.wrap (uz (x : Int)) by rw [hT]; unfold opV; rw [if_pos rfl]; show uz ((x : Nat) : Int) % _ = _; rw [IntKind.wrap_u64])
  have HL := Lib.hid (show opL 3 a 0 r = [] from if_neg (by decide))
  clear hT
  have hget := rget_any B A' r (C - i) (W3 w #[.slice A (i + q) C, .int .i64 i, .int .i64 0] #[.int .i64 3, .int .i64 a, .int .i64 b, .int .u64 m]) (hs.below ((W3_below w _ _).mono hB)) hby (by rw [hq]; unfold maxLen; omega)
  rw [hq, hg] at hget
  have HG := Lib.hid hget
  clear hget hg
  have HQ := Lib.hid hq
  have HY := Lib.hid hby
  have HS := Lib.hid hs
  clear hq hby hs
  unfold CurV
  go_enter Try.func11, Try.ntmps11
  go_wp2_with fail
  refine HG.out.mono ?_
  rintro e W ⟨rfl, rfl⟩
  unfold W3
  go_wp2_with fail
  refine (runzig_any _ _ HU.out).mono ?_
  rintro e W ⟨rfl, rfl⟩
  go_wp2_with fail
  refine (step_ok _ _ _ _ _ _ _ (by omega) (by omega) (by omega)).mono ?_
  rintro e Wa ⟨rfl, hb⟩
  obtain ⟨hbl, hrow⟩ := W3_after hb
  have f0 := hrow.frozen 0
  have f1 := hrow.frozen 1
  have f2 := hrow.frozen 2
  have g0 : Wa.cell? ⟨w.heap.size + 1 + 1, 0, none⟩ = some (.slice none 0 0) := hrow.cell 0
  have g1 : Wa.cell? ⟨w.heap.size + 1 + 1, 1, none⟩ = some (.int .i64 0) := hrow.cell 1
  have g2 : Wa.cell? ⟨w.heap.size + 1 + 1, 2, none⟩ = some (.int .i64 0) := hrow.cell 2
  obtain ⟨c0, c1, c2⟩ := set3 hrow (.slice A (i + q) C) (.int .i64 ((i : Int) + (n : Int))) (.int .i64 0)
  have H0 := Lib.hid c0
  have H1 := Lib.hid c1
  have H2 := Lib.hid c2
  have HB := Lib.hid hbl
  clear c0 c1 c2 hbl hb hrow
  unfold CurV
  go_wp2
  exact bodyPost_ret (v := .tuple #[.agg #[.slice A (i + q) C, .int .i64 ((i : Int) + (n : Int)), .int .i64 0], .int .u64 (IntKind.u64.wrap (uz (x : Int))), .slice none 0 0]) (by have c0 := H0.out; have c1 := H1.out; have c2 := H2.out; simp [results, Try.results11, go_sem, c0, c1, c2]) rfl ⟨none, 0, retD HI.out.symm HE.out.symm HV.out.symm (by rw [HL.out]; rfl), below_set3 HB.out (by omega) _ _ _, by rw [HL.out]; exact Sees.nil⟩


end Go.Proofs.Ytjgigdmjciedpaa
