/-
  The reference's step and Do.
-/
import Derived.Test.YtjgigdmjciedpaaCurOp
import Derived.Test.YtjgigdmjciedpaaVarRget
import Derived.Test.YtjgigdmjciedpaaVarRunzig
import Derived.Deep.RegionWith
import Derived.Deep.RegionHeld3
import Derived.Deep.DeepMust
namespace Go.Proofs.Ytjgigdmjciedpaa
open Go.RowKit
set_option linter.unusedVariables false

theorem below_cells {W W1 : World} (hb : Below W.heap.size W W1) : (∀ b o, b < W.heap.size → W1.cell? ⟨b, o, none⟩ = W.cell? ⟨b, o, none⟩) ∧ (∀ b o, b < W.heap.size → W1.frozen? ⟨b, o, none⟩ = W.frozen? ⟨b, o, none⟩) :=
  ⟨fun b o h => hb.cell (p := ⟨b, o, none⟩) h, fun b o h => hb.frozen (p := ⟨b, o, none⟩) h⟩
def CurV (A : Option Addr) (n c : Nat) (i er : Int) : Value := .agg #[.slice A n c, .int .i64 i, .int .i64 er]

set_option maxRecDepth 100000 in
set_option maxHeartbeats 400000 in
theorem step_err (A : Option Addr) (n c : Nat) (i er k e : Int) (w : World) (he : e ≠ 0) :
    Calls Try.prog 29 #[CurV A n c i er, .int .i64 k, .int .i64 e] w fun x w' => x = .returned (CurV A n c i e) ∧ Below w.heap.size w w' := by
  have e0 : (e != 0) = true := by simp [he]
  clear he
  unfold CurV
  go_enter Try.func29, Try.ntmps29
  go_wp2
  exact bodyPost_ret (v := .agg #[.slice A n c, .int .i64 i, .int .i64 e]) (by simp [results, Try.results29, go_sem]) rfl ⟨rfl, ((Below.refl _ _).alloc (Nat.le_refl _) _).alloc (by simp) _⟩

set_option maxRecDepth 100000 in
set_option maxHeartbeats 400000 in
theorem step_ok (A : Option Addr) (n c : Nat) (i er k : Int) (w : World) (h0 : 0 ≤ i) (h1 : 0 ≤ k) (h2 : i + k ≤ 9223372036854775807) :
    Calls Try.prog 29 #[CurV A n c i er, .int .i64 k, .int .i64 0] w fun x w' => x = .returned (CurV A n c (i + k) er) ∧ Below w.heap.size w w' := by
  unfold CurV
  go_enter Try.func29, Try.ntmps29
  go_wp2
  exact bodyPost_ret (v := .agg #[.slice A n c, .int .i64 (i + k), .int .i64 er]) (by simp [results, Try.results29, go_sem]) rfl ⟨rfl, ((Below.refl _ _).alloc (Nat.le_refl _) _).alloc (by simp) _⟩

/-- What Do leaves. -/
def DoP (w : World) (B : Nat) (A : Option Addr) (l : List Nat) (c i : Nat) (er k a b m : Int) (e : Ending) (w' : World) : Prop :=
  ∃ A' c', e = .returned (.tuple #[CurV A l.length c (stepI i er (opT k a b m (l.drop i)) : Nat) (opE k a l.length i er (opT k a b m (l.drop i))), .int .u64 (opV k er (opT k a b m (l.drop i))), .slice A' (opL k a er (l.drop i)).length c']) ∧
    Below w.heap.size w w' ∧ Sees w' B A' (bts (opL k a er (l.drop i)))

set_option maxRecDepth 100000 in
set_option maxHeartbeats 400000 in
theorem do_bad (B : Nat) (A : Option Addr) (l : List Nat) (c i : Nat) (er k a b m : Int) (w : World) (he : er ≠ 0) :
    Calls Try.prog 11 #[CurV A l.length c i er, .agg #[.int .i64 k, .int .i64 a, .int .i64 b, .int .u64 m]] w (DoP w B A l c i er k a b m) := by
  have e0 : (er != 0) = true := by simp [he]
  have hV : opV k er (opT k a b m (l.drop i)) = 0 := by
    have hs : stepV er (opT k a b m (l.drop i)) = 0 := if_neg fun h => he h.1
    unfold opV
    rw [hs]
    split
    · rfl
    · rfl
  have hI : stepI i er (opT k a b m (l.drop i)) = i := if_neg fun h => he h.1
  have hE : opE k a l.length i er (opT k a b m (l.drop i)) = er := by
    unfold opE
    split
    · exact if_neg fun h => he h.1
    · split
      · exact if_neg he
      · exact if_neg he
  have hL : opL k a er (l.drop i) = [] := by
    unfold opL
    split
    · exact bytesL_bad he
    · rfl
  unfold DoP
  rw [hV, hI, hE, hL]
  clear hV hI hE hL he
  unfold CurV
  go_enter Try.func11, Try.ntmps11
  go_wp2
  exact bodyPost_ret (v := .tuple #[.agg #[.slice A l.length c, .int .i64 i, .int .i64 er], .int .u64 0, .slice none 0 0]) (by simp [results, Try.results11, go_sem]) rfl ⟨none, 0, rfl, (((Below.refl _ _).alloc (Nat.le_refl _) _).alloc (by simp) _).alloc (by simp; omega) _, Sees.nil⟩

theorem uintS_kind (most : Int) (l : List Nat) : (∃ v n, uintS most l = (v, n, 0)) ∨ (∃ e, e ≠ 0 ∧ uintS most l = (0, 0, e)) := by
  unfold uintS
  split
  · exact .inr ⟨6, by decide, rfl⟩
  · rcases getS_kinds l with ⟨x, n, hk⟩ | hk | hk
    · exact .inl ⟨x, n, hk⟩
    · exact .inr ⟨1, by decide, hk⟩
    · exact .inr ⟨3, by decide, hk⟩

/-- What Do leaves, for a cursor without an error: r the bytes that are left. -/
def DoQ (w : World) (B : Nat) (A : Option Addr) (r : List Nat) (n c i : Nat) (k a b m : Int) (e : Ending) (w' : World) : Prop :=
  ∃ A' c', e = .returned (.tuple #[CurV A n c (stepI i 0 (opT k a b m r) : Nat) (opE k a n i 0 (opT k a b m r)), .int .u64 (opV k 0 (opT k a b m r)), .slice A' (opL k a 0 r).length c']) ∧
    Below w.heap.size w w' ∧ Sees w' B A' (bts (opL k a 0 r))
theorem retD {A A' : Option Addr} {n c c' : Nat} {i i' er er' v v' : Int} {k k' : Nat} (h1 : i = i') (h2 : er = er') (h3 : v = v') (h4 : k = k') :
    Ending.returned (.tuple #[.agg #[.slice A n c, .int .i64 i, .int .i64 er], .int .u64 v, .slice A' k c']) = .returned (.tuple #[CurV A n c i' er', .int .u64 v', .slice A' k' c']) := by
  rw [h1, h2, h3, h4]
  rfl

theorem set3 {W : World} {q : Nat} {T : TypeId} {u0 u1 u2 : Value} (hr : Row W q T #[u0, u1, u2]) (X Y Z : Value) :
    (((W.setCell ⟨q, 0, none⟩ X).setCell ⟨q, 1, none⟩ Y).setCell ⟨q, 2, none⟩ Z).cell? ⟨q, 0, none⟩ = some X ∧
    (((W.setCell ⟨q, 0, none⟩ X).setCell ⟨q, 1, none⟩ Y).setCell ⟨q, 2, none⟩ Z).cell? ⟨q, 1, none⟩ = some Y ∧
    (((W.setCell ⟨q, 0, none⟩ X).setCell ⟨q, 1, none⟩ Y).setCell ⟨q, 2, none⟩ Z).cell? ⟨q, 2, none⟩ = some Z := by
  have r := ((hr.put 0 X).put 1 Y).put 2 Z
  exact ⟨r.cell 0, r.cell 1, r.cell 2⟩
theorem below_set3 {B q : Nat} {w W : World} (h : Below B w W) (hq : B ≤ q) (X Y Z : Value) : Below B w (((W.setCell ⟨q, 0, none⟩ X).setCell ⟨q, 1, none⟩ Y).setCell ⟨q, 2, none⟩ Z) :=
  ((h.setCell (p := ⟨q, 0, none⟩) hq _).setCell (p := ⟨q, 1, none⟩) hq _).setCell (p := ⟨q, 2, none⟩) hq _
theorem sees_set3 {B q : Nat} {W : World} {A : Option Addr} {xs : List Value} (h : Sees W B A xs) (hq : B ≤ q) (X Y Z : Value) : Sees (((W.setCell ⟨q, 0, none⟩ X).setCell ⟨q, 1, none⟩ Y).setCell ⟨q, 2, none⟩ Z) B A xs :=
  ((h.setCell (p := ⟨q, 0, none⟩) hq _).setCell (p := ⟨q, 1, none⟩) hq _).setCell (p := ⟨q, 2, none⟩) hq _

theorem errI (i e : Nat) (he : e ≠ 0) : stepI i 0 (0, 0, e) = i := if_neg fun h => he h.2
theorem errV (k : Int) (e : Nat) : opV k 0 (0, 0, e) = 0 := by
  unfold opV
  rw [stepV_zero]
  split
  · rfl
  · rfl
theorem errE (k a : Int) (n i e : Nat) (h5 : k ≠ 5) (h6 : k ≠ 6) : opE k a n i 0 (0, 0, e) = (e : Int) := by
  unfold opE
  rw [if_neg h5, if_neg h6]
  rfl
theorem okI (i v n : Nat) : ((stepI i 0 (v, n, 0) : Nat) : Int) = (i : Int) + n := by simp [stepI]
theorem okE (k a : Int) (n' i v n : Nat) (h5 : k ≠ 5) (h6 : k ≠ 6) : opE k a n' i 0 (v, n, 0) = 0 := by
  unfold opE
  rw [if_neg h5, if_neg h6]
  rfl
theorem okV (k : Int) (v n : Nat) (h3 : k ≠ 3) : opV k 0 (v, n, 0) = v := by
  unfold opV
  rw [if_neg h3]
  rfl

/-- The three blocks that Do makes: the cursor, the read, the result. -/
def W3 (w : World) (V : Array Value) (R : Array Value) : World := ((w.alloc (.cells V 28)).alloc (.cells R 31)).alloc (.cells #[.slice none 0 0, .int .i64 0, .int .i64 0] 28)
theorem W3_below (w : World) (V R : Array Value) : Below w.heap.size w (W3 w V R) := (((Below.refl w.heap.size w).alloc (Nat.le_refl _) _).alloc (by simp) _).alloc (by simp; omega) _
theorem W3_size (w : World) (V R : Array Value) : (W3 w V R).heap.size = w.heap.size + 3 := by simp [W3]
theorem W3_row (w : World) (V R : Array Value) : Row (W3 w V R) (w.heap.size + 1 + 1) 28 #[.slice none 0 0, .int .i64 0, .int .i64 0] := by
  have := Row.new ((w.alloc (.cells V 28)).alloc (.cells R 31)) 28 #[.slice none 0 0, .int .i64 0, .int .i64 0]
  simpa [W3] using this
/-- What is known behind a call that made memory. -/
theorem W3_after {w Wa : World} {V R : Array Value} (hb : Below (W3 w V R).heap.size (W3 w V R) Wa) :
    Below w.heap.size w Wa ∧ Row Wa (w.heap.size + 1 + 1) 28 #[.slice none 0 0, .int .i64 0, .int .i64 0] :=
  ⟨(W3_below w V R).trans (hb.mono (W3_below w V R).size), (W3_row w V R).below hb (by rw [W3_size]; omega)⟩

set_option maxRecDepth 100000 in
set_option maxHeartbeats 2000000 in
theorem do_0e (B : Nat) (A A' : Option Addr) (r : List Nat) (i q C : Nat) (a b m : Int) (w : World) (hite : (if C = i then A else Option.map (fun x => x.add i) A) = A') (hq : r.length = q) (hs : Sees w B A' (bts r)) (hB : B ≤ w.heap.size) (hby : Byt r) (hqC : i + q ≤ C) (hc : C ≤ maxLen) (hsm : i + q ≤ 1000) (ha : a ≤ 9223372036854775807) (hb64 : b ≤ 9223372036854775807) (hm0 : 0 ≤ m) (h0 : q = 0) :
    Calls Try.prog 11 #[CurV A (i + q) C i 0, .agg #[.int .i64 0, .int .i64 a, .int .i64 b, .int .u64 m]] w (DoQ w B A r (i + q) C i 0 a b m) := by
  unfold maxLen at hc
  have hr : r = [] := List.eq_nil_of_length_eq_zero (by omega)
  subst hr
  have hq0 : ((q : Int) == 0) = true := by rw [beq_iff_eq]; omega
  clear h0
  have HQ := Lib.hid hq
  have HY := Lib.hid hby
  have HS := Lib.hid hs
  clear hq hby hs
  unfold CurV
  go_enter Try.func11, Try.ntmps11
  go_wp2_with fail
  refine (step_err _ _ _ _ _ _ _ _ (by decide)).mono ?_
  rintro e Wa ⟨rfl, hb⟩
  obtain ⟨hbl, hrow⟩ := W3_after hb
  have f0 := hrow.frozen 0
  have f1 := hrow.frozen 1
  have f2 := hrow.frozen 2
  have g0 : Wa.cell? ⟨w.heap.size + 1 + 1, 0, none⟩ = some (.slice none 0 0) := hrow.cell 0
  have g1 : Wa.cell? ⟨w.heap.size + 1 + 1, 1, none⟩ = some (.int .i64 0) := hrow.cell 1
  have g2 : Wa.cell? ⟨w.heap.size + 1 + 1, 2, none⟩ = some (.int .i64 0) := hrow.cell 2
  obtain ⟨c0, c1, c2⟩ := set3 hrow (.slice A (i + q) C) (.int .i64 (i : Int)) (.int .i64 1)
  have H0 := Lib.hid c0
  have H1 := Lib.hid c1
  have H2 := Lib.hid c2
  have HB := Lib.hid hbl
  clear c0 c1 c2 hbl hb hrow
  unfold CurV
  go_wp2
  exact bodyPost_ret (v := .tuple #[.agg #[.slice A (i + q) C, .int .i64 (i : Int), .int .i64 1], .int .u64 0, .slice none 0 0]) (by have c0 := H0.out; have c1 := H1.out; have c2 := H2.out; simp [results, Try.results11, go_sem, c0, c1, c2]) rfl ⟨none, 0, retD rfl rfl rfl rfl, below_set3 HB.out (by omega) _ _ _, Sees.nil⟩

set_option maxRecDepth 100000 in
set_option maxHeartbeats 2000000 in
theorem do_5e (B : Nat) (A A' : Option Addr) (r : List Nat) (i q C : Nat) (a b m : Int) (w : World) (hite : (if C = i then A else Option.map (fun x => x.add i) A) = A') (hq : r.length = q) (hs : Sees w B A' (bts r)) (hB : B ≤ w.heap.size) (hby : Byt r) (hqC : i + q ≤ C) (hc : C ≤ maxLen) (hsm : i + q ≤ 1000) (ha : a ≤ 9223372036854775807) (hb64 : b ≤ 9223372036854775807) (hm0 : 0 ≤ m) (h0 : q = 0) :
    Calls Try.prog 11 #[CurV A (i + q) C i 0, .agg #[.int .i64 5, .int .i64 a, .int .i64 b, .int .u64 m]] w (DoQ w B A r (i + q) C i 5 a b m) := by
  unfold maxLen at hc
  have hr : r = [] := List.eq_nil_of_length_eq_zero (by omega)
  subst hr
  have hq0 : (q : Int) ≤ 0 := by omega
  have HE := Lib.hid (show endS (i + q) i 0 = 0 from if_neg fun h => by omega)
  clear h0
  have HQ := Lib.hid hq
  have HY := Lib.hid hby
  have HS := Lib.hid hs
  clear hq hby hs
  unfold CurV
  go_enter Try.func11, Try.ntmps11
  go_wp2
  exact bodyPost_ret (v := .tuple #[.agg #[.slice A (i + q) C, .int .i64 i, .int .i64 0], .int .u64 0, .slice none 0 0]) (by simp [results, Try.results11, go_sem]) rfl ⟨none, 0, retD rfl HE.out.symm rfl rfl, (((Below.refl _ _).alloc (Nat.le_refl _) _).alloc (by simp) _).alloc (by simp; omega) _, Sees.nil⟩
set_option maxRecDepth 100000 in
set_option maxHeartbeats 2000000 in
theorem do_5 (B : Nat) (A A' : Option Addr) (r : List Nat) (i q C : Nat) (a b m : Int) (w : World) (hite : (if C = i then A else Option.map (fun x => x.add i) A) = A') (hq : r.length = q) (hs : Sees w B A' (bts r)) (hB : B ≤ w.heap.size) (hby : Byt r) (hqC : i + q ≤ C) (hc : C ≤ maxLen) (hsm : i + q ≤ 1000) (ha : a ≤ 9223372036854775807) (hb64 : b ≤ 9223372036854775807) (hm0 : 0 ≤ m) (h0 : 0 < q) :
    Calls Try.prog 11 #[CurV A (i + q) C i 0, .agg #[.int .i64 5, .int .i64 a, .int .i64 b, .int .u64 m]] w (DoQ w B A r (i + q) C i 5 a b m) := by
  unfold maxLen at hc
  have HE := Lib.hid (show endS (i + q) i 0 = 2 from if_pos ⟨rfl, by omega⟩)
  have HQ := Lib.hid hq
  have HY := Lib.hid hby
  have HS := Lib.hid hs
  clear hq hby hs
  unfold CurV
  go_enter Try.func11, Try.ntmps11
  go_wp2
  exact bodyPost_ret (v := .tuple #[.agg #[.slice A (i + q) C, .int .i64 i, .int .i64 2], .int .u64 0, .slice none 0 0]) (by simp [results, Try.results11, go_sem]) rfl ⟨none, 0, retD rfl HE.out.symm rfl rfl, (((Below.refl _ _).alloc (Nat.le_refl _) _).alloc (by simp) _).alloc (by simp; omega) _, Sees.nil⟩
set_option maxRecDepth 100000 in
set_option maxHeartbeats 2000000 in
theorem do_6 (B : Nat) (A A' : Option Addr) (r : List Nat) (i q C : Nat) (a b m : Int) (w : World) (hite : (if C = i then A else Option.map (fun x => x.add i) A) = A') (hq : r.length = q) (hs : Sees w B A' (bts r)) (hB : B ≤ w.heap.size) (hby : Byt r) (hqC : i + q ≤ C) (hc : C ≤ maxLen) (hsm : i + q ≤ 1000) (ha : a ≤ 9223372036854775807) (hb64 : b ≤ 9223372036854775807) (hm0 : 0 ≤ m) :
    Calls Try.prog 11 #[CurV A (i + q) C i 0, .agg #[.int .i64 6, .int .i64 a, .int .i64 b, .int .u64 m]] w (DoQ w B A r (i + q) C i 6 a b m) := by
  unfold maxLen at hc
  have HQ := Lib.hid hq
  have HY := Lib.hid hby
  have HS := Lib.hid hs
  clear hq hby hs
  unfold CurV
  go_enter Try.func11, Try.ntmps11
  go_wp2
  exact bodyPost_ret (v := .tuple #[.agg #[.slice A (i + q) C, .int .i64 i, .int .i64 a], .int .u64 0, .slice none 0 0]) (by simp [results, Try.results11, go_sem]) rfl ⟨none, 0, retD rfl rfl rfl rfl, (((Below.refl _ _).alloc (Nat.le_refl _) _).alloc (by simp) _).alloc (by simp; omega) _, Sees.nil⟩
set_option maxRecDepth 100000 in
set_option maxHeartbeats 2000000 in
theorem do_1n (B : Nat) (A A' : Option Addr) (r : List Nat) (i q C : Nat) (a b m : Int) (w : World) (hite : (if C = i then A else Option.map (fun x => x.add i) A) = A') (hq : r.length = q) (hs : Sees w B A' (bts r)) (hB : B ≤ w.heap.size) (hby : Byt r) (hqC : i + q ≤ C) (hc : C ≤ maxLen) (hsm : i + q ≤ 1000) (ha : a ≤ 9223372036854775807) (hb64 : b ≤ 9223372036854775807) (hm0 : 0 ≤ m) (h0 : a < 0) :
    Calls Try.prog 11 #[CurV A (i + q) C i 0, .agg #[.int .i64 1, .int .i64 a, .int .i64 b, .int .u64 m]] w (DoQ w B A r (i + q) C i 1 a b m) := by
  unfold maxLen at hc
  have hT : opT 1 a b m r = (0, 0, 32) := if_pos h0
  have HI := Lib.hid (show stepI i 0 (opT 1 a b m r) = i by rw [hT]; exact errI i _ (by decide))
  have HE := Lib.hid (show opE 1 a (i + q) i 0 (opT 1 a b m r) = ((32 : Nat) : Int) by rw [hT]; exact errE _ _ _ _ _ (by decide) (by decide))
  have HV := Lib.hid (show opV 1 0 (opT 1 a b m r) = 0 by rw [hT]; exact errV _ _)
  have HL := Lib.hid (show opL 1 a 0 r = [] from bytesL_neg h0)
  clear hT
  have HQ := Lib.hid hq
  have HY := Lib.hid hby
  have HS := Lib.hid hs
  clear hq hby hs
  unfold CurV
  go_enter Try.func11, Try.ntmps11
  go_wp2_with fail
  refine (step_err _ _ _ _ _ _ _ _ (by decide)).mono ?_
  rintro e Wa ⟨rfl, hb⟩
  obtain ⟨hbl, hrow⟩ := W3_after hb
  have f0 := hrow.frozen 0
  have f1 := hrow.frozen 1
  have f2 := hrow.frozen 2
  have g0 : Wa.cell? ⟨w.heap.size + 1 + 1, 0, none⟩ = some (.slice none 0 0) := hrow.cell 0
  have g1 : Wa.cell? ⟨w.heap.size + 1 + 1, 1, none⟩ = some (.int .i64 0) := hrow.cell 1
  have g2 : Wa.cell? ⟨w.heap.size + 1 + 1, 2, none⟩ = some (.int .i64 0) := hrow.cell 2
  obtain ⟨c0, c1, c2⟩ := set3 hrow (.slice A (i + q) C) (.int .i64 (i : Int)) (.int .i64 32)
  have H0 := Lib.hid c0
  have H1 := Lib.hid c1
  have H2 := Lib.hid c2
  have HB := Lib.hid hbl
  clear c0 c1 c2 hbl hb hrow
  unfold CurV
  go_wp2
  exact bodyPost_ret (v := .tuple #[.agg #[.slice A (i + q) C, .int .i64 (i : Int), .int .i64 32], .int .u64 0, .slice none 0 0]) (by have c0 := H0.out; have c1 := H1.out; have c2 := H2.out; simp [results, Try.results11, go_sem, c0, c1, c2]) rfl ⟨none, 0, retD (by rw [HI.out]) HE.out.symm HV.out.symm (by rw [HL.out]; rfl), below_set3 HB.out (by omega) _ _ _, by rw [HL.out]; exact Sees.nil⟩

set_option maxRecDepth 100000 in
set_option maxHeartbeats 2000000 in
theorem do_1f (B : Nat) (A A' : Option Addr) (r : List Nat) (i q C : Nat) (a b m : Int) (w : World) (hite : (if C = i then A else Option.map (fun x => x.add i) A) = A') (hq : r.length = q) (hs : Sees w B A' (bts r)) (hB : B ≤ w.heap.size) (hby : Byt r) (hqC : i + q ≤ C) (hc : C ≤ maxLen) (hsm : i + q ≤ 1000) (ha : a ≤ 9223372036854775807) (hb64 : b ≤ 9223372036854775807) (hm0 : 0 ≤ m) (h0 : 0 ≤ a) (h1 : (q : Int) < a) :
    Calls Try.prog 11 #[CurV A (i + q) C i 0, .agg #[.int .i64 1, .int .i64 a, .int .i64 b, .int .u64 m]] w (DoQ w B A r (i + q) C i 1 a b m) := by
  unfold maxLen at hc
  have hT : opT 1 a b m r = (0, 0, 1) := by show bytesS a r = _; exact (if_neg (by omega)).trans (if_pos (by omega))
  have HI := Lib.hid (show stepI i 0 (opT 1 a b m r) = i by rw [hT]; exact errI i _ (by decide))
  have HE := Lib.hid (show opE 1 a (i + q) i 0 (opT 1 a b m r) = ((1 : Nat) : Int) by rw [hT]; exact errE _ _ _ _ _ (by decide) (by decide))
  have HV := Lib.hid (show opV 1 0 (opT 1 a b m r) = 0 by rw [hT]; exact errV _ _)
  have HL := Lib.hid (show opL 1 a 0 r = [] from bytesL_far (by omega))
  clear hT
  have HQ := Lib.hid hq
  have HY := Lib.hid hby
  have HS := Lib.hid hs
  clear hq hby hs
  unfold CurV
  go_enter Try.func11, Try.ntmps11
  go_wp2_with fail
  refine (step_err _ _ _ _ _ _ _ _ (by decide)).mono ?_
  rintro e Wa ⟨rfl, hb⟩
  obtain ⟨hbl, hrow⟩ := W3_after hb
  have f0 := hrow.frozen 0
  have f1 := hrow.frozen 1
  have f2 := hrow.frozen 2
  have g0 : Wa.cell? ⟨w.heap.size + 1 + 1, 0, none⟩ = some (.slice none 0 0) := hrow.cell 0
  have g1 : Wa.cell? ⟨w.heap.size + 1 + 1, 1, none⟩ = some (.int .i64 0) := hrow.cell 1
  have g2 : Wa.cell? ⟨w.heap.size + 1 + 1, 2, none⟩ = some (.int .i64 0) := hrow.cell 2
  obtain ⟨c0, c1, c2⟩ := set3 hrow (.slice A (i + q) C) (.int .i64 (i : Int)) (.int .i64 1)
  have H0 := Lib.hid c0
  have H1 := Lib.hid c1
  have H2 := Lib.hid c2
  have HB := Lib.hid hbl
  clear c0 c1 c2 hbl hb hrow
  unfold CurV
  go_wp2
  exact bodyPost_ret (v := .tuple #[.agg #[.slice A (i + q) C, .int .i64 (i : Int), .int .i64 1], .int .u64 0, .slice none 0 0]) (by have c0 := H0.out; have c1 := H1.out; have c2 := H2.out; simp [results, Try.results11, go_sem, c0, c1, c2]) rfl ⟨none, 0, retD (by rw [HI.out]) HE.out.symm HV.out.symm (by rw [HL.out]; rfl), below_set3 HB.out (by omega) _ _ _, by rw [HL.out]; exact Sees.nil⟩

set_option maxRecDepth 100000 in
set_option maxHeartbeats 2000000 in
theorem do_4a (B : Nat) (A A' : Option Addr) (r : List Nat) (i q C : Nat) (a b m : Int) (w : World) (hite : (if C = i then A else Option.map (fun x => x.add i) A) = A') (hq : r.length = q) (hs : Sees w B A' (bts r)) (hB : B ≤ w.heap.size) (hby : Byt r) (hqC : i + q ≤ C) (hc : C ≤ maxLen) (hsm : i + q ≤ 1000) (ha : a ≤ 9223372036854775807) (hb64 : b ≤ 9223372036854775807) (hm0 : 0 ≤ m) (h0 : a < 0) :
    Calls Try.prog 11 #[CurV A (i + q) C i 0, .agg #[.int .i64 4, .int .i64 a, .int .i64 b, .int .u64 m]] w (DoQ w B A r (i + q) C i 4 a b m) := by
  unfold maxLen at hc
  have hT : opT 4 a b m r = (0, 0, 32) := by show countS a b r = _; exact if_pos (.inl h0)
  have HI := Lib.hid (show stepI i 0 (opT 4 a b m r) = i by rw [hT]; exact errI i _ (by decide))
  have HE := Lib.hid (show opE 4 a (i + q) i 0 (opT 4 a b m r) = ((32 : Nat) : Int) by rw [hT]; exact errE _ _ _ _ _ (by decide) (by decide))
  have HV := Lib.hid (show opV 4 0 (opT 4 a b m r) = 0 by rw [hT]; exact errV _ _)
  have HL := Lib.hid (show opL 4 a 0 r = [] from if_neg (by decide))
  clear hT
  have HQ := Lib.hid hq
  have HY := Lib.hid hby
  have HS := Lib.hid hs
  clear hq hby hs
  unfold CurV
  go_enter Try.func11, Try.ntmps11
  go_wp2_with fail
  refine (step_err _ _ _ _ _ _ _ _ (by decide)).mono ?_
  rintro e Wa ⟨rfl, hb⟩
  obtain ⟨hbl, hrow⟩ := W3_after hb
  have f0 := hrow.frozen 0
  have f1 := hrow.frozen 1
  have f2 := hrow.frozen 2
  have g0 : Wa.cell? ⟨w.heap.size + 1 + 1, 0, none⟩ = some (.slice none 0 0) := hrow.cell 0
  have g1 : Wa.cell? ⟨w.heap.size + 1 + 1, 1, none⟩ = some (.int .i64 0) := hrow.cell 1
  have g2 : Wa.cell? ⟨w.heap.size + 1 + 1, 2, none⟩ = some (.int .i64 0) := hrow.cell 2
  obtain ⟨c0, c1, c2⟩ := set3 hrow (.slice A (i + q) C) (.int .i64 (i : Int)) (.int .i64 32)
  have H0 := Lib.hid c0
  have H1 := Lib.hid c1
  have H2 := Lib.hid c2
  have HB := Lib.hid hbl
  clear c0 c1 c2 hbl hb hrow
  unfold CurV
  go_wp2
  exact bodyPost_ret (v := .tuple #[.agg #[.slice A (i + q) C, .int .i64 (i : Int), .int .i64 32], .int .u64 0, .slice none 0 0]) (by have c0 := H0.out; have c1 := H1.out; have c2 := H2.out; simp [results, Try.results11, go_sem, c0, c1, c2]) rfl ⟨none, 0, retD (by rw [HI.out]) HE.out.symm HV.out.symm (by rw [HL.out]; rfl), below_set3 HB.out (by omega) _ _ _, by rw [HL.out]; exact Sees.nil⟩

set_option maxRecDepth 100000 in
set_option maxHeartbeats 2000000 in
theorem do_4b (B : Nat) (A A' : Option Addr) (r : List Nat) (i q C : Nat) (a b m : Int) (w : World) (hite : (if C = i then A else Option.map (fun x => x.add i) A) = A') (hq : r.length = q) (hs : Sees w B A' (bts r)) (hB : B ≤ w.heap.size) (hby : Byt r) (hqC : i + q ≤ C) (hc : C ≤ maxLen) (hsm : i + q ≤ 1000) (ha : a ≤ 9223372036854775807) (hb64 : b ≤ 9223372036854775807) (hm0 : 0 ≤ m) (h0 : 0 ≤ a) (h1 : b < 0) :
    Calls Try.prog 11 #[CurV A (i + q) C i 0, .agg #[.int .i64 4, .int .i64 a, .int .i64 b, .int .u64 m]] w (DoQ w B A r (i + q) C i 4 a b m) := by
  unfold maxLen at hc
  have hT : opT 4 a b m r = (0, 0, 32) := by show countS a b r = _; exact if_pos (.inr h1)
  have HI := Lib.hid (show stepI i 0 (opT 4 a b m r) = i by rw [hT]; exact errI i _ (by decide))
  have HE := Lib.hid (show opE 4 a (i + q) i 0 (opT 4 a b m r) = ((32 : Nat) : Int) by rw [hT]; exact errE _ _ _ _ _ (by decide) (by decide))
  have HV := Lib.hid (show opV 4 0 (opT 4 a b m r) = 0 by rw [hT]; exact errV _ _)
  have HL := Lib.hid (show opL 4 a 0 r = [] from if_neg (by decide))
  clear hT
  have HQ := Lib.hid hq
  have HY := Lib.hid hby
  have HS := Lib.hid hs
  clear hq hby hs
  unfold CurV
  go_enter Try.func11, Try.ntmps11
  go_wp2_with fail
  refine (step_err _ _ _ _ _ _ _ _ (by decide)).mono ?_
  rintro e Wa ⟨rfl, hb⟩
  obtain ⟨hbl, hrow⟩ := W3_after hb
  have f0 := hrow.frozen 0
  have f1 := hrow.frozen 1
  have f2 := hrow.frozen 2
  have g0 : Wa.cell? ⟨w.heap.size + 1 + 1, 0, none⟩ = some (.slice none 0 0) := hrow.cell 0
  have g1 : Wa.cell? ⟨w.heap.size + 1 + 1, 1, none⟩ = some (.int .i64 0) := hrow.cell 1
  have g2 : Wa.cell? ⟨w.heap.size + 1 + 1, 2, none⟩ = some (.int .i64 0) := hrow.cell 2
  obtain ⟨c0, c1, c2⟩ := set3 hrow (.slice A (i + q) C) (.int .i64 (i : Int)) (.int .i64 32)
  have H0 := Lib.hid c0
  have H1 := Lib.hid c1
  have H2 := Lib.hid c2
  have HB := Lib.hid hbl
  clear c0 c1 c2 hbl hb hrow
  unfold CurV
  go_wp2
  exact bodyPost_ret (v := .tuple #[.agg #[.slice A (i + q) C, .int .i64 (i : Int), .int .i64 32], .int .u64 0, .slice none 0 0]) (by have c0 := H0.out; have c1 := H1.out; have c2 := H2.out; simp [results, Try.results11, go_sem, c0, c1, c2]) rfl ⟨none, 0, retD (by rw [HI.out]) HE.out.symm HV.out.symm (by rw [HL.out]; rfl), below_set3 HB.out (by omega) _ _ _, by rw [HL.out]; exact Sees.nil⟩

set_option maxRecDepth 100000 in
set_option maxHeartbeats 2000000 in
theorem do_2e (B : Nat) (A A' : Option Addr) (r : List Nat) (i q C : Nat) (a b m : Int) (w : World) (hite : (if C = i then A else Option.map (fun x => x.add i) A) = A') (hq : r.length = q) (hs : Sees w B A' (bts r)) (hB : B ≤ w.heap.size) (hby : Byt r) (hqC : i + q ≤ C) (hc : C ≤ maxLen) (hsm : i + q ≤ 1000) (ha : a ≤ 9223372036854775807) (hb64 : b ≤ 9223372036854775807) (hm0 : 0 ≤ m) (e : Nat) (he : e ≠ 0) (hg : getS r = (0, 0, e)) :
    Calls Try.prog 11 #[CurV A (i + q) C i 0, .agg #[.int .i64 2, .int .i64 a, .int .i64 b, .int .u64 m]] w (DoQ w B A r (i + q) C i 2 a b m) := by
  unfold maxLen at hc
  have hT : opT 2 a b m r = (0, 0, e) := by show uintS m r = _; unfold uintS; rw [hg]; exact if_neg fun h => he h.1
  have HI := Lib.hid (show stepI i 0 (opT 2 a b m r) = i by rw [hT]; exact errI i _ he)
  have HE := Lib.hid (show opE 2 a (i + q) i 0 (opT 2 a b m r) = ((e : Nat) : Int) by rw [hT]; exact errE _ _ _ _ _ (by decide) (by decide))
  have HV := Lib.hid (show opV 2 0 (opT 2 a b m r) = 0 by rw [hT]; exact errV _ _)
  have HL := Lib.hid (show opL 2 a 0 r = [] from if_neg (by decide))
  clear hT
  have hget := rget_any B A' r (C - i) (W3 w #[.slice A (i + q) C, .int .i64 i, .int .i64 0] #[.int .i64 2, .int .i64 a, .int .i64 b, .int .u64 m]) (hs.below ((W3_below w _ _).mono hB)) hby (by rw [hq]; unfold maxLen; omega)
  rw [hq, hg] at hget
  have HG := Lib.hid hget
  clear hget hg
  have e0 : ((e : Int) == 0) = false := by rw [beq_eq_false_iff_ne]; omega
  have e1 : ((e : Int) != 0) = true := by rw [bne_iff_ne]; omega
  have e2 : (e : Int) ≠ 0 := by omega
  have HE2 := Lib.hid e2
  clear he e2
  have HQ := Lib.hid hq
  have HY := Lib.hid hby
  have HS := Lib.hid hs
  clear hq hby hs
  unfold CurV
  go_enter Try.func11, Try.ntmps11
  go_wp2_with fail
  refine HG.out.mono ?_
  rintro e W ⟨rfl, rfl⟩
  unfold W3
  go_wp2_with fail
  refine (step_err _ _ _ _ _ _ _ _ HE2.out).mono ?_
  rintro e Wa ⟨rfl, hb⟩
  obtain ⟨hbl, hrow⟩ := W3_after hb
  have f0 := hrow.frozen 0
  have f1 := hrow.frozen 1
  have f2 := hrow.frozen 2
  have g0 : Wa.cell? ⟨w.heap.size + 1 + 1, 0, none⟩ = some (.slice none 0 0) := hrow.cell 0
  have g1 : Wa.cell? ⟨w.heap.size + 1 + 1, 1, none⟩ = some (.int .i64 0) := hrow.cell 1
  have g2 : Wa.cell? ⟨w.heap.size + 1 + 1, 2, none⟩ = some (.int .i64 0) := hrow.cell 2
  obtain ⟨c0, c1, c2⟩ := set3 hrow (.slice A (i + q) C) (.int .i64 (i : Int)) (.int .i64 e)
  have H0 := Lib.hid c0
  have H1 := Lib.hid c1
  have H2 := Lib.hid c2
  have HB := Lib.hid hbl
  clear c0 c1 c2 hbl hb hrow
  unfold CurV
  go_wp2
  exact bodyPost_ret (v := .tuple #[.agg #[.slice A (i + q) C, .int .i64 (i : Int), .int .i64 e], .int .u64 0, .slice none 0 0]) (by have c0 := H0.out; have c1 := H1.out; have c2 := H2.out; simp [results, Try.results11, go_sem, c0, c1, c2]) rfl ⟨none, 0, retD (by rw [HI.out]) HE.out.symm HV.out.symm (by rw [HL.out]; rfl), below_set3 HB.out (by omega) _ _ _, by rw [HL.out]; exact Sees.nil⟩

set_option maxRecDepth 100000 in
set_option maxHeartbeats 2000000 in
theorem do_3e (B : Nat) (A A' : Option Addr) (r : List Nat) (i q C : Nat) (a b m : Int) (w : World) (hite : (if C = i then A else Option.map (fun x => x.add i) A) = A') (hq : r.length = q) (hs : Sees w B A' (bts r)) (hB : B ≤ w.heap.size) (hby : Byt r) (hqC : i + q ≤ C) (hc : C ≤ maxLen) (hsm : i + q ≤ 1000) (ha : a ≤ 9223372036854775807) (hb64 : b ≤ 9223372036854775807) (hm0 : 0 ≤ m) (e : Nat) (he : e ≠ 0) (hg : getS r = (0, 0, e)) :
    Calls Try.prog 11 #[CurV A (i + q) C i 0, .agg #[.int .i64 3, .int .i64 a, .int .i64 b, .int .u64 m]] w (DoQ w B A r (i + q) C i 3 a b m) := by
  unfold maxLen at hc
  have hT : opT 3 a b m r = (0, 0, e) := hg
  have HI := Lib.hid (show stepI i 0 (opT 3 a b m r) = i by rw [hT]; exact errI i _ he)
  have HE := Lib.hid (show opE 3 a (i + q) i 0 (opT 3 a b m r) = ((e : Nat) : Int) by rw [hT]; exact errE _ _ _ _ _ (by decide) (by decide))
  have HV := Lib.hid (show opV 3 0 (opT 3 a b m r) = 0 by rw [hT]; exact errV _ _)
  have HL := Lib.hid (show opL 3 a 0 r = [] from if_neg (by decide))
  clear hT
  have hget := rget_any B A' r (C - i) (W3 w #[.slice A (i + q) C, .int .i64 i, .int .i64 0] #[.int .i64 3, .int .i64 a, .int .i64 b, .int .u64 m]) (hs.below ((W3_below w _ _).mono hB)) hby (by rw [hq]; unfold maxLen; omega)
  rw [hq, hg] at hget
  have HG := Lib.hid hget
  clear hget hg
  have e0 : ((e : Int) == 0) = false := by rw [beq_eq_false_iff_ne]; omega
  have e1 : ((e : Int) != 0) = true := by rw [bne_iff_ne]; omega
  have e2 : (e : Int) ≠ 0 := by omega
  have HE2 := Lib.hid e2
  clear he e2
  have HQ := Lib.hid hq
  have HY := Lib.hid hby
  have HS := Lib.hid hs
  clear hq hby hs
  unfold CurV
  go_enter Try.func11, Try.ntmps11
  go_wp2_with fail
  refine HG.out.mono ?_
  rintro e W ⟨rfl, rfl⟩
  unfold W3
  go_wp2_with fail
  refine (step_err _ _ _ _ _ _ _ _ HE2.out).mono ?_
  rintro e Wa ⟨rfl, hb⟩
  obtain ⟨hbl, hrow⟩ := W3_after hb
  have f0 := hrow.frozen 0
  have f1 := hrow.frozen 1
  have f2 := hrow.frozen 2
  have g0 : Wa.cell? ⟨w.heap.size + 1 + 1, 0, none⟩ = some (.slice none 0 0) := hrow.cell 0
  have g1 : Wa.cell? ⟨w.heap.size + 1 + 1, 1, none⟩ = some (.int .i64 0) := hrow.cell 1
  have g2 : Wa.cell? ⟨w.heap.size + 1 + 1, 2, none⟩ = some (.int .i64 0) := hrow.cell 2
  obtain ⟨c0, c1, c2⟩ := set3 hrow (.slice A (i + q) C) (.int .i64 (i : Int)) (.int .i64 e)
  have H0 := Lib.hid c0
  have H1 := Lib.hid c1
  have H2 := Lib.hid c2
  have HB := Lib.hid hbl
  clear c0 c1 c2 hbl hb hrow
  unfold CurV
  go_wp2
  exact bodyPost_ret (v := .tuple #[.agg #[.slice A (i + q) C, .int .i64 (i : Int), .int .i64 e], .int .u64 0, .slice none 0 0]) (by have c0 := H0.out; have c1 := H1.out; have c2 := H2.out; simp [results, Try.results11, go_sem, c0, c1, c2]) rfl ⟨none, 0, retD (by rw [HI.out]) HE.out.symm HV.out.symm (by rw [HL.out]; rfl), below_set3 HB.out (by omega) _ _ _, by rw [HL.out]; exact Sees.nil⟩

set_option maxRecDepth 100000 in
set_option maxHeartbeats 2000000 in
theorem do_4e (B : Nat) (A A' : Option Addr) (r : List Nat) (i q C : Nat) (a b m : Int) (w : World) (hite : (if C = i then A else Option.map (fun x => x.add i) A) = A') (hq : r.length = q) (hs : Sees w B A' (bts r)) (hB : B ≤ w.heap.size) (hby : Byt r) (hqC : i + q ≤ C) (hc : C ≤ maxLen) (hsm : i + q ≤ 1000) (ha : a ≤ 9223372036854775807) (hb64 : b ≤ 9223372036854775807) (hm0 : 0 ≤ m) (h0 : 0 ≤ a) (h1 : 0 ≤ b) (e : Nat) (he : e ≠ 0) (hg : getS r = (0, 0, e)) :
    Calls Try.prog 11 #[CurV A (i + q) C i 0, .agg #[.int .i64 4, .int .i64 a, .int .i64 b, .int .u64 m]] w (DoQ w B A r (i + q) C i 4 a b m) := by
  unfold maxLen at hc
  have hT : opT 4 a b m r = (0, 0, e) := by show countS a b r = _; have hu : uintS a r = (0, 0, e) := (by unfold uintS; rw [hg]; exact if_neg fun h => he h.1); unfold countS; rw [if_neg (by omega), hu]; exact if_neg fun h => he h.1
  have HI := Lib.hid (show stepI i 0 (opT 4 a b m r) = i by rw [hT]; exact errI i _ he)
  have HE := Lib.hid (show opE 4 a (i + q) i 0 (opT 4 a b m r) = ((e : Nat) : Int) by rw [hT]; exact errE _ _ _ _ _ (by decide) (by decide))
  have HV := Lib.hid (show opV 4 0 (opT 4 a b m r) = 0 by rw [hT]; exact errV _ _)
  have HL := Lib.hid (show opL 4 a 0 r = [] from if_neg (by decide))
  clear hT
  have hget := rget_any B A' r (C - i) (W3 w #[.slice A (i + q) C, .int .i64 i, .int .i64 0] #[.int .i64 4, .int .i64 a, .int .i64 b, .int .u64 m]) (hs.below ((W3_below w _ _).mono hB)) hby (by rw [hq]; unfold maxLen; omega)
  rw [hq, hg] at hget
  have HG := Lib.hid hget
  clear hget hg
  have e0 : ((e : Int) == 0) = false := by rw [beq_eq_false_iff_ne]; omega
  have e1 : ((e : Int) != 0) = true := by rw [bne_iff_ne]; omega
  have e2 : (e : Int) ≠ 0 := by omega
  have HE2 := Lib.hid e2
  clear he e2
  have HQ := Lib.hid hq
  have HY := Lib.hid hby
  have HS := Lib.hid hs
  clear hq hby hs
  unfold CurV
  go_enter Try.func11, Try.ntmps11
  go_wp2_with fail
  refine HG.out.mono ?_
  rintro e W ⟨rfl, rfl⟩
  unfold W3
  go_wp2_with fail
  refine (step_err _ _ _ _ _ _ _ _ HE2.out).mono ?_
  rintro e Wa ⟨rfl, hb⟩
  obtain ⟨hbl, hrow⟩ := W3_after hb
  have f0 := hrow.frozen 0
  have f1 := hrow.frozen 1
  have f2 := hrow.frozen 2
  have g0 : Wa.cell? ⟨w.heap.size + 1 + 1, 0, none⟩ = some (.slice none 0 0) := hrow.cell 0
  have g1 : Wa.cell? ⟨w.heap.size + 1 + 1, 1, none⟩ = some (.int .i64 0) := hrow.cell 1
  have g2 : Wa.cell? ⟨w.heap.size + 1 + 1, 2, none⟩ = some (.int .i64 0) := hrow.cell 2
  obtain ⟨c0, c1, c2⟩ := set3 hrow (.slice A (i + q) C) (.int .i64 (i : Int)) (.int .i64 e)
  have H0 := Lib.hid c0
  have H1 := Lib.hid c1
  have H2 := Lib.hid c2
  have HB := Lib.hid hbl
  clear c0 c1 c2 hbl hb hrow
  unfold CurV
  go_wp2
  exact bodyPost_ret (v := .tuple #[.agg #[.slice A (i + q) C, .int .i64 (i : Int), .int .i64 e], .int .u64 0, .slice none 0 0]) (by have c0 := H0.out; have c1 := H1.out; have c2 := H2.out; simp [results, Try.results11, go_sem, c0, c1, c2]) rfl ⟨none, 0, retD (by rw [HI.out]) HE.out.symm HV.out.symm (by rw [HL.out]; rfl), below_set3 HB.out (by omega) _ _ _, by rw [HL.out]; exact Sees.nil⟩

set_option maxRecDepth 100000 in
set_option maxHeartbeats 2000000 in
theorem do_2f (B : Nat) (A A' : Option Addr) (r : List Nat) (i q C : Nat) (a b m : Int) (w : World) (hite : (if C = i then A else Option.map (fun x => x.add i) A) = A') (hq : r.length = q) (hs : Sees w B A' (bts r)) (hB : B ≤ w.heap.size) (hby : Byt r) (hqC : i + q ≤ C) (hc : C ≤ maxLen) (hsm : i + q ≤ 1000) (ha : a ≤ 9223372036854775807) (hb64 : b ≤ 9223372036854775807) (hm0 : 0 ≤ m) (x n : Nat) (hx : m < (x : Int)) (hg : getS r = (x, n, 0)) :
    Calls Try.prog 11 #[CurV A (i + q) C i 0, .agg #[.int .i64 2, .int .i64 a, .int .i64 b, .int .u64 m]] w (DoQ w B A r (i + q) C i 2 a b m) := by
  unfold maxLen at hc
  have hT : opT 2 a b m r = (0, 0, 6) := by show uintS m r = _; unfold uintS; rw [hg]; exact if_pos ⟨rfl, hx⟩
  have HI := Lib.hid (show stepI i 0 (opT 2 a b m r) = i by rw [hT]; exact errI i _ (by decide))
  have HE := Lib.hid (show opE 2 a (i + q) i 0 (opT 2 a b m r) = ((6 : Nat) : Int) by rw [hT]; exact errE _ _ _ _ _ (by decide) (by decide))
  have HV := Lib.hid (show opV 2 0 (opT 2 a b m r) = 0 by rw [hT]; exact errV _ _)
  have HL := Lib.hid (show opL 2 a 0 r = [] from if_neg (by decide))
  clear hT
  have hget := rget_any B A' r (C - i) (W3 w #[.slice A (i + q) C, .int .i64 i, .int .i64 0] #[.int .i64 2, .int .i64 a, .int .i64 b, .int .u64 m]) (hs.below ((W3_below w _ _).mono hB)) hby (by rw [hq]; unfold maxLen; omega)
  rw [hq, hg] at hget
  have HG := Lib.hid hget
  clear hget hg
  have HQ := Lib.hid hq
  have HY := Lib.hid hby
  have HS := Lib.hid hs
  clear hq hby hs
  unfold CurV
  go_enter Try.func11, Try.ntmps11
  go_wp2_with fail
  refine HG.out.mono ?_
  rintro e W ⟨rfl, rfl⟩
  unfold W3
  go_wp2_with fail
  refine (step_err _ _ _ _ _ _ _ _ (by decide)).mono ?_
  rintro e Wa ⟨rfl, hb⟩
  obtain ⟨hbl, hrow⟩ := W3_after hb
  have f0 := hrow.frozen 0
  have f1 := hrow.frozen 1
  have f2 := hrow.frozen 2
  have g0 : Wa.cell? ⟨w.heap.size + 1 + 1, 0, none⟩ = some (.slice none 0 0) := hrow.cell 0
  have g1 : Wa.cell? ⟨w.heap.size + 1 + 1, 1, none⟩ = some (.int .i64 0) := hrow.cell 1
  have g2 : Wa.cell? ⟨w.heap.size + 1 + 1, 2, none⟩ = some (.int .i64 0) := hrow.cell 2
  obtain ⟨c0, c1, c2⟩ := set3 hrow (.slice A (i + q) C) (.int .i64 (i : Int)) (.int .i64 6)
  have H0 := Lib.hid c0
  have H1 := Lib.hid c1
  have H2 := Lib.hid c2
  have HB := Lib.hid hbl
  clear c0 c1 c2 hbl hb hrow
  unfold CurV
  go_wp2
  exact bodyPost_ret (v := .tuple #[.agg #[.slice A (i + q) C, .int .i64 (i : Int), .int .i64 6], .int .u64 0, .slice none 0 0]) (by have c0 := H0.out; have c1 := H1.out; have c2 := H2.out; simp [results, Try.results11, go_sem, c0, c1, c2]) rfl ⟨none, 0, retD (by rw [HI.out]) HE.out.symm HV.out.symm (by rw [HL.out]; rfl), below_set3 HB.out (by omega) _ _ _, by rw [HL.out]; exact Sees.nil⟩

set_option maxRecDepth 100000 in
set_option maxHeartbeats 2000000 in
theorem do_4f (B : Nat) (A A' : Option Addr) (r : List Nat) (i q C : Nat) (a b m : Int) (w : World) (hite : (if C = i then A else Option.map (fun x => x.add i) A) = A') (hq : r.length = q) (hs : Sees w B A' (bts r)) (hB : B ≤ w.heap.size) (hby : Byt r) (hqC : i + q ≤ C) (hc : C ≤ maxLen) (hsm : i + q ≤ 1000) (ha : a ≤ 9223372036854775807) (hb64 : b ≤ 9223372036854775807) (hm0 : 0 ≤ m) (h0 : 0 ≤ a) (h1 : 0 ≤ b) (x n : Nat) (hx : a < (x : Int)) (hg : getS r = (x, n, 0)) :
    Calls Try.prog 11 #[CurV A (i + q) C i 0, .agg #[.int .i64 4, .int .i64 a, .int .i64 b, .int .u64 m]] w (DoQ w B A r (i + q) C i 4 a b m) := by
  unfold maxLen at hc
  have hT : opT 4 a b m r = (0, 0, 6) := by show countS a b r = _; have hu : uintS a r = (0, 0, 6) := (by unfold uintS; rw [hg]; exact if_pos ⟨rfl, hx⟩); unfold countS; rw [if_neg (by omega), hu]; exact if_neg fun h => by cases h.1
  have HI := Lib.hid (show stepI i 0 (opT 4 a b m r) = i by rw [hT]; exact errI i _ (by decide))
  have HE := Lib.hid (show opE 4 a (i + q) i 0 (opT 4 a b m r) = ((6 : Nat) : Int) by rw [hT]; exact errE _ _ _ _ _ (by decide) (by decide))
  have HV := Lib.hid (show opV 4 0 (opT 4 a b m r) = 0 by rw [hT]; exact errV _ _)
  have HL := Lib.hid (show opL 4 a 0 r = [] from if_neg (by decide))
  clear hT
  have hget := rget_any B A' r (C - i) (W3 w #[.slice A (i + q) C, .int .i64 i, .int .i64 0] #[.int .i64 4, .int .i64 a, .int .i64 b, .int .u64 m]) (hs.below ((W3_below w _ _).mono hB)) hby (by rw [hq]; unfold maxLen; omega)
  rw [hq, hg] at hget
  have HG := Lib.hid hget
  clear hget hg
  have HQ := Lib.hid hq
  have HY := Lib.hid hby
  have HS := Lib.hid hs
  clear hq hby hs
  unfold CurV
  go_enter Try.func11, Try.ntmps11
  go_wp2_with fail
  refine HG.out.mono ?_
  rintro e W ⟨rfl, rfl⟩
  unfold W3
  go_wp2_with fail
  refine (step_err _ _ _ _ _ _ _ _ (by decide)).mono ?_
  rintro e Wa ⟨rfl, hb⟩
  obtain ⟨hbl, hrow⟩ := W3_after hb
  have f0 := hrow.frozen 0
  have f1 := hrow.frozen 1
  have f2 := hrow.frozen 2
  have g0 : Wa.cell? ⟨w.heap.size + 1 + 1, 0, none⟩ = some (.slice none 0 0) := hrow.cell 0
  have g1 : Wa.cell? ⟨w.heap.size + 1 + 1, 1, none⟩ = some (.int .i64 0) := hrow.cell 1
  have g2 : Wa.cell? ⟨w.heap.size + 1 + 1, 2, none⟩ = some (.int .i64 0) := hrow.cell 2
  obtain ⟨c0, c1, c2⟩ := set3 hrow (.slice A (i + q) C) (.int .i64 (i : Int)) (.int .i64 6)
  have H0 := Lib.hid c0
  have H1 := Lib.hid c1
  have H2 := Lib.hid c2
  have HB := Lib.hid hbl
  clear c0 c1 c2 hbl hb hrow
  unfold CurV
  go_wp2
  exact bodyPost_ret (v := .tuple #[.agg #[.slice A (i + q) C, .int .i64 (i : Int), .int .i64 6], .int .u64 0, .slice none 0 0]) (by have c0 := H0.out; have c1 := H1.out; have c2 := H2.out; simp [results, Try.results11, go_sem, c0, c1, c2]) rfl ⟨none, 0, retD (by rw [HI.out]) HE.out.symm HV.out.symm (by rw [HL.out]; rfl), below_set3 HB.out (by omega) _ _ _, by rw [HL.out]; exact Sees.nil⟩


end Go.Proofs.Ytjgigdmjciedpaa
