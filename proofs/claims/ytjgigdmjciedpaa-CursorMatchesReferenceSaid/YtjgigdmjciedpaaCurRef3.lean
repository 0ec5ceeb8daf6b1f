/-
  The reference's Do, continued: the two reads whose statement draws the order of its operations.
-/
import Derived.Test.YtjgigdmjciedpaaCurRef2
namespace Go.Proofs.Ytjgigdmjciedpaa
open Go.RowKit
set_option linter.unusedVariables false

theorem far_set3 {W : World} {p q : Nat} (hp : p ≠ q) (o : Nat) (X Y Z : Value) : (((W.setCell ⟨q, 0, none⟩ X).setCell ⟨q, 1, none⟩ Y).setCell ⟨q, 2, none⟩ Z).cell? ⟨p, o, none⟩ = W.cell? ⟨p, o, none⟩ := by
  have h : ∀ k : Nat, (⟨q, k, none⟩ : Addr) ≠ ⟨p, o, none⟩ := fun k e => hp (by injection e with e1; exact e1.symm)
  rw [World.cell?_setCell_other _ _ _ _ (h 2), World.cell?_setCell_other _ _ _ _ (h 1), World.cell?_setCell_other _ _ _ _ (h 0)]
theorem W3_cur (w : World) (V R : Array Value) : Row (W3 w V R) w.heap.size 28 V := ((Row.new w 28 V).alloc _).alloc _
/-- Four cells together. -/
theorem four {P0 P1 P2 P3 : Prop} (h0 : P0) (h1 : P1) (h2 : P2) (h3 : P3) : P0 ∧ P1 ∧ P2 ∧ P3 := ⟨h0, h1, h2, h3⟩

set_option maxRecDepth 100000 in
set_option maxHeartbeats 2000000 in
theorem do_0 (B : Nat) (A A' : Option Addr) (r : List Nat) (i q C : Nat) (a b m : Int) (w : World) (hite : (if C = i then A else Option.map (fun x => x.add i) A) = A') (hq : r.length = q) (hs : Sees w B A' (bts r)) (hB : B ≤ w.heap.size) (hby : Byt r) (hqC : i + q ≤ C) (hc : C ≤ maxLen) (hsm : i + q ≤ 1000) (ha : a ≤ 9223372036854775807) (hb64 : b ≤ 9223372036854775807) (hm0 : 0 ≤ m) (h0 : 0 < q) :
    Calls Try.prog 11 #[CurV A (i + q) C i 0, .agg #[.int .i64 0, .int .i64 a, .int .i64 b, .int .u64 m]] w (DoQ w B A r (i + q) C i 0 a b m) := by
  unfold maxLen at hc
  rcases r with _ | ⟨x, r⟩
  · simp at hq; omega
  obtain ⟨bb, oo, rfl, hbb, hcell⟩ := hs (by simp [bts])
  have hx0 : w.cell? ⟨bb, oo, none⟩ = some (.int .u8 (x : Int)) := hcell 0 _ rfl
  have hx3 : (W3 w #[.slice A (i + q) C, .int .i64 i, .int .i64 0] #[.int .i64 0, .int .i64 a, .int .i64 b, .int .u64 m]).cell? ⟨bb, oo, none⟩ = some (.int .u8 (x : Int)) := ((W3_below w _ _).cell (p := ⟨bb, oo, none⟩) (Nat.lt_of_lt_of_le hbb hB)).trans hx0
  have hx256 : x < 256 := hby x (by simp)
  have hq0 : ((q : Int) == 0) = false := by rw [beq_eq_false_iff_ne]; omega
  have HI := Lib.hid (show ((stepI i 0 (opT 0 a b m (x :: r)) : Nat) : Int) = (i : Int) + 1 by show ((stepI i 0 (x, 1, 0) : Nat) : Int) = _; rw [okI]; rfl)
  have HQ := Lib.hid hq
  have hbw : bb < w.heap.size := Nat.lt_of_lt_of_le hbb hB
  clear hcell hx0 hby hs hq
  have hcur := W3_cur w #[.slice A (i + q) C, .int .i64 i, .int .i64 0] #[.int .i64 0, .int .i64 a, .int .i64 b, .int .u64 m]
  have hx4 := four hx3 (hcur.cell 0) (hcur.cell 1) (hcur.cell 2)
  have HX4 := Lib.hid hx4
  clear hx3 hcur hx4
  unfold CurV
  go_enter Try.func11, Try.ntmps11
  go_wp2_with fail
  go_region_held3 (fun w' => w'.cell? ⟨bb, oo, none⟩ = some (.int .u8 (x : Int)) ∧ w'.cell? ⟨w.heap.size, 0, none⟩ = some (.slice A (i + q) C) ∧ w'.cell? ⟨w.heap.size, 1, none⟩ = some (.int .i64 i) ∧ w'.cell? ⟨w.heap.size, 2, none⟩ = some (.int .i64 0)) (first | exact HX4.out | exact hXa | exact hXs) (first
    | (go_at_call 29; go_must ((refine (step_ok A (i + q) C i 0 1 _ (by omega) (by omega) (by omega)).mono ?_; rintro e Wa ⟨rfl, hb0⟩; have hb : Below (W3 w #[.slice A (i + q) C, .int .i64 i, .int .i64 0] #[.int .i64 0, .int .i64 a, .int .i64 b, .int .u64 m]).heap.size (W3 w #[.slice A (i + q) C, .int .i64 i, .int .i64 0] #[.int .i64 0, .int .i64 a, .int .i64 b, .int .u64 m]) Wa := (by first | exact hb0 | exact below_un hb0 (Nat.le_refl _) | exact below_unN hb0 (Nat.le_refl _)); obtain ⟨hbl, hrow⟩ := W3_after hb; have f0 := hrow.frozen 0; have f1 := hrow.frozen 1; have f2 := hrow.frozen 2; have g0 : Wa.cell? ⟨w.heap.size + 1 + 1, 0, none⟩ = some (.slice none 0 0) := hrow.cell 0; have g1 : Wa.cell? ⟨w.heap.size + 1 + 1, 1, none⟩ = some (.int .i64 0) := hrow.cell 1; have g2 : Wa.cell? ⟨w.heap.size + 1 + 1, 2, none⟩ = some (.int .i64 0) := hrow.cell 2; have hk : ∀ p o, p < w.heap.size + 3 → Wa.cell? ⟨p, o, none⟩ = (W3 w #[.slice A (i + q) C, .int .i64 i, .int .i64 0] #[.int .i64 0, .int .i64 a, .int .i64 b, .int .u64 m]).cell? ⟨p, o, none⟩ := (fun p o hp => hb.cell (p := ⟨p, o, none⟩) (by rw [W3_size]; exact hp)); have hXa : Wa.cell? ⟨bb, oo, none⟩ = some (.int .u8 (x : Int)) ∧ Wa.cell? ⟨w.heap.size, 0, none⟩ = some (.slice A (i + q) C) ∧ Wa.cell? ⟨w.heap.size, 1, none⟩ = some (.int .i64 i) ∧ Wa.cell? ⟨w.heap.size, 2, none⟩ = some (.int .i64 0) := four ((hk bb oo (by omega)).trans HX4.out.1) ((hk w.heap.size 0 (by omega)).trans HX4.out.2.1) ((hk w.heap.size 1 (by omega)).trans HX4.out.2.2.1) ((hk w.heap.size 2 (by omega)).trans HX4.out.2.2.2); have hXs : (((Wa.setCell ⟨w.heap.size + 1 + 1, 0, none⟩ (.slice A (i + q) C)).setCell ⟨w.heap.size + 1 + 1, 1, none⟩ (.int .i64 ((i : Int) + 1))).setCell ⟨w.heap.size + 1 + 1, 2, none⟩ (.int .i64 0)).cell? ⟨bb, oo, none⟩ = some (.int .u8 (x : Int)) ∧ (((Wa.setCell ⟨w.heap.size + 1 + 1, 0, none⟩ (.slice A (i + q) C)).setCell ⟨w.heap.size + 1 + 1, 1, none⟩ (.int .i64 ((i : Int) + 1))).setCell ⟨w.heap.size + 1 + 1, 2, none⟩ (.int .i64 0)).cell? ⟨w.heap.size, 0, none⟩ = some (.slice A (i + q) C) ∧ (((Wa.setCell ⟨w.heap.size + 1 + 1, 0, none⟩ (.slice A (i + q) C)).setCell ⟨w.heap.size + 1 + 1, 1, none⟩ (.int .i64 ((i : Int) + 1))).setCell ⟨w.heap.size + 1 + 1, 2, none⟩ (.int .i64 0)).cell? ⟨w.heap.size, 1, none⟩ = some (.int .i64 i) ∧ (((Wa.setCell ⟨w.heap.size + 1 + 1, 0, none⟩ (.slice A (i + q) C)).setCell ⟨w.heap.size + 1 + 1, 1, none⟩ (.int .i64 ((i : Int) + 1))).setCell ⟨w.heap.size + 1 + 1, 2, none⟩ (.int .i64 0)).cell? ⟨w.heap.size, 2, none⟩ = some (.int .i64 0) := four ((far_set3 (by omega) _ _ _ _).trans hXa.1) ((far_set3 (by omega) _ _ _ _).trans hXa.2.1) ((far_set3 (by omega) _ _ _ _).trans hXa.2.2.1) ((far_set3 (by omega) _ _ _ _).trans hXa.2.2.2); have HB := Lib.hid hbl; have HR := Lib.hid hrow; clear hbl hb hb0 hrow hk; unfold CurV)))
    )
  obtain ⟨c0, c1, c2⟩ := set3 HR.out (.slice A (i + q) C) (.int .i64 ((i : Int) + 1)) (.int .i64 0)
  have H0 := Lib.hid c0
  have H1 := Lib.hid c1
  have H2 := Lib.hid c2
  clear c0 c1 c2 hXa hXs
  go_wp2
  exact bodyPost_ret (v := .tuple #[.agg #[.slice A (i + q) C, .int .i64 ((i : Int) + 1), .int .i64 0], .int .u64 (IntKind.u64.wrap (x : Int)), .slice none 0 0]) (by have c0 := H0.out; have c1 := H1.out; have c2 := H2.out; simp [results, Try.results11, go_sem, c0, c1, c2]) rfl ⟨none, 0, retD HI.out.symm rfl (by rw [IntKind.wrap_u64]; show _ = ((x : Nat) : Int); omega) rfl, below_set3 HB.out (by omega) _ _ _, Sees.nil⟩

theorem W3_read (w : World) (V R : Array Value) : Row (W3 w V R) (w.heap.size + 1) 31 R := by
  have := (Row.new (w.alloc (.cells V 28)) 31 R).alloc (.cells #[.slice none 0 0, .int .i64 0, .int .i64 0] 28)
  simpa [W3] using this

set_option maxRecDepth 100000 in
set_option maxHeartbeats 2000000 in
theorem do_1 (B : Nat) (A A' : Option Addr) (r : List Nat) (i q C : Nat) (a b m : Int) (w : World) (hite : (if C = i then A else Option.map (fun x => x.add i) A) = A') (hq : r.length = q) (hs : Sees w B A' (bts r)) (hB : B ≤ w.heap.size) (hby : Byt r) (hqC : i + q ≤ C) (hc : C ≤ maxLen) (hsm : i + q ≤ 1000) (ha : a ≤ 9223372036854775807) (hb64 : b ≤ 9223372036854775807) (hm0 : 0 ≤ m) (h0 : 0 ≤ a) (h1 : a ≤ (q : Int)) :
    Calls Try.prog 11 #[CurV A (i + q) C i 0, .agg #[.int .i64 1, .int .i64 a, .int .i64 b, .int .u64 m]] w (DoQ w B A r (i + q) C i 1 a b m) := by
  unfold maxLen at hc
  obtain ⟨k, rfl⟩ := Int.eq_ofNat_of_zero_le h0
  have hT : opT 1 (k : Int) b m r = (0, k, 0) := by
    show bytesS (k : Int) r = _
    unfold bytesS
    rw [if_neg (by omega), if_neg (by omega), Int.toNat_natCast]
  have hL : opL 1 (k : Int) 0 r = r.take k := by
    show bytesL 0 (k : Int) r = _
    rw [bytesL_ok (by omega) (by omega), Int.toNat_natCast]
  have HI := Lib.hid (show ((stepI i 0 (opT 1 (k : Int) b m r) : Nat) : Int) = (i : Int) + (k : Int) by rw [hT]; exact okI _ _ _)
  have HE := Lib.hid (show opE 1 (k : Int) (i + q) i 0 (opT 1 (k : Int) b m r) = 0 by rw [hT]; exact okE _ _ _ _ _ _ (by decide) (by decide))
  have HV := Lib.hid (show opV 1 0 (opT 1 (k : Int) b m r) = 0 by rw [hT]; exact okV _ _ _ (by decide))
  have HL := Lib.hid hL
  have HLl := Lib.hid (show k = (r.take k).length by rw [List.length_take]; omega)
  have hst : Sees w B A' (bts (r.take k)) := by have := hs.take (k := k); unfold bts at *; rwa [List.map_take]
  have HST := Lib.hid hst
  have hkC : k ≤ C - i := by omega
  have hkC2 : (k : Int) ≤ ((C - i : Nat) : Int) := by omega
  have hcur := W3_cur w #[.slice A (i + q) C, .int .i64 i, .int .i64 0] #[.int .i64 1, .int .i64 (k : Int), .int .i64 b, .int .u64 m]
  have hrd := W3_read w #[.slice A (i + q) C, .int .i64 i, .int .i64 0] #[.int .i64 1, .int .i64 (k : Int), .int .i64 b, .int .u64 m]
  have hx4 := four (hrd.cell 1) (hcur.cell 0) (hcur.cell 1) (hcur.cell 2)
  have HX4 := Lib.hid hx4
  clear hcur hrd hx4 hT hL hst hs hby hq
  unfold CurV
  go_enter Try.func11, Try.ntmps11
  go_wp2_with fail
  go_region_held3 (fun w' => w'.cell? ⟨w.heap.size + 1, 1, none⟩ = some (.int .i64 (k : Int)) ∧ w'.cell? ⟨w.heap.size, 0, none⟩ = some (.slice A (i + q) C) ∧ w'.cell? ⟨w.heap.size, 1, none⟩ = some (.int .i64 i) ∧ w'.cell? ⟨w.heap.size, 2, none⟩ = some (.int .i64 0)) (first | exact HX4.out | exact hXa | exact hXs) (first
    | (go_at_call 29; go_must ((refine (step_ok A (i + q) C i 0 (k : Int) _ (by omega) (by omega) (by omega)).mono ?_; rintro e Wa ⟨rfl, hb0⟩; have hb : Below (W3 w #[.slice A (i + q) C, .int .i64 i, .int .i64 0] #[.int .i64 1, .int .i64 (k : Int), .int .i64 b, .int .u64 m]).heap.size (W3 w #[.slice A (i + q) C, .int .i64 i, .int .i64 0] #[.int .i64 1, .int .i64 (k : Int), .int .i64 b, .int .u64 m]) Wa := (by first | exact hb0 | exact below_un hb0 (Nat.le_refl _) | exact below_unN hb0 (Nat.le_refl _)); obtain ⟨hbl, hrow⟩ := W3_after hb; have f0 := hrow.frozen 0; have f1 := hrow.frozen 1; have f2 := hrow.frozen 2; have g0 : Wa.cell? ⟨w.heap.size + 1 + 1, 0, none⟩ = some (.slice none 0 0) := hrow.cell 0; have g1 : Wa.cell? ⟨w.heap.size + 1 + 1, 1, none⟩ = some (.int .i64 0) := hrow.cell 1; have g2 : Wa.cell? ⟨w.heap.size + 1 + 1, 2, none⟩ = some (.int .i64 0) := hrow.cell 2; have hk : ∀ p o, p < w.heap.size + 3 → Wa.cell? ⟨p, o, none⟩ = (W3 w #[.slice A (i + q) C, .int .i64 i, .int .i64 0] #[.int .i64 1, .int .i64 (k : Int), .int .i64 b, .int .u64 m]).cell? ⟨p, o, none⟩ := (fun p o hp => hb.cell (p := ⟨p, o, none⟩) (by rw [W3_size]; exact hp)); have hXa : Wa.cell? ⟨w.heap.size + 1, 1, none⟩ = some (.int .i64 (k : Int)) ∧ Wa.cell? ⟨w.heap.size, 0, none⟩ = some (.slice A (i + q) C) ∧ Wa.cell? ⟨w.heap.size, 1, none⟩ = some (.int .i64 i) ∧ Wa.cell? ⟨w.heap.size, 2, none⟩ = some (.int .i64 0) := four ((hk (w.heap.size + 1) 1 (by omega)).trans HX4.out.1) ((hk w.heap.size 0 (by omega)).trans HX4.out.2.1) ((hk w.heap.size 1 (by omega)).trans HX4.out.2.2.1) ((hk w.heap.size 2 (by omega)).trans HX4.out.2.2.2); have hXs : (((Wa.setCell ⟨w.heap.size + 1 + 1, 0, none⟩ (.slice A (i + q) C)).setCell ⟨w.heap.size + 1 + 1, 1, none⟩ (.int .i64 ((i : Int) + (k : Int)))).setCell ⟨w.heap.size + 1 + 1, 2, none⟩ (.int .i64 0)).cell? ⟨w.heap.size + 1, 1, none⟩ = some (.int .i64 (k : Int)) ∧ (((Wa.setCell ⟨w.heap.size + 1 + 1, 0, none⟩ (.slice A (i + q) C)).setCell ⟨w.heap.size + 1 + 1, 1, none⟩ (.int .i64 ((i : Int) + (k : Int)))).setCell ⟨w.heap.size + 1 + 1, 2, none⟩ (.int .i64 0)).cell? ⟨w.heap.size, 0, none⟩ = some (.slice A (i + q) C) ∧ (((Wa.setCell ⟨w.heap.size + 1 + 1, 0, none⟩ (.slice A (i + q) C)).setCell ⟨w.heap.size + 1 + 1, 1, none⟩ (.int .i64 ((i : Int) + (k : Int)))).setCell ⟨w.heap.size + 1 + 1, 2, none⟩ (.int .i64 0)).cell? ⟨w.heap.size, 1, none⟩ = some (.int .i64 i) ∧ (((Wa.setCell ⟨w.heap.size + 1 + 1, 0, none⟩ (.slice A (i + q) C)).setCell ⟨w.heap.size + 1 + 1, 1, none⟩ (.int .i64 ((i : Int) + (k : Int)))).setCell ⟨w.heap.size + 1 + 1, 2, none⟩ (.int .i64 0)).cell? ⟨w.heap.size, 2, none⟩ = some (.int .i64 0) := four ((far_set3 (by omega) _ _ _ _).trans hXa.1) ((far_set3 (by omega) _ _ _ _).trans hXa.2.1) ((far_set3 (by omega) _ _ _ _).trans hXa.2.2.1) ((far_set3 (by omega) _ _ _ _).trans hXa.2.2.2); have HB := Lib.hid hbl; have HR := Lib.hid hrow; clear hbl hb hb0 hrow hk; unfold CurV)))
    )
  obtain ⟨c0, c1, c2⟩ := set3 HR.out (.slice A (i + q) C) (.int .i64 ((i : Int) + (k : Int))) (.int .i64 0)
  have H0 := Lib.hid c0
  have H1 := Lib.hid c1
  have H2 := Lib.hid c2
  clear c0 c1 c2 hXa hXs
  go_wp2
  exact bodyPost_ret (v := .tuple #[.agg #[.slice A (i + q) C, .int .i64 ((i : Int) + (k : Int)), .int .i64 0], .int .u64 0, .slice A' k (C - i)]) (by have c0 := H0.out; have c1 := H1.out; have c2 := H2.out; simp [results, Try.results11, go_sem, c0, c1, c2]) rfl ⟨A', C - i, retD HI.out.symm HE.out.symm HV.out.symm (by rw [HL.out]; exact HLl.out), below_set3 HB.out (by omega) _ _ _, by rw [HL.out]; exact sees_set3 (HST.out.below (HB.out.mono hB)) (by omega) _ _ _⟩

/-- Do, whatever the read. -/
theorem do_any (B : Nat) (A : Option Addr) (l : List Nat) (c i : Nat) (er k a b m : Int) (w : World) (hs : Sees w B A (bts l)) (hB : B ≤ w.heap.size) (hby : Byt l) (hi : i ≤ l.length) (hlc : l.length ≤ c) (hc : c ≤ maxLen) (hsm : l.length ≤ 1000)
    (hk0 : 0 ≤ k) (hk6 : k ≤ 6) (ha : a ≤ 9223372036854775807) (hb64 : b ≤ 9223372036854775807) (hm0 : 0 ≤ m) :
    Calls Try.prog 11 #[CurV A l.length c i er, .agg #[.int .i64 k, .int .i64 a, .int .i64 b, .int .u64 m]] w (DoP w B A l c i er k a b m) := by
  by_cases he : er = 0
  case neg => exact do_bad B A l c i er k a b m w he
  subst he
  have hsd := hs.drop (k := i) (cap := c) (by rw [bts_length]; exact hlc)
  rw [show (bts l).drop i = bts (l.drop i) from by simp [bts]] at hsd
  have hbd : Byt (l.drop i) := fun x hx => hby x (List.mem_of_mem_drop hx)
  obtain ⟨q, hq⟩ : ∃ q, l.length = i + q := ⟨l.length - i, by omega⟩
  have hdl : (l.drop i).length = q := by rw [List.length_drop]; omega
  unfold DoP
  rw [hq]
  rw [hq] at hlc hsm
  show Calls _ _ _ _ (DoQ w B A (l.drop i) (i + q) c i k a b m)
  generalize l.drop i = r at hsd hbd hdl
  obtain rfl | rfl | rfl | rfl | rfl | rfl | rfl : k = 0 ∨ k = 1 ∨ k = 2 ∨ k = 3 ∨ k = 4 ∨ k = 5 ∨ k = 6 := by omega
  · by_cases h0 : q = 0
    · exact do_0e B A _ r i q c a b m w rfl hdl hsd hB hbd hlc hc hsm ha hb64 hm0 h0
    · exact do_0 B A _ r i q c a b m w rfl hdl hsd hB hbd hlc hc hsm ha hb64 hm0 (by omega)
  · by_cases h0 : a < 0
    · exact do_1n B A _ r i q c a b m w rfl hdl hsd hB hbd hlc hc hsm ha hb64 hm0 h0
    · by_cases h1 : (q : Int) < a
      · exact do_1f B A _ r i q c a b m w rfl hdl hsd hB hbd hlc hc hsm ha hb64 hm0 (by omega) h1
      · exact do_1 B A _ r i q c a b m w rfl hdl hsd hB hbd hlc hc hsm ha hb64 hm0 (by omega) (by omega)
  · rcases getS_kinds r with ⟨x, n, hg⟩ | hg | hg
    · by_cases hx : m < (x : Int)
      · exact do_2f B A _ r i q c a b m w rfl hdl hsd hB hbd hlc hc hsm ha hb64 hm0 x n hx hg
      · exact do_2 B A _ r i q c a b m w rfl hdl hsd hB hbd hlc hc hsm ha hb64 hm0 x n (by omega) hg
    · exact do_2e B A _ r i q c a b m w rfl hdl hsd hB hbd hlc hc hsm ha hb64 hm0 1 (by decide) hg
    · exact do_2e B A _ r i q c a b m w rfl hdl hsd hB hbd hlc hc hsm ha hb64 hm0 3 (by decide) hg
  · rcases getS_kinds r with ⟨x, n, hg⟩ | hg | hg
    · exact do_3 B A _ r i q c a b m w rfl hdl hsd hB hbd hlc hc hsm ha hb64 hm0 x n hg
    · exact do_3e B A _ r i q c a b m w rfl hdl hsd hB hbd hlc hc hsm ha hb64 hm0 1 (by decide) hg
    · exact do_3e B A _ r i q c a b m w rfl hdl hsd hB hbd hlc hc hsm ha hb64 hm0 3 (by decide) hg
  · by_cases h0 : a < 0
    · exact do_4a B A _ r i q c a b m w rfl hdl hsd hB hbd hlc hc hsm ha hb64 hm0 h0
    · by_cases h1 : b < 0
      · exact do_4b B A _ r i q c a b m w rfl hdl hsd hB hbd hlc hc hsm ha hb64 hm0 (by omega) h1
      · rcases getS_kinds r with ⟨x, n, hg⟩ | hg | hg
        · by_cases hx : a < (x : Int)
          · exact do_4f B A _ r i q c a b m w rfl hdl hsd hB hbd hlc hc hsm ha hb64 hm0 (by omega) (by omega) x n hx hg
          · by_cases hz : b = 0
            · exact do_4z B A _ r i q c a b m w rfl hdl hsd hB hbd hlc hc hsm ha hb64 hm0 (by omega) hz x n (by omega) hg
            · by_cases hk : ((q : Int) - (n : Int)) / b < (x : Int)
              · exact do_4s B A _ r i q c a b m w rfl hdl hsd hB hbd hlc hc hsm ha hb64 hm0 (by omega) (by omega) x n (by omega) hg hk
              · exact do_4 B A _ r i q c a b m w rfl hdl hsd hB hbd hlc hc hsm ha hb64 hm0 (by omega) (by omega) x n (by omega) hg (Int.not_lt.1 hk)
        · exact do_4e B A _ r i q c a b m w rfl hdl hsd hB hbd hlc hc hsm ha hb64 hm0 (by omega) (by omega) 1 (by decide) hg
        · exact do_4e B A _ r i q c a b m w rfl hdl hsd hB hbd hlc hc hsm ha hb64 hm0 (by omega) (by omega) 3 (by decide) hg
  · by_cases h0 : q = 0
    · exact do_5e B A _ r i q c a b m w rfl hdl hsd hB hbd hlc hc hsm ha hb64 hm0 h0
    · exact do_5 B A _ r i q c a b m w rfl hdl hsd hB hbd hlc hc hsm ha hb64 hm0 (by omega)
  · exact do_6 B A _ r i q c a b m w rfl hdl hsd hB hbd hlc hc hsm ha hb64 hm0

end Go.Proofs.Ytjgigdmjciedpaa
