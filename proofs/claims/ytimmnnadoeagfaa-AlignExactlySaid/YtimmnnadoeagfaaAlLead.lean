/-
  The program's leading at both types, and rowFrom.
-/
import Derived.Test.YtimmnnadoeagfaaAlFns
namespace Go.Proofs.Ytimmnnadoeagfaa
open Go.RowKit
set_option linter.unusedVariables false

theorem ld_stop {α : Type} {p : α → Bool} {l : List α} {k : Nat} (h : k < l.length) (hk : k ≤ ld p l) (e : p l[k] = false) : ld p l = k := by
  rcases Nat.lt_or_ge k (ld p l) with h1 | h1
  · rw [ld_lt p l k h h1] at e
    cases e
  · omega
theorem ld_more {α : Type} {p : α → Bool} {l : List α} {k : Nat} (h : k < l.length) (hk : k ≤ ld p l) (e : p l[k] = true) : k + 1 ≤ ld p l := by
  rcases Nat.lt_or_ge k (ld p l) with h1 | h1
  · exact h1
  · have h2 : ld p l = k := by omega
    have h3 := ld_at p l (by omega)
    simp only [h2] at h3
    rw [e] at h3
    cases h3

set_option maxRecDepth 100000 in
set_option maxHeartbeats 4000000 in
theorem leadC_any (B : Nat) (A : Option Addr) (l : List In) (c : Nat) (w : World) (hs : InsAt w B A l) (hB : B ≤ w.heap.size) (hm : l.length ≤ 1000000) :
    Calls Try.prog 20 #[.slice A l.length c, .func (.func 21) #[] #[]] w fun e w' => e = .returned (.int .i64 (ld isC l : Nat)) ∧ Grew w w' := by
  have HS := Lib.hid hs
  have HM := Lib.hid (ld_le isC l)
  have HSTEP : Hid (∀ k (h : k < l.length), k ≤ ld isC l → (isC l[k] = true → k + 1 ≤ ld isC l) ∧ (isC l[k] = false → ld isC l = k)) := fun k h hk => ⟨ld_more h hk, ld_stop h hk⟩
  have hK : ∀ args W, (callFunc 21 args).run Try.prog W = .ok (.enter 21 args) W := fun args W => enters_of Try.func21 (by kernel_rfl) rfl args W
  generalize ld isC l = n at *
  clear hs
  go_enter Try.func20, Try.ntmps20
  go_wp2
  go_loopg [9] l.length (fun g v9 wr => ∃ k : Nat, k + g = l.length ∧ v9 = .int .i64 k ∧ Hid (k ≤ n) ∧ Hid (Grew w wr))
  case atStart => exact ⟨0, by omega, by go_num, Nat.zero_le _, Grew.refl w⟩
  case round =>
    obtain ⟨k, hg, rfl, HN, HG⟩ := hrel
    by_cases hlt : k < l.length
    · have HT := Lib.hid (HSTEP.out k hlt HN.out)
      obtain ⟨b, o, rfl, hb, hx⟩ := HS.out.at_ hlt
      have hkz : (k : Int) < (l.length : Int) := by omega
      have hx2 := hx.keep hb fun _ hp => (HG.out.below.mono hB).cell hp
      generalize l[k] = x at *
      obtain ⟨x0, x1, x2, x3, x4⟩ := x
      obtain ⟨f0, f1, f2, f3, f4⟩ := hx2
      dsimp only at f0 f1 f2 f3 f4
      clear hx HSTEP HM
      go_upto_region 4 with fail
      have HG1 := Lib.hid (HG.out.alloc (.cells #[.int .i64 x0, .int .i64 x1, .int .i64 x2, .int .i64 x3, .int .i64 x4] 25))
      have hR := Row.new wr 25 #[.int .i64 x0, .int .i64 x1, .int .i64 x2, .int .i64 x3, .int .i64 x4]
      clear f0 f1 f2 f3 f4
      generalize (wr.alloc (.cells #[.int .i64 x0, .int .i64 x1, .int .i64 x2, .int .i64 x3, .int .i64 x4] 25)) = W1 at *
      generalize wr.heap.size = q at *
      have f0 := hR.cell 0; have f1 := hR.cell 1; have f2 := hR.cell 2; have f3 := hR.cell 3; have f4 := hR.cell 4
      simp only [List.getElem?_toArray, List.getElem?_cons_zero, List.getElem?_cons_succ] at f0 f1 f2 f3 f4
      clear hR
      have C1 := Lib.hid (isCopy_any ⟨x0, x1, x2, x3, x4⟩ W1)
      generalize isC ⟨x0, x1, x2, x3, x4⟩ = bb at *
      dsimp only at C1
      cases bb
      · go_wp2_with fail
        refine C1.out.mono ?_
        rintro e W2 ⟨rfl, hG⟩
        have HG2 := Lib.hid (HG1.out.trans hG)
        have HE := Lib.hid (HT.out.2 (by first | rfl | trivial))
        clear hG C1 f0 f1 f2 f3 f4 HT
        go_wp2
        go_ret
        rw [HE.out]
        exact ⟨rfl, HG2.out⟩
      · go_wp2_with fail
        refine C1.out.mono ?_
        rintro e W2 ⟨rfl, hG⟩
        have HG2 := Lib.hid (HG1.out.trans hG)
        have HE := Lib.hid (HT.out.1 (by first | rfl | trivial))
        clear hG C1 f0 f1 f2 f3 f4 HT
        go_wp2
        go_roundg (l.length - (k + 1))
        case measure => omega
        case rel => exact ⟨k + 1, by omega, by go_num, HE.out, HG2.out⟩
    · have hkz : ¬ (k : Int) < (l.length : Int) := by omega
      have HE : Hid (n = l.length) := by
        have := HM.out
        have := HN.out
        show n = _
        omega
      clear HSTEP HS HM HN
      go_wp2
      go_ret
      rw [HE.out]
      exact ⟨rfl, HG.out⟩

set_option maxRecDepth 100000 in
set_option maxHeartbeats 4000000 in
theorem leadM_any (B : Nat) (A : Option Addr) (l : List Mi) (c : Nat) (w : World) (hs : MisAt w B A l) (hB : B ≤ w.heap.size) (hm : l.length ≤ 1000000) :
    Calls Try.prog 22 #[.slice A l.length c, .func (.func 23) #[] #[]] w fun e w' => e = .returned (.int .i64 (ld isM l : Nat)) ∧ Grew w w' := by
  have HS := Lib.hid hs
  have HM := Lib.hid (ld_le isM l)
  have HSTEP : Hid (∀ k (h : k < l.length), k ≤ ld isM l → (isM l[k] = true → k + 1 ≤ ld isM l) ∧ (isM l[k] = false → ld isM l = k)) := fun k h hk => ⟨ld_more h hk, ld_stop h hk⟩
  have hK : ∀ args W, (callFunc 23 args).run Try.prog W = .ok (.enter 23 args) W := fun args W => enters_of Try.func23 (by kernel_rfl) rfl args W
  generalize ld isM l = n at *
  clear hs
  go_enter Try.func22, Try.ntmps22
  go_wp2
  go_loopg [9] l.length (fun g v9 wr => ∃ k : Nat, k + g = l.length ∧ v9 = .int .i64 k ∧ Hid (k ≤ n) ∧ Hid (Grew w wr))
  case atStart => exact ⟨0, by omega, by go_num, Nat.zero_le _, Grew.refl w⟩
  case round =>
    obtain ⟨k, hg, rfl, HN, HG⟩ := hrel
    by_cases hlt : k < l.length
    · have HT := Lib.hid (HSTEP.out k hlt HN.out)
      obtain ⟨b, o, rfl, hb, hx⟩ := HS.out.at_ hlt
      have hkz : (k : Int) < (l.length : Int) := by omega
      have hx2 := hx.keep hb fun _ hp => (HG.out.below.mono hB).cell hp
      generalize l[k] = x at *
      obtain ⟨x0, x1, x2, x3, x4, x5, x6⟩ := x
      obtain ⟨_, f0, f1, f2, f3, f4, f5, f6⟩ := hx2
      dsimp only at f0 f1 f2 f3 f4 f5 f6
      clear hx HSTEP HM
      go_upto_region 4 with fail
      have HG1 := Lib.hid (HG.out.alloc (.cells #[.int .i64 x0, .int .i64 x1, .int .i64 x2, .int .i64 x3, .int .i64 x4, .int .i64 x5, .int .i64 x6] 28))
      have hR := Row.new wr 28 #[.int .i64 x0, .int .i64 x1, .int .i64 x2, .int .i64 x3, .int .i64 x4, .int .i64 x5, .int .i64 x6]
      clear f0 f1 f2 f3 f4 f5 f6
      generalize (wr.alloc (.cells #[.int .i64 x0, .int .i64 x1, .int .i64 x2, .int .i64 x3, .int .i64 x4, .int .i64 x5, .int .i64 x6] 28)) = W1 at *
      generalize wr.heap.size = q at *
      have f0 := hR.cell 0; have f1 := hR.cell 1; have f2 := hR.cell 2; have f3 := hR.cell 3; have f4 := hR.cell 4; have f5 := hR.cell 5; have f6 := hR.cell 6
      simp only [List.getElem?_toArray, List.getElem?_cons_zero, List.getElem?_cons_succ] at f0 f1 f2 f3 f4 f5 f6
      clear hR
      have C1 := Lib.hid (isMove_any ⟨x0, x1, x2, x3, x4, x5, x6⟩ W1)
      generalize isM ⟨x0, x1, x2, x3, x4, x5, x6⟩ = bb at *
      dsimp only at C1
      cases bb
      · go_wp2_with fail
        refine C1.out.mono ?_
        rintro e W2 ⟨rfl, hG⟩
        have HG2 := Lib.hid (HG1.out.trans hG)
        have HE := Lib.hid (HT.out.2 (by first | rfl | trivial))
        clear hG C1 f0 f1 f2 f3 f4 f5 f6 HT
        go_wp2
        go_ret
        rw [HE.out]
        exact ⟨rfl, HG2.out⟩
      · go_wp2_with fail
        refine C1.out.mono ?_
        rintro e W2 ⟨rfl, hG⟩
        have HG2 := Lib.hid (HG1.out.trans hG)
        have HE := Lib.hid (HT.out.1 (by first | rfl | trivial))
        clear hG C1 f0 f1 f2 f3 f4 f5 f6 HT
        go_wp2
        go_roundg (l.length - (k + 1))
        case measure => omega
        case rel => exact ⟨k + 1, by omega, by go_num, HE.out, HG2.out⟩
    · have hkz : ¬ (k : Int) < (l.length : Int) := by omega
      have HE : Hid (n = l.length) := by
        have := HM.out
        have := HN.out
        show n = _
        omega
      clear HSTEP HS HM HN
      go_wp2
      go_ret
      rw [HE.out]
      exact ⟨rfl, HG.out⟩

theorem leadC_n (B : Nat) (A : Option Addr) (l : List In) (n c : Nat) (w : World) (hs : InsAt w B A l) (hB : B ≤ w.heap.size) (hm : n ≤ 1000000) (hn : l.length = n) :
    Calls Try.prog 20 #[.slice A n c, .func (.func 21) #[] #[]] w fun e w' => e = .returned (.int .i64 (ld isC l : Nat)) ∧ Grew w w' := by
  subst hn
  exact leadC_any B A l c w hs hB hm
theorem leadM_n (B : Nat) (A : Option Addr) (l : List Mi) (n c : Nat) (w : World) (hs : MisAt w B A l) (hB : B ≤ w.heap.size) (hm : n ≤ 1000000) (hn : l.length = n) :
    Calls Try.prog 22 #[.slice A n c, .func (.func 23) #[] #[]] w fun e w' => e = .returned (.int .i64 (ld isM l : Nat)) ∧ Grew w w' := by
  subst hn
  exact leadM_any B A l c w hs hB hm
theorem InsAt.cut {w : World} {B : Nat} {A : Option Addr} {xs : List In} {k c : Nat} (h : InsAt w B A xs) (hc : xs.length ≤ c) : InsAt w B (if c = k then A else A.map fun x => x.add (k * 5)) (xs.drop k) := fun hn => by
  have hl : k < xs.length := by
    rcases Nat.lt_or_ge k xs.length with h1 | h1
    · exact h1
    · exact absurd (List.drop_eq_nil_of_le h1) hn
  obtain ⟨b, o, rfl, _, _⟩ := h (by intro e; subst e; simp at hl)
  rw [if_neg (by omega)]
  have := h.drop k hn
  simpa [Addr.add_lit] using this
theorem MisAt.cut {w : World} {B : Nat} {A : Option Addr} {xs : List Mi} {k c : Nat} (h : MisAt w B A xs) (hc : xs.length ≤ c) : MisAt w B (if c = k then A else A.map fun x => x.add (k * 7)) (xs.drop k) := fun hn => by
  have hl : k < xs.length := by
    rcases Nat.lt_or_ge k xs.length with h1 | h1
    · exact h1
    · exact absurd (List.drop_eq_nil_of_le h1) hn
  obtain ⟨b, o, rfl, _, _⟩ := h (by intro e; subst e; simp at hl)
  rw [if_neg (by omega)]
  have := h.drop k hn
  simpa [Addr.add_lit] using this

theorem Row.put6 {W : World} {p : Nat} {T : TypeId} {z0 z1 z2 z3 z4 z5 : Value} (h : Row W p T #[z0, z1, z2, z3, z4, z5]) (a0 a1 a2 a3 a4 a5 : Value) :
    Row ((((((W.setCell ⟨p, 0, none⟩ a0).setCell ⟨p, 1, none⟩ a1).setCell ⟨p, 2, none⟩ a2).setCell ⟨p, 3, none⟩ a3).setCell ⟨p, 4, none⟩ a4).setCell ⟨p, 5, none⟩ a5) p T #[a0, a1, a2, a3, a4, a5] := by
  have q0 : Row _ p T #[a0, z1, z2, z3, z4, z5] := h.put 0 a0
  have q1 : Row _ p T #[a0, a1, z2, z3, z4, z5] := q0.put 1 a1
  have q2 : Row _ p T #[a0, a1, a2, z3, z4, z5] := q1.put 2 a2
  have q3 : Row _ p T #[a0, a1, a2, a3, z4, z5] := q2.put 3 a3
  have q4 : Row _ p T #[a0, a1, a2, a3, a4, z5] := q3.put 4 a4
  exact q4.put 5 a5
theorem blw6 {B p : Nat} {w W : World} (hp : B ≤ p) (h : Below B w W) (a0 a1 a2 a3 a4 a5 : Value) :
    Below B w ((((((W.setCell ⟨p, 0, none⟩ a0).setCell ⟨p, 1, none⟩ a1).setCell ⟨p, 2, none⟩ a2).setCell ⟨p, 3, none⟩ a3).setCell ⟨p, 4, none⟩ a4).setCell ⟨p, 5, none⟩ a5) :=
  (((((h.setCell (p := ⟨p, 0, none⟩) hp a0).setCell (p := ⟨p, 1, none⟩) hp a1).setCell (p := ⟨p, 2, none⟩) hp a2).setCell (p := ⟨p, 3, none⟩) hp a3).setCell (p := ⟨p, 4, none⟩) hp a4).setCell (p := ⟨p, 5, none⟩) hp a5

set_option maxRecDepth 100000 in
set_option maxHeartbeats 4000000 in
theorem rowFrom_any (A1 : Option Addr) (n1 c1 : Nat) (code : List In) (A2 : Option Addr) (n2 c2 : Nat) (mach : List Mi) (s m : Nat) (w : World) (h1 : CS w A1 n1 c1 code) (h2 : MS w A2 n2 c2 mach) (hm1 : n1 ≤ 1000000) (hm2 : n2 ≤ 1000000) (hs : s ≤ n1) (hm : m ≤ n2) :
    Calls Try.prog 17 #[.slice A1 n1 c1, .slice A2 n2 c2, .int .i64 s, .int .i64 m] w fun e w' => e = .returned (.agg #[.int .i64 s, .int .i64 (s + ld isC (code.drop s) : Nat), .int .i64 m, .int .i64 (m + ld isM (mach.drop m) : Nat), .int .i64 (s + ld isC (code.drop s) : Nat), .int .i64 (m + ld isM (mach.drop m) : Nat)]) ∧ Below w.heap.size w w' := by
  have l1 := ld_le isC (code.drop s)
  have l2 := ld_le isM (mach.drop m)
  have e1 : (code.drop s).length = n1 - s := by rw [List.length_drop, h1.len]
  have e2 : (mach.drop m).length = n2 - m := by rw [List.length_drop, h2.len]
  have q1 := h1.cap; have q2 := h1.cmx; have q3 := h2.cap; have q4 := h2.cmx
  have sz : (s : Int) ≤ (n1 : Int) := by omega
  have mz : (m : Int) ≤ (n2 : Int) := by omega
  have H1 := Lib.hid h1
  have H2 := Lib.hid h2
  clear h1 h2
  have HZ := Lib.hid ((Below.refl w.heap.size w).alloc (Nat.le_refl _) (.cells #[.int .i64 0, .int .i64 0, .int .i64 0, .int .i64 0, .int .i64 0, .int .i64 0] 45))
  have hR := Row.new w 45 #[.int .i64 0, .int .i64 0, .int .i64 0, .int .i64 0, .int .i64 0, .int .i64 0]
  obtain ⟨A3, hite3⟩ : ∃ z, (if c1 = s then A1 else A1.map fun x => x.add (s * 5)) = z := ⟨_, rfl⟩
  obtain ⟨A4, hite4⟩ : ∃ z, (if c2 = m then A2 else A2.map fun x => x.add (m * 7)) = z := ⟨_, rfl⟩
  have HS3 : Hid (InsAt w w.heap.size A3 (code.drop s)) := by rw [← hite3]; exact H1.out.see.cut (by rw [H1.out.len]; exact q1)
  have HS4 : Hid (MisAt w w.heap.size A4 (mach.drop m)) := by rw [← hite4]; exact H2.out.see.cut (by rw [H2.out.len]; exact q3)
  generalize code.drop s = l3 at *
  generalize mach.drop m = l4 at *
  obtain ⟨d1, HD1⟩ : ∃ d, Hid (ld isC l3 = d) := ⟨_, rfl⟩
  obtain ⟨d2, HD2⟩ : ∃ d, Hid (ld isM l4 = d) := ⟨_, rfl⟩
  rw [HD1.out] at l1
  rw [HD2.out] at l2
  have k1 : (s : Int) + (d1 : Int) ≤ 1000000 := by omega
  have k2 : (m : Int) + (d2 : Int) ≤ 1000000 := by omega
  clear l1 l2 H1 H2
  go_enter Try.func17, Try.ntmps17
  go_upto_region 1 with fail
  generalize (w.alloc (.cells #[.int .i64 0, .int .i64 0, .int .i64 0, .int .i64 0, .int .i64 0, .int .i64 0] 45)) = W1 at *
  have C := Lib.hid (leadC_n w.heap.size A3 l3 (n1 - s) (c1 - s) W1 (HS3.out.below HZ.out) (Nat.le_of_lt hR.lt) (by omega) e1)
  have HR := Lib.hid hR
  rw [HD1.out] at C
  clear hR HS3 e1
  go_wp2_with fail
  refine C.out.mono ?_
  rintro e W2 ⟨rfl, hG⟩
  have HB2 := Lib.hid (HZ.out.trans (hG.below.mono (Nat.le_of_lt HR.out.lt)))
  have HR2 := Lib.hid (hG.row HR.out)
  have C2 := Lib.hid (leadM_n w.heap.size A4 l4 (n2 - m) (c2 - m) W2 (HS4.out.below HB2.out) (Nat.le_of_lt HR2.out.lt) (by omega) e2)
  rw [HD2.out] at C2
  clear hG C HS4 e2 HR HZ
  go_wp2_with fail
  refine C2.out.mono ?_
  rintro e W3 ⟨rfl, hG⟩
  have HB3 := Lib.hid (HB2.out.trans (hG.below.mono (Nat.le_of_lt HR2.out.lt)))
  have hR := hG.row HR2.out
  have HR3 := Lib.hid hR
  have f0 := hR.cell 0; have f1 := hR.cell 1; have f2 := hR.cell 2; have f3 := hR.cell 3; have f4 := hR.cell 4; have f5 := hR.cell 5
  simp only [List.getElem?_toArray, List.getElem?_cons_zero, List.getElem?_cons_succ] at f0 f1 f2 f3 f4 f5
  have g0 := hR.frozen 0; have g1 := hR.frozen 1; have g2 := hR.frozen 2; have g3 := hR.frozen 3; have g4 := hR.frozen 4; have g5 := hR.frozen 5
  clear hG hR C2 HB2 HR2
  go_wp2
  (try simp only [Exit.inBlock, Exit.then])
  refine bodyPost_ret (v := .agg #[.int .i64 s, .int .i64 ((s : Int) + d1), .int .i64 m, .int .i64 ((m : Int) + d2), .int .i64 ((s : Int) + d1), .int .i64 ((m : Int) + d2)]) ?_ rfl ?_
  · exact results_cell_row rfl _ _ w.heap.size 45 #[.int .i64 s, .int .i64 ((s : Int) + d1), .int .i64 m, .int .i64 ((m : Int) + d2), .int .i64 ((s : Int) + d1), .int .i64 ((m : Int) + d2)] (0, 0) _ rfl (HR3.out.put6 _ _ _ _ _ _) Try.underlying45 rfl (by kernel_rfl)
  · refine ⟨?_, blw6 (Nat.le_refl _) HB3.out _ _ _ _ _ _⟩
    rw [HD1.out, HD2.out, Int.natCast_add, Int.natCast_add]

end Go.Proofs.Ytimmnnadoeagfaa
