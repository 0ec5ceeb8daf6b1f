/-
  The program's Term.
-/
import Derived.Test.YtcoehkphdfejjaaPk1
namespace Go.Proofs.Ytcoehkphdfejjaa
open Go.RowKit
set_option linter.unusedVariables false

/-- A terminator and its fields, laid one behind the other, and what a later world still shows of them. -/
theorem rows4 {W1 W3 : World} {s0 f0 f1 f2 g : Array Value} {ts t : TypeId} (hb : Below (((((W1.alloc (.cells s0 ts)).alloc (.cells f0 t)).alloc (.cells f1 t)).alloc (.cells f2 t)).alloc (.cells g t)).heap.size (((((W1.alloc (.cells s0 ts)).alloc (.cells f0 t)).alloc (.cells f1 t)).alloc (.cells f2 t)).alloc (.cells g t)) W3) :
    Row W3 (W1.heap.size + 1) t f0 ∧ Row W3 (W1.heap.size + 1 + 1) t f1 ∧ Row W3 (W1.heap.size + 1 + 1 + 1) t f2 ∧ Below W1.heap.size W1 W3 := by
  have r0 := ((((Row.new' (W := W1.alloc (.cells s0 ts)) (p := W1.heap.size + 1) (by simp) t f0).alloc (.cells f1 t)).alloc (.cells f2 t)).alloc (.cells g t)).below hb (by simp)
  have r1 := (((Row.new' (W := (W1.alloc (.cells s0 ts)).alloc (.cells f0 t)) (p := W1.heap.size + 1 + 1) (by simp) t f1).alloc (.cells f2 t)).alloc (.cells g t)).below hb (by simp)
  have r2 := ((Row.new' (W := ((W1.alloc (.cells s0 ts)).alloc (.cells f0 t)).alloc (.cells f1 t)) (p := W1.heap.size + 1 + 1 + 1) (by simp) t f2).alloc (.cells g t)).below hb (by simp)
  refine ⟨r0, r1, r2, ?_⟩
  have h0 := (((((Below.refl W1.heap.size W1).alloc (Nat.le_refl _) (.cells s0 ts)).alloc (by simp) (.cells f0 t)).alloc (by simp; omega) (.cells f1 t)).alloc (by simp; omega) (.cells f2 t)).alloc (by simp; omega) (.cells g t)
  exact h0.trans (hb.mono h0.size)

theorem kinds (k : Int) : kO k = false ∧ (k != 1) = true ∧ (k != 2) = true ∧ (k != 3) = true ∨
    kO k = true ∧ ∃ n1 n2 n3 e2 : Bool, (k != 1) = n1 ∧ (k != 2) = n2 ∧ (k != 3) = n3 ∧ (k == 2) = e2 ∧ ((n1 = false ∧ n2 = true ∧ n3 = true ∧ e2 = false) ∨ (n1 = true ∧ n2 = false ∧ n3 = true ∧ e2 = true) ∨ (n1 = true ∧ n2 = true ∧ n3 = false ∧ e2 = false)) := by
  by_cases h1 : k = 1
  · subst h1; exact .inr ⟨rfl, _, _, _, _, rfl, rfl, rfl, rfl, .inl ⟨rfl, rfl, rfl, rfl⟩⟩
  · by_cases h2 : k = 2
    · subst h2; exact .inr ⟨rfl, _, _, _, _, rfl, rfl, rfl, rfl, .inr (.inl ⟨rfl, rfl, rfl, rfl⟩)⟩
    · by_cases h3 : k = 3
      · subst h3; exact .inr ⟨rfl, _, _, _, _, rfl, rfl, rfl, rfl, .inr (.inr ⟨rfl, rfl, rfl, rfl⟩)⟩
      · exact .inl ⟨by simp [kO, h1, h2, h3], by simp [h1], by simp [h2], by simp [h3]⟩

set_option maxRecDepth 100000 in
set_option maxHeartbeats 2000000 in
theorem term_any (t : Tm) (regs blocks : Int) (w : World) :
    Calls Try.prog 63 #[.agg #[.int .i64 t.kind, .int .i64 t.a, .int .i64 t.to, .int .i64 t.el], .int .i64 regs, .int .i64 blocks] w fun e w' => e = .returned (.int .i64 (eT t regs blocks)) ∧ Below w.heap.size w w' := by
  rcases kinds t.kind with ⟨hO, n1, n2, n3⟩ | ⟨hO, b1, b2, b3, b4, n1, n2, n3, n4, hb⟩
  · have HE : Hid (eT t regs blocks = 16) := by rw [Hid, eT, hO]; rfl
    have HB := Lib.hid ((Below.refl w.heap.size w).alloc (Nat.le_refl _) (.cells #[.int .i64 t.kind, .int .i64 t.a, .int .i64 t.to, .int .i64 t.el] 43))
    clear hO
    go_enter Try.func63, Try.ntmps63
    go_wp2
    go_ret
    exact ⟨by rw [HE.out]; rfl, HB.out⟩
  · have HE : Hid (eT t regs blocks = if okR regs t.aF then if okR blocks t.toF then if okZ t.allF then 0 else 12 else 11 else 9) := by rw [Hid, eT, hO]; rfl
    have HA : Hid (t.aF = [(b1, t.a)]) := by rw [Hid, Tm.aF, n1]
    have HT : Hid (t.toF = [(b3, t.to), (b4, t.el)]) := by rw [Hid, Tm.toF, n3, n4]
    have HZ : Hid (t.allF = [(b1, t.a), (b3, t.to), (b4, t.el)]) := by rw [Hid, Tm.allF, n1, n3, n4]
    have HN4 := Lib.hid n4
    clear hO n4
    go_enter Try.func63, Try.ntmps63
    rcases hb with ⟨rfl, rfl, rfl, rfl⟩ | ⟨rfl, rfl, rfl, rfl⟩ | ⟨rfl, rfl, rfl, rfl⟩
    all_goals
      have n4 := HN4.out
      go_wp2_with fail
      refine (inrange_any (w.heap.size + 1 + 1 + 1 + 1 + 1) _ t.aF 1 regs _ ?s1 ?s2 ?s3).mono ?_
      case s1 => exact sees_new' (by simp) _ _ (by rw [HA.out]; rfl)
      case s2 => simp
      case s3 => exact (by decide : 1 ≤ 1000)
      rintro e W3 ⟨rfl, hb3⟩
      obtain ⟨r0, r1, r2, hb⟩ := rows4 hb3
      have c0 := r0.cell 0; have c1 := r0.cell 1; have c2 := r1.cell 0; have c3 := r1.cell 1; have c4 := r2.cell 0; have c5 := r2.cell 1
      simp only [List.getElem?_toArray, List.getElem?_cons_zero, List.getElem?_cons_succ] at c0 c1 c2 c3 c4 c5
      have HB3 := Lib.hid hb
      have H0 := Lib.hid r0; have H1 := Lib.hid r1; have H2 := Lib.hid r2
      clear hb3 hb r0 r1 r2 n1 n2 n3 n4
      cases hok : okR regs t.aF
      · have HE2 : Hid (eT t regs blocks = 9) := by rw [Hid, HE.out, hok]; rfl
        clear hok
        go_wp2
        go_ret
        exact ⟨by rw [HE2.out]; rfl, HB3.out⟩
      · have HE2 : Hid (eT t regs blocks = if okR blocks t.toF then if okZ t.allF then 0 else 12 else 11) := by rw [Hid, HE.out, hok]; rfl
        clear hok
        go_wp2_with fail
        refine (inrange_any (W3.heap.size + 1) _ t.toF 2 blocks _ ?s4 ?s5 ?s6).mono ?_
        case s4 => exact sees_new' rfl _ _ (by rw [HT.out]; rfl)
        case s5 => simp
        case s6 => exact (by decide : 2 ≤ 1000)
        rintro e W4 ⟨rfl, hb4⟩
        have HB4 := Lib.hid ((HB3.out.alloc HB3.out.size _).trans (hb4.mono (HB3.out.alloc HB3.out.size _).size))
        have r0 := (H0.out.alloc _).below hb4 (H0.out.alloc _).lt
        have r1 := (H1.out.alloc _).below hb4 (H1.out.alloc _).lt
        have r2 := (H2.out.alloc _).below hb4 (H2.out.alloc _).lt
        clear c0 c1 c2 c3 c4 c5 hb4
        have c0 := r0.cell 0; have c1 := r0.cell 1; have c2 := r1.cell 0; have c3 := r1.cell 1; have c4 := r2.cell 0; have c5 := r2.cell 1
        simp only [List.getElem?_toArray, List.getElem?_cons_zero, List.getElem?_cons_succ] at c0 c1 c2 c3 c4 c5
        clear r0 r1 r2 H0 H1 H2
        cases hok : okR blocks t.toF
        · have HE3 : Hid (eT t regs blocks = 11) := by rw [Hid, HE2.out, hok]; rfl
          clear hok
          go_wp2
          go_ret
          exact ⟨by rw [HE3.out]; rfl, HB4.out⟩
        · have HE3 : Hid (eT t regs blocks = if okZ t.allF then 0 else 12) := by rw [Hid, HE2.out, hok]; rfl
          clear hok
          go_wp2_with fail
          refine (unused_any (W4.heap.size + 1) _ t.allF 3 _ ?s7 ?s8 ?s9).mono ?_
          case s7 => exact sees_new' rfl _ _ (by rw [HZ.out]; rfl)
          case s8 => simp
          case s9 => exact (by decide : 3 ≤ 1000)
          rintro e W5 ⟨rfl, hb5⟩
          have HB5 := Lib.hid ((HB4.out.alloc HB4.out.size _).trans (hb5.mono (HB4.out.alloc HB4.out.size _).size))
          clear c0 c1 c2 c3 c4 c5 hb5
          cases hok : okZ t.allF
          · have HE4 : Hid (eT t regs blocks = 12) := by rw [Hid, HE3.out, hok]; rfl
            clear hok
            go_wp2
            go_ret
            exact ⟨by rw [HE4.out]; rfl, HB5.out⟩
          · have HE4 : Hid (eT t regs blocks = 0) := by rw [Hid, HE3.out, hok]; rfl
            clear hok
            go_wp2
            go_ret
            exact ⟨by rw [HE4.out]; rfl, HB5.out⟩

end Go.Proofs.Ytcoehkphdfejjaa
