/-
  The reference's Term.
-/
import Derived.Test.YtmmdhhjpbolkhaaGreatSrcRef
namespace Go.Proofs.YtmmdhhjpbolkhaaGreat
open Go.RowKit
set_option linter.unusedVariables false

theorem fR_off (n v : Int) : fR n (false, v) = true := rfl

theorem fZ_on (v : Int) : fZ (true, v) = true := rfl

theorem fZ_off (v : Int) : fZ (false, v) = !(v != 0) := rfl

theorem eT_1 (t : Tm) (regs blocks : Int) (h : t.kind = 1) {p z1 z2 : Bool} (hp : inr t.to blocks = p) (h1 : (t.a != 0) = z1) (h2 : (t.el != 0) = z2) : eT t regs blocks = if p then (if z1 then 12 else if z2 then 12 else 0) else 11 := by
  subst hp h1 h2
  rw [eT, kO, h]
  simp only [Tm.aF, Tm.toF, Tm.allF, h, okR, okZ, List.all_cons, List.all_nil, Bool.and_true, fR_inr, fZ]
  cases inr t.to blocks <;> cases t.a != 0 <;> cases t.el != 0 <;> rfl

theorem eT_2 (t : Tm) (regs blocks : Int) (h : t.kind = 2) {p q r : Bool} (hp : inr t.a regs = p) (hq : inr t.to blocks = q) (hr : inr t.el blocks = r) : eT t regs blocks = if p then (if q then if r then 0 else 11 else 11) else 9 := by
  subst hp hq hr
  rw [eT, kO, h]
  simp only [Tm.aF, Tm.toF, Tm.allF, h, okR, okZ, List.all_cons, List.all_nil, Bool.and_true, fR_inr, fZ]
  cases inr t.a regs <;> cases inr t.to blocks <;> cases inr t.el blocks <;> rfl

theorem eT_3 (t : Tm) (regs blocks : Int) (h : t.kind = 3) {p z1 z2 : Bool} (hp : inr t.a regs = p) (h1 : (t.to != 0) = z1) (h2 : (t.el != 0) = z2) : eT t regs blocks = if p then (if z1 then 12 else if z2 then 12 else 0) else 9 := by
  subst hp h1 h2
  rw [eT, kO, h]
  simp only [Tm.aF, Tm.toF, Tm.allF, h, okR, okZ, List.all_cons, List.all_nil, Bool.and_true, fR_inr, fZ]
  cases inr t.a regs <;> cases t.to != 0 <;> cases t.el != 0 <;> rfl

set_option maxRecDepth 100000 in
set_option maxHeartbeats 2000000 in
theorem rterm_any (t : Tm) (regs blocks : Int) (w : World) :
    Calls Tryz.prog 28 #[.agg #[.int .i64 t.kind, .int .i64 t.a, .int .i64 t.to, .int .i64 t.el], .int .i64 regs, .int .i64 blocks] w fun e w' => e = .returned (.int .i64 (eT t regs blocks)) ∧ Below w.heap.size w w' := by
  have HB := Lib.hid ((Below.refl w.heap.size w).alloc (Nat.le_refl _) (.cells #[.int .i64 t.kind, .int .i64 t.a, .int .i64 t.to, .int .i64 t.el] 57))
  by_cases h1 : t.kind = 1
  · have e1 : (t.kind == 1) = true := by simp [h1]
    obtain ⟨p, hp⟩ : ∃ z, inr t.to blocks = z := ⟨_, rfl⟩
    obtain ⟨z1, hz1⟩ : ∃ z, (t.a != 0) = z := ⟨_, rfl⟩
    obtain ⟨z2, hz2⟩ : ∃ z, (t.el != 0) = z := ⟨_, rfl⟩
    have HE := Lib.hid (eT_1 t regs blocks h1 hp hz1 hz2)
    have HP := Lib.hid hp
    clear hp h1
    go_enter Tryz.func28, Tryz.ntmps28
    go_wp2_with fail
    cases p
    · refine (rin_any t.to blocks false _ HP.out).mono ?_
      rintro e w' ⟨rfl, rfl⟩
      go_wp2
      go_ret
      exact ⟨by rw [HE.out]; rfl, HB.out⟩
    · refine (rin_any t.to blocks true _ HP.out).mono ?_
      rintro e w' ⟨rfl, rfl⟩
      cases z1
      · cases z2
        · go_wp2
          go_ret
          exact ⟨by rw [HE.out]; rfl, HB.out⟩
        · go_wp2
          go_ret
          exact ⟨by rw [HE.out]; rfl, HB.out⟩
      · go_wp2
        go_ret
        exact ⟨by rw [HE.out]; rfl, HB.out⟩
  · have e1 : (t.kind == 1) = false := by simp [h1]
    by_cases h2 : t.kind = 2
    · have e2 : (t.kind == 2) = true := by simp [h2]
      obtain ⟨p, hp⟩ : ∃ z, inr t.a regs = z := ⟨_, rfl⟩
      obtain ⟨q, hq⟩ : ∃ z, inr t.to blocks = z := ⟨_, rfl⟩
      obtain ⟨r, hr⟩ : ∃ z, inr t.el blocks = z := ⟨_, rfl⟩
      have HE := Lib.hid (eT_2 t regs blocks h2 hp hq hr)
      have HP := Lib.hid hp; have HQ := Lib.hid hq; have HR := Lib.hid hr
      clear hp hq hr h1 h2
      go_enter Tryz.func28, Tryz.ntmps28
      go_wp2_with fail
      cases p
      · refine (rin_any t.a regs false _ HP.out).mono ?_
        rintro e w' ⟨rfl, rfl⟩
        go_wp2
        go_ret
        exact ⟨by rw [HE.out]; rfl, HB.out⟩
      · refine (rin_any t.a regs true _ HP.out).mono ?_
        rintro e w' ⟨rfl, rfl⟩
        go_wp2_with fail
        cases q
        · refine (rin_any t.to blocks false _ HQ.out).mono ?_
          rintro e w' ⟨rfl, rfl⟩
          go_wp2
          go_ret
          exact ⟨by rw [HE.out]; rfl, HB.out⟩
        · refine (rin_any t.to blocks true _ HQ.out).mono ?_
          rintro e w' ⟨rfl, rfl⟩
          go_wp2_with fail
          cases r
          · refine (rin_any t.el blocks false _ HR.out).mono ?_
            rintro e w' ⟨rfl, rfl⟩
            go_wp2
            go_ret
            exact ⟨by rw [HE.out]; rfl, HB.out⟩
          · refine (rin_any t.el blocks true _ HR.out).mono ?_
            rintro e w' ⟨rfl, rfl⟩
            go_wp2
            go_ret
            exact ⟨by rw [HE.out]; rfl, HB.out⟩
    · have e2 : (t.kind == 2) = false := by simp [h2]
      by_cases h3 : t.kind = 3
      · have e3 : (t.kind == 3) = true := by simp [h3]
        obtain ⟨p, hp⟩ : ∃ z, inr t.a regs = z := ⟨_, rfl⟩
        obtain ⟨z1, hz1⟩ : ∃ z, (t.to != 0) = z := ⟨_, rfl⟩
        obtain ⟨z2, hz2⟩ : ∃ z, (t.el != 0) = z := ⟨_, rfl⟩
        have HE := Lib.hid (eT_3 t regs blocks h3 hp hz1 hz2)
        have HP := Lib.hid hp
        clear hp h1 h2 h3
        go_enter Tryz.func28, Tryz.ntmps28
        go_wp2_with fail
        cases p
        · refine (rin_any t.a regs false _ HP.out).mono ?_
          rintro e w' ⟨rfl, rfl⟩
          go_wp2
          go_ret
          exact ⟨by rw [HE.out]; rfl, HB.out⟩
        · refine (rin_any t.a regs true _ HP.out).mono ?_
          rintro e w' ⟨rfl, rfl⟩
          cases z1
          · cases z2
            · go_wp2
              go_ret
              exact ⟨by rw [HE.out]; rfl, HB.out⟩
            · go_wp2
              go_ret
              exact ⟨by rw [HE.out]; rfl, HB.out⟩
          · go_wp2
            go_ret
            exact ⟨by rw [HE.out]; rfl, HB.out⟩
      · have e3 : (t.kind == 3) = false := by simp [h3]
        have HE : Hid (eT t regs blocks = 16) := by rw [Hid, eT, kO, e1, e2, e3]; rfl
        clear h1 h2 h3
        go_enter Tryz.func28, Tryz.ntmps28
        go_wp2
        go_ret
        exact ⟨by rw [HE.out]; rfl, HB.out⟩

end Go.Proofs.YtmmdhhjpbolkhaaGreat
