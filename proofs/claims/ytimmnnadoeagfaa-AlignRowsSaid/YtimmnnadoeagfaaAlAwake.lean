/-
  The fixed examples.
-/
import Derived.Test.YtimmnnadoeagfaaAlRows
namespace Go.Proofs.Ytimmnnadoeagfaa
open Go.RowKit
set_option linter.unusedVariables false

def alExC : List In := [⟨2, 0, 0, 0, 0⟩, ⟨5, 0, 0, 0, 0⟩]
def alExM : List Mi := [⟨5, 0, 0, 0, 0, 0, 0⟩, ⟨18, 0, 0, 0, 0, 0, 0⟩]
def alExN : List Mi := [⟨18, 0, 0, 0, 0, 0, 0⟩]
theorem alEx1 : alC alExC alExM = ([⟨0, 1, 0, 0, 1, 0⟩, ⟨2, 2, 1, 2, -1, -1⟩], 2, 0) := rfl
theorem alEx2 : alC alExC alExN = ([], 1, 20) := rfl
theorem alEx3 : alC [] alExM = ([], 0, 20) := rfl
theorem alfits0 : Fits 0 := ⟨by decide, by decide⟩
theorem alExM_ok : ∀ x ∈ alExM, x.Ok := fun x hx => by
  simp only [alExM, List.mem_cons, List.not_mem_nil, or_false] at hx
  rcases hx with rfl | rfl <;> exact ⟨alfits0, alfits0⟩

theorem alcode_at {A1 : Option Addr} {n1 c1 : Nat} {code : List In} {A2 : Option Addr} {n2 c2 : Nat} {mach : List Mi} {w : World} {R1 : List Rw} {R2 : Nat} {R3 : Int} (h1 : CS w A1 n1 c1 code) (h2 : MS w A2 n2 c2 mach) (hm1 : n1 ≤ 100000) (hm2 : n2 ≤ 100000) (hR : alC code mach = (R1, R2, R3)) :
    Calls Try.prog 9 #[.slice A1 n1 c1, .slice A2 n2 c2] w fun e w' => ∃ A c, e = .returned (.tuple #[.slice A R1.length c, .int .i64 (R2 : Int), .int .i64 R3]) ∧ RL Rw.cells 6 45 w (.slice A R1.length c) R1 w' := by
  refine (alcode_any h1 h2 hm1 hm2).mono ?_
  rintro e w' ⟨v, rfl, h⟩
  rw [hR] at h ⊢
  obtain ⟨A, c, rfl, _⟩ := h.slice
  exact ⟨A, c, rfl, h⟩
theorem ralcode_at {A1 : Option Addr} {n1 c1 : Nat} {code : List In} {A2 : Option Addr} {n2 c2 : Nat} {mach : List Mi} {w : World} {R1 : List Rw} {R2 : Nat} {R3 : Int} (h1 : CS w A1 n1 c1 code) (h2 : MS w A2 n2 c2 mach) (hm1 : n1 ≤ 100000) (hm2 : n2 ≤ 100000) (hR : alC code mach = (R1, R2, R3)) :
    Calls Try.prog 10 #[.slice A1 n1 c1, .slice A2 n2 c2] w fun e w' => ∃ A c, e = .returned (.tuple #[.slice A R1.length c, .int .i64 (R2 : Int), .int .i64 R3]) ∧ RL Rw.cells 6 55 w (.slice A R1.length c) R1 w' := by
  refine (ralcode_any h1 h2 hm1 hm2).mono ?_
  rintro e w' ⟨v, rfl, h⟩
  rw [hR] at h ⊢
  obtain ⟨A, c, rfl, _⟩ := h.slice
  exact ⟨A, c, rfl, h⟩

/-- A block of the two instructions, a block of the two machine instructions. -/
theorem ex_cs (w : World) : CS (w.alloc (.cells #[.int .i64 2, .int .i64 0, .int .i64 0, .int .i64 0, .int .i64 0, .int .i64 5, .int .i64 0, .int .i64 0, .int .i64 0, .int .i64 0] 25)) (some ⟨w.heap.size, 0, none⟩) 2 2 alExC := by
  have h := sees_new w #[.int .i64 2, .int .i64 0, .int .i64 0, .int .i64 0, .int .i64 0, .int .i64 5, .int .i64 0, .int .i64 0, .int .i64 0, .int .i64 0] 25
  rw [show w.heap.size + 1 = (w.alloc (.cells #[.int .i64 2, .int .i64 0, .int .i64 0, .int .i64 0, .int .i64 0, .int .i64 5, .int .i64 0, .int .i64 0, .int .i64 0, .int .i64 0] 25)).heap.size by simp] at h
  exact ⟨rfl, Nat.le_refl _, by decide, InsAt.of_sees h⟩
theorem ex_ms (w : World) : MS (w.alloc (.cells #[.int .i64 5, .int .i64 0, .int .i64 0, .int .i64 0, .int .i64 0, .int .i64 0, .int .i64 0, .int .i64 18, .int .i64 0, .int .i64 0, .int .i64 0, .int .i64 0, .int .i64 0, .int .i64 0] 28)) (some ⟨w.heap.size, 0, none⟩) 2 2 alExM := by
  have h := sees_new w #[.int .i64 5, .int .i64 0, .int .i64 0, .int .i64 0, .int .i64 0, .int .i64 0, .int .i64 0, .int .i64 18, .int .i64 0, .int .i64 0, .int .i64 0, .int .i64 0, .int .i64 0, .int .i64 0] 28
  rw [show w.heap.size + 1 = (w.alloc (.cells #[.int .i64 5, .int .i64 0, .int .i64 0, .int .i64 0, .int .i64 0, .int .i64 0, .int .i64 0, .int .i64 18, .int .i64 0, .int .i64 0, .int .i64 0, .int .i64 0, .int .i64 0, .int .i64 0] 28)).heap.size by simp] at h
  exact ⟨rfl, Nat.le_refl _, by decide, MisAt.of_sees h alExM_ok⟩

set_option maxRecDepth 100000 in
set_option maxHeartbeats 4000000 in
theorem awake_any (w : World) : Calls Try.prog 8 #[] w fun e w' => e = .returned (.bool true) ∧ Below w.heap.size w w' := by
  have HB1 := Lib.hid ((Below.refl w.heap.size w).alloc (Nat.le_refl _) (.cells #[.int .i64 2, .int .i64 0, .int .i64 0, .int .i64 0, .int .i64 0, .int .i64 5, .int .i64 0, .int .i64 0, .int .i64 0, .int .i64 0] 25))
  have HC1 := Lib.hid (ex_cs w)
  go_enter Try.func8, Try.ntmps8
  go_upto_region 2 with fail
  generalize (w.alloc (.cells #[.int .i64 2, .int .i64 0, .int .i64 0, .int .i64 0, .int .i64 0, .int .i64 5, .int .i64 0, .int .i64 0, .int .i64 0, .int .i64 0] 25)) = W1 at *
  have HB2 := Lib.hid (HB1.out.alloc HB1.out.size (.cells #[.int .i64 5, .int .i64 0, .int .i64 0, .int .i64 0, .int .i64 0, .int .i64 0, .int .i64 0, .int .i64 18, .int .i64 0, .int .i64 0, .int .i64 0, .int .i64 0, .int .i64 0, .int .i64 0] 28))
  have HC2 := Lib.hid (HC1.out.below ((Below.refl W1.heap.size W1).alloc (Nat.le_refl _) (.cells #[.int .i64 5, .int .i64 0, .int .i64 0, .int .i64 0, .int .i64 0, .int .i64 0, .int .i64 0, .int .i64 18, .int .i64 0, .int .i64 0, .int .i64 0, .int .i64 0, .int .i64 0, .int .i64 0] 28)))
  have HM2 := Lib.hid (ex_ms W1)
  clear HB1 HC1
  go_upto_region 3 with fail
  generalize (W1.alloc (.cells #[.int .i64 5, .int .i64 0, .int .i64 0, .int .i64 0, .int .i64 0, .int .i64 0, .int .i64 0, .int .i64 18, .int .i64 0, .int .i64 0, .int .i64 0, .int .i64 0, .int .i64 0, .int .i64 0] 28)) = W2 at *
  have C := Lib.hid (alcode_at HC2.out HM2.out (by decide) (by decide) alEx1)
  go_wp2_with fail
  refine C.out.mono ?_
  rintro e W3 ⟨A, c, rfl, hP⟩
  have HR3 := Lib.hid hP.rs
  have HB3 := Lib.hid (HB2.out.trans (hP.blw.mono HB2.out.size))
  have HC3 := Lib.hid (HC2.out.below hP.blw)
  have HM3 := Lib.hid (HM2.out.below hP.blw)
  have HM4 : Hid (MS W3 (some ⟨W1.heap.size, 7, none⟩) 1 1 alExN) := ⟨rfl, Nat.le_refl _, by decide, by
    have := HM3.out.see.drop 1
    rwa [show 0 + 1 * 7 = 7 from rfl] at this⟩
  clear hP C HB2 HC2 HM2
  have C := Lib.hid (alcode_at HC3.out HM4.out (by decide) (by decide) alEx2)
  go_wp2_with fail
  refine C.out.mono ?_
  rintro e W4 ⟨A', c', rfl, hP⟩
  have HR4 := Lib.hid (HR3.out.below hP.blw)
  have HB4 := Lib.hid (HB3.out.trans (hP.blw.mono HB3.out.size))
  have HM5 := Lib.hid (HM3.out.below hP.blw)
  have HN4 : Hid (CS W4 none 0 0 []) := ⟨rfl, Nat.le_refl _, Nat.zero_le _, InsAt.nil⟩
  clear hP C HR3 HB3 HC3 HM3 HM4
  have C := Lib.hid (alcode_at HN4.out HM5.out (by decide) (by decide) alEx3)
  go_wp2_with fail
  refine C.out.mono ?_
  rintro e W5 ⟨A'', c'', rfl, hP⟩
  have hr := HR4.out.below hP.blw
  have HB5 := Lib.hid (HB4.out.trans (hP.blw.mono HB4.out.size))
  obtain ⟨b, o, rfl, _, hx⟩ := hr.see.at_ (i := 0) (by decide)
  obtain ⟨b', o', e', _, hy⟩ := hr.see.at_ (i := 1) (by decide)
  injection e' with e'
  injection e' with e1 e2
  subst e1
  subst e2
  obtain ⟨f0, f1, f2, f3, f4, f5⟩ := hx
  obtain ⟨g0, g1, g2, g3, g4, g5⟩ := hy
  simp only [List.getElem_cons_zero, List.getElem_cons_succ, Nat.zero_mul, Nat.one_mul, Nat.add_zero] at f0 f1 f2 f3 f4 f5 g0 g1 g2 g3 g4 g5
  have hq1 := fun W => eq_rw ⟨0, 1, 0, 0, 1, 0⟩ ⟨0, 1, 0, 0, 1, 0⟩ W
  have hq2 := fun W => eq_rw ⟨2, 2, 1, 2, -1, -1⟩ ⟨2, 2, 1, 2, -1, -1⟩ W
  rw [rwS_refl] at hq1 hq2
  dsimp only at hq1 hq2
  clear hP C HR4 HB4 HM5 HN4 hr
  have T1 := Lib.hid fun W => terms_any ⟨0, 1, 0, 0⟩ ⟨0, 2, 0, 0⟩ W
  have S1 := Lib.hid fun W => alsame_any ⟨2, 0, 0, 0, 0⟩ ⟨2, 0, 0, 0, 0, 0, 0⟩ W
  rw [show tmP ⟨0, 1, 0, 0⟩ ⟨0, 2, 0, 0⟩ = true from rfl] at T1
  rw [show smP ⟨2, 0, 0, 0, 0⟩ ⟨2, 0, 0, 0, 0, 0, 0⟩ = false from rfl] at S1
  dsimp only at T1 S1
  go_upto_region 8 with fail
  go_wp2_with fail
  refine (T1.out _).mono ?_
  rintro e W6 ⟨rfl, hG⟩
  have HB6 := Lib.hid (HB5.out.trans (hG.below.mono HB5.out.size))
  clear hG T1 HB5
  go_wp2_with fail
  refine (S1.out _).mono ?_
  rintro e W7 ⟨rfl, hG⟩
  have HB7 := Lib.hid (HB6.out.trans (hG.below.mono HB6.out.size))
  clear hG S1 HB6
  go_wp2
  go_ret
  exact ⟨rfl, HB7.out⟩

end Go.Proofs.Ytimmnnadoeagfaa
