/-
  The statements' examples: awake returns true.
-/
import Derived.Test.YtapdheabblgbaaaGreatCkProg
import Derived.Test.YtapdheabblgbaaaGreatCkEq
import Derived.Test.YtapdheabblgbaaaGreatCkXl
import Derived.Deep.RegionHeld3
namespace Go.Proofs.YtapdheabblgbaaaGreat
open Go.RowKit Go.Deep
set_option linter.unusedVariables false
set_option linter.unusedSimpArgs false

def cA : Ct := ⟨0, 1, [⟨[], ⟨3, 0, 0, 0⟩⟩], 0, 1, 0, [⟨[], ⟨3, 0, 0, 0⟩⟩], [[]]⟩
def cD : Ct := ⟨0, 1, [⟨[], ⟨3, 0, 0, 0⟩⟩], 0, 1, 0, [⟨[], ⟨3, 0, 0, 0⟩⟩], [[((0 : Int), (0 : Int))]]⟩
def cZ : Ct := ⟨0, 0, [], 0, 0, 0, [], []⟩
theorem ckExA : checkC cA = ⟨21, 0, 0, 1, 0, 2, 0⟩ := by kernel_rfl
theorem ckExD : checkC cD = ⟨0, 0, 0, 1, 0, 4, 1⟩ := by kernel_rfl
theorem ckExZ : checkC cZ = ⟨14, 0, 0, 0, 0, 0, 0⟩ := by kernel_rfl
theorem ckVA : validC cA = 0 := by kernel_rfl
theorem ckVD : validC cD = 0 := by kernel_rfl
theorem ckVZ : validC cZ = 14 := by kernel_rfl
theorem ckBD : boundC cD 1 = 12 := by kernel_rfl
theorem cksmA : SmC cA := ⟨⟨by decide, by decide, by decide⟩, ⟨by decide, by decide, by decide, by decide⟩, by decide, by decide⟩
theorem cksmD : SmC cD := ⟨⟨by decide, by decide, by decide⟩, ⟨by decide, by decide, by decide, by decide⟩, by decide, by decide⟩
theorem cksmZ : SmC cZ := ⟨⟨by decide, by decide, by decide⟩, ⟨by decide, by decide, by decide, by decide⟩, by decide, by decide⟩

theorem Row.seesA {W : World} {p : Nat} {T : TypeId} {cs : Array Value} {xs : List Value} (h : Row W p T cs) (hx : xs = cs.toList) (hB : p < W.heap.size) : Sees W W.heap.size (some ⟨p, 0, none⟩) xs := fun _ =>
  ⟨p, 0, rfl, hB, fun i u hu => by
    rw [Nat.zero_add, h.cell i]
    subst hx
    simpa using hu⟩
theorem ckblks_one {W : World} {p : Nat} {T : TypeId} {t : Tm} (h : Row W p T #[.slice none 0 0, .int .i64 t.kind, .int .i64 t.a, .int .i64 t.to, .int .i64 t.el]) : BlksAt W W.heap.size (some ⟨p, 0, none⟩) [⟨[], t⟩] := fun _ =>
  ⟨p, 0, rfl, h.lt, fun i x hx => by
    rcases i with _ | i
    · simp only [List.getElem?_cons_zero, Option.some.injEq] at hx
      subst hx
      exact ⟨⟨none, 0, h.cell 0, Nat.le_refl _, Nat.zero_le _, fun hn => absurd rfl hn⟩, h.cell 1, h.cell 2, h.cell 3, h.cell 4⟩
    · simp at hx⟩
theorem ckmblks_one {W : World} {p : Nat} {T : TypeId} {t : Tm} (h : Row W p T #[.slice none 0 0, .int .i64 t.kind, .int .i64 t.a, .int .i64 t.to, .int .i64 t.el]) : MBlksAt W W.heap.size (some ⟨p, 0, none⟩) [⟨[], t⟩] := fun _ =>
  ⟨p, 0, rfl, h.lt, fun i x hx => by
    rcases i with _ | i
    · simp only [List.getElem?_cons_zero, Option.some.injEq] at hx
      subst hx
      exact ⟨⟨none, 0, h.cell 0, Nat.le_refl _, Nat.zero_le _, fun hn => absurd rfl hn⟩, h.cell 1, h.cell 2, h.cell 3, h.cell 4⟩
    · simp at hx⟩

/-- What the walk carries: the two certificates' blocks. -/
structure AwC (w : World) (z : Nat) (W : World) : Prop where
  blw : Below w.heap.size w W
  r1 : Row W (z + 1) 48 #[.slice none 0 0, .int .i64 3, .int .i64 0, .int .i64 0, .int .i64 0]
  r2 : Row W (z + 1 + 1) 56 #[.slice none 0 0, .int .i64 3, .int .i64 0, .int .i64 0, .int .i64 0]
  r3 : Row W (z + 1 + 1 + 1) 59 #[]
  r4 : Row W (z + 1 + 1 + 1 + 1) 50 #[.slice (some ⟨z + 1 + 1 + 1, 0, none⟩) 0 0]
  r5 : Row W (z + 1 + 1 + 1 + 1 + 1) 30 #[.int .i64 0, .int .i64 1, .slice (some ⟨z + 1, 0, none⟩) 1 1, .int .i64 0, .int .i64 1, .int .i64 0, .slice (some ⟨z + 1 + 1, 0, none⟩) 1 1, .slice (some ⟨z + 1 + 1 + 1 + 1, 0, none⟩) 1 1]
  r6 : Row W (z + 1 + 1 + 1 + 1 + 1 + 1) 30 #[.int .i64 0, .int .i64 1, .slice (some ⟨z + 1, 0, none⟩) 1 1, .int .i64 0, .int .i64 1, .int .i64 0, .slice (some ⟨z + 1 + 1, 0, none⟩) 1 1, .slice (some ⟨z + 1 + 1 + 1 + 1 + 1 + 1 + 1 + 1, 0, none⟩) 1 1]
  r7 : Row W (z + 1 + 1 + 1 + 1 + 1 + 1 + 1) 59 #[.int .i64 0, .int .i64 0]
  r8 : Row W (z + 1 + 1 + 1 + 1 + 1 + 1 + 1 + 1) 50 #[.slice (some ⟨z + 1 + 1 + 1 + 1 + 1 + 1 + 1, 0, none⟩) 1 1]
theorem AwC.next {w W W' : World} {z : Nat} (h : AwC w z W) (hb : Below W.heap.size W W') : AwC w z W' :=
  ⟨h.blw.trans (hb.mono h.blw.size), h.r1.below hb h.r1.lt, h.r2.below hb h.r2.lt, h.r3.below hb h.r3.lt, h.r4.below hb h.r4.lt, h.r5.below hb h.r5.lt, h.r6.below hb h.r6.lt, h.r7.below hb h.r7.lt, h.r8.below hb h.r8.lt⟩
theorem AwC.drewN {w W : World} {z : Nat} (h : AwC w z W) (n : Nat) : AwC w z (W.drewN n) := h.next (Grew.drewN (Grew.refl W) n).below
theorem AwC.drew {w W : World} {z : Nat} (h : AwC w z W) : AwC w z W.drew := h.drewN 1
theorem AwC.a {w W : World} {z : Nat} (h : AwC w z W) : CeAt W W.heap.size (some ⟨z + 1, 0, none⟩) 1 (some ⟨z + 1 + 1, 0, none⟩) 1 (some ⟨z + 1 + 1 + 1 + 1, 0, none⟩) 1 cA :=
  ⟨ckblks_one (t := ⟨3, 0, 0, 0⟩) h.r1, ckmblks_one (t := ⟨3, 0, 0, 0⟩) h.r2, ⟨[.slice (some ⟨z + 1 + 1 + 1, 0, none⟩) 0 0], h.r4.seesA rfl h.r4.lt, (CellsP.nil _ _).snoc (x := []) (c := 0) (Nat.le_refl _) (Nat.zero_le _) (h.r3.seesA rfl h.r3.lt)⟩, ⟨Nat.le_refl _, by decide⟩, ⟨Nat.le_refl _, by decide⟩, ⟨Nat.le_refl _, by decide⟩⟩
theorem AwC.d {w W : World} {z : Nat} (h : AwC w z W) : CeAt W W.heap.size (some ⟨z + 1, 0, none⟩) 1 (some ⟨z + 1 + 1, 0, none⟩) 1 (some ⟨z + 1 + 1 + 1 + 1 + 1 + 1 + 1 + 1, 0, none⟩) 1 cD :=
  ⟨ckblks_one (t := ⟨3, 0, 0, 0⟩) h.r1, ckmblks_one (t := ⟨3, 0, 0, 0⟩) h.r2, ⟨[.slice (some ⟨z + 1 + 1 + 1 + 1 + 1 + 1 + 1, 0, none⟩) 1 1], h.r8.seesA rfl h.r8.lt, (CellsP.nil _ _).snoc (x := [((0 : Int), (0 : Int))]) (c := 1) (Nat.le_refl _) (by decide) (h.r7.seesA rfl h.r7.lt)⟩, ⟨Nat.le_refl _, by decide⟩, ⟨Nat.le_refl _, by decide⟩, ⟨Nat.le_refl _, by decide⟩⟩
theorem ceZ (W : World) : CeAt W W.heap.size none 0 none 0 none 0 cZ :=
  ⟨fun hn => absurd rfl hn, fun hn => absurd rfl hn, ⟨[], fun hn => absurd rfl hn, CellsP.nil _ _⟩, ⟨Nat.le_refl _, Nat.zero_le _⟩, ⟨Nat.le_refl _, Nat.zero_le _⟩, ⟨Nat.le_refl _, Nat.zero_le _⟩⟩
theorem wfA : cA.Wf := by
  refine ⟨?_, ?_, ?_, ?_, ?_, fun y hy => ?_, fun y hy => ?_, fun l hl p hp => ?_⟩
  · exact rfl
  · exact rfl
  · exact rfl
  · exact rfl
  · exact rfl
  · simp only [cA, List.mem_singleton] at hy
    subst hy
    exact ⟨fun y hy => by simp at hy, rfl, rfl, rfl, rfl⟩
  · simp only [cA, List.mem_singleton] at hy
    subst hy
    exact ⟨fun y hy => by simp at hy, rfl, rfl, rfl, rfl⟩
  · simp only [cA, List.mem_singleton] at hl
    subst hl
    simp at hp
theorem wfD : cD.Wf := ⟨wfA.sa, wfA.sr, wfA.ta, wfA.tr, wfA.ts, wfA.bs, wfA.ms, fun l hl p hp => by
  simp only [cD, List.mem_singleton] at hl
  subst hl
  simp only [List.mem_singleton] at hp
  subst hp
  exact ⟨rfl, rfl⟩⟩
theorem wfZ : cZ.Wf := ⟨wfA.sa, wfA.sa, wfA.sa, wfA.sa, wfA.sa, fun y hy => by simp [cZ] at hy, fun y hy => by simp [cZ] at hy, fun y hy => by simp [cZ] at hy⟩

set_option maxRecDepth 100000 in
set_option maxHeartbeats 16000000 in
theorem ckawake_any (w : World) : Calls Tryz.prog 9 #[] w fun e w' => e = .returned (.bool true) ∧ Below w.heap.size w w' := by
  have mixed : Tryz.prog.follows .mixedOrders = true := by kernel_rfl
  have hb0 := Below.refl w.heap.size w
  have hb1 := hb0.alloc hb0.size (.cells #[.int .i64 3, .int .i64 0, .int .i64 0, .int .i64 0] 46)
  have hb2 := hb1.alloc hb1.size (.cells #[.slice none 0 0, .int .i64 3, .int .i64 0, .int .i64 0, .int .i64 0] 48)
  have hb3 := hb2.alloc hb2.size (.cells #[.slice none 0 0, .int .i64 3, .int .i64 0, .int .i64 0, .int .i64 0] 56)
  have hb4 := hb3.alloc hb3.size (.cells #[] 59)
  have hb5 := hb4.alloc hb4.size (.cells #[.slice (some ⟨w.heap.size + 1 + 1 + 1, 0, none⟩) 0 0] 50)
  have hb6 := hb5.alloc hb5.size (.cells #[.int .i64 0, .int .i64 1, .slice (some ⟨w.heap.size + 1, 0, none⟩) 1 1, .int .i64 0, .int .i64 1, .int .i64 0, .slice (some ⟨w.heap.size + 1 + 1, 0, none⟩) 1 1, .slice (some ⟨w.heap.size + 1 + 1 + 1 + 1, 0, none⟩) 1 1] 30)
  have hb7 := hb6.alloc hb6.size (.cells #[.int .i64 0, .int .i64 1, .slice (some ⟨w.heap.size + 1, 0, none⟩) 1 1, .int .i64 0, .int .i64 1, .int .i64 0, .slice (some ⟨w.heap.size + 1 + 1, 0, none⟩) 1 1, .slice (some ⟨w.heap.size + 1 + 1 + 1 + 1 + 1 + 1 + 1 + 1, 0, none⟩) 1 1] 30)
  have hb8 := hb7.alloc hb7.size (.cells #[.int .i64 0, .int .i64 0] 59)
  have hb9 := hb8.alloc hb8.size (.cells #[.slice (some ⟨w.heap.size + 1 + 1 + 1 + 1 + 1 + 1 + 1, 0, none⟩) 1 1] 50)
  have HA : Hid (AwC w w.heap.size (((((((((w.alloc (.cells #[.int .i64 3, .int .i64 0, .int .i64 0, .int .i64 0] 46)).alloc (.cells #[.slice none 0 0, .int .i64 3, .int .i64 0, .int .i64 0, .int .i64 0] 48)).alloc (.cells #[.slice none 0 0, .int .i64 3, .int .i64 0, .int .i64 0, .int .i64 0] 56)).alloc (.cells #[] 59)).alloc (.cells #[.slice (some ⟨w.heap.size + 1 + 1 + 1, 0, none⟩) 0 0] 50)).alloc (.cells #[.int .i64 0, .int .i64 1, .slice (some ⟨w.heap.size + 1, 0, none⟩) 1 1, .int .i64 0, .int .i64 1, .int .i64 0, .slice (some ⟨w.heap.size + 1 + 1, 0, none⟩) 1 1, .slice (some ⟨w.heap.size + 1 + 1 + 1 + 1, 0, none⟩) 1 1] 30)).alloc (.cells #[.int .i64 0, .int .i64 1, .slice (some ⟨w.heap.size + 1, 0, none⟩) 1 1, .int .i64 0, .int .i64 1, .int .i64 0, .slice (some ⟨w.heap.size + 1 + 1, 0, none⟩) 1 1, .slice (some ⟨w.heap.size + 1 + 1 + 1 + 1 + 1 + 1 + 1 + 1, 0, none⟩) 1 1] 30)).alloc (.cells #[.int .i64 0, .int .i64 0] 59)).alloc (.cells #[.slice (some ⟨w.heap.size + 1 + 1 + 1 + 1 + 1 + 1 + 1, 0, none⟩) 1 1] 50))) := ⟨hb9, ((((((((Row.new' (W := (w.alloc (.cells #[.int .i64 3, .int .i64 0, .int .i64 0, .int .i64 0] 46))) (p := w.heap.size + 1) (by simp only [World.size_alloc]) 48 #[.slice none 0 0, .int .i64 3, .int .i64 0, .int .i64 0, .int .i64 0]).alloc (.cells #[.slice none 0 0, .int .i64 3, .int .i64 0, .int .i64 0, .int .i64 0] 56)).alloc (.cells #[] 59)).alloc (.cells #[.slice (some ⟨w.heap.size + 1 + 1 + 1, 0, none⟩) 0 0] 50)).alloc (.cells #[.int .i64 0, .int .i64 1, .slice (some ⟨w.heap.size + 1, 0, none⟩) 1 1, .int .i64 0, .int .i64 1, .int .i64 0, .slice (some ⟨w.heap.size + 1 + 1, 0, none⟩) 1 1, .slice (some ⟨w.heap.size + 1 + 1 + 1 + 1, 0, none⟩) 1 1] 30)).alloc (.cells #[.int .i64 0, .int .i64 1, .slice (some ⟨w.heap.size + 1, 0, none⟩) 1 1, .int .i64 0, .int .i64 1, .int .i64 0, .slice (some ⟨w.heap.size + 1 + 1, 0, none⟩) 1 1, .slice (some ⟨w.heap.size + 1 + 1 + 1 + 1 + 1 + 1 + 1 + 1, 0, none⟩) 1 1] 30)).alloc (.cells #[.int .i64 0, .int .i64 0] 59)).alloc (.cells #[.slice (some ⟨w.heap.size + 1 + 1 + 1 + 1 + 1 + 1 + 1, 0, none⟩) 1 1] 50)), (((((((Row.new' (W := ((w.alloc (.cells #[.int .i64 3, .int .i64 0, .int .i64 0, .int .i64 0] 46)).alloc (.cells #[.slice none 0 0, .int .i64 3, .int .i64 0, .int .i64 0, .int .i64 0] 48))) (p := w.heap.size + 1 + 1) (by simp only [World.size_alloc]) 56 #[.slice none 0 0, .int .i64 3, .int .i64 0, .int .i64 0, .int .i64 0]).alloc (.cells #[] 59)).alloc (.cells #[.slice (some ⟨w.heap.size + 1 + 1 + 1, 0, none⟩) 0 0] 50)).alloc (.cells #[.int .i64 0, .int .i64 1, .slice (some ⟨w.heap.size + 1, 0, none⟩) 1 1, .int .i64 0, .int .i64 1, .int .i64 0, .slice (some ⟨w.heap.size + 1 + 1, 0, none⟩) 1 1, .slice (some ⟨w.heap.size + 1 + 1 + 1 + 1, 0, none⟩) 1 1] 30)).alloc (.cells #[.int .i64 0, .int .i64 1, .slice (some ⟨w.heap.size + 1, 0, none⟩) 1 1, .int .i64 0, .int .i64 1, .int .i64 0, .slice (some ⟨w.heap.size + 1 + 1, 0, none⟩) 1 1, .slice (some ⟨w.heap.size + 1 + 1 + 1 + 1 + 1 + 1 + 1 + 1, 0, none⟩) 1 1] 30)).alloc (.cells #[.int .i64 0, .int .i64 0] 59)).alloc (.cells #[.slice (some ⟨w.heap.size + 1 + 1 + 1 + 1 + 1 + 1 + 1, 0, none⟩) 1 1] 50)), ((((((Row.new' (W := (((w.alloc (.cells #[.int .i64 3, .int .i64 0, .int .i64 0, .int .i64 0] 46)).alloc (.cells #[.slice none 0 0, .int .i64 3, .int .i64 0, .int .i64 0, .int .i64 0] 48)).alloc (.cells #[.slice none 0 0, .int .i64 3, .int .i64 0, .int .i64 0, .int .i64 0] 56))) (p := w.heap.size + 1 + 1 + 1) (by simp only [World.size_alloc]) 59 #[]).alloc (.cells #[.slice (some ⟨w.heap.size + 1 + 1 + 1, 0, none⟩) 0 0] 50)).alloc (.cells #[.int .i64 0, .int .i64 1, .slice (some ⟨w.heap.size + 1, 0, none⟩) 1 1, .int .i64 0, .int .i64 1, .int .i64 0, .slice (some ⟨w.heap.size + 1 + 1, 0, none⟩) 1 1, .slice (some ⟨w.heap.size + 1 + 1 + 1 + 1, 0, none⟩) 1 1] 30)).alloc (.cells #[.int .i64 0, .int .i64 1, .slice (some ⟨w.heap.size + 1, 0, none⟩) 1 1, .int .i64 0, .int .i64 1, .int .i64 0, .slice (some ⟨w.heap.size + 1 + 1, 0, none⟩) 1 1, .slice (some ⟨w.heap.size + 1 + 1 + 1 + 1 + 1 + 1 + 1 + 1, 0, none⟩) 1 1] 30)).alloc (.cells #[.int .i64 0, .int .i64 0] 59)).alloc (.cells #[.slice (some ⟨w.heap.size + 1 + 1 + 1 + 1 + 1 + 1 + 1, 0, none⟩) 1 1] 50)), (((((Row.new' (W := ((((w.alloc (.cells #[.int .i64 3, .int .i64 0, .int .i64 0, .int .i64 0] 46)).alloc (.cells #[.slice none 0 0, .int .i64 3, .int .i64 0, .int .i64 0, .int .i64 0] 48)).alloc (.cells #[.slice none 0 0, .int .i64 3, .int .i64 0, .int .i64 0, .int .i64 0] 56)).alloc (.cells #[] 59))) (p := w.heap.size + 1 + 1 + 1 + 1) (by simp only [World.size_alloc]) 50 #[.slice (some ⟨w.heap.size + 1 + 1 + 1, 0, none⟩) 0 0]).alloc (.cells #[.int .i64 0, .int .i64 1, .slice (some ⟨w.heap.size + 1, 0, none⟩) 1 1, .int .i64 0, .int .i64 1, .int .i64 0, .slice (some ⟨w.heap.size + 1 + 1, 0, none⟩) 1 1, .slice (some ⟨w.heap.size + 1 + 1 + 1 + 1, 0, none⟩) 1 1] 30)).alloc (.cells #[.int .i64 0, .int .i64 1, .slice (some ⟨w.heap.size + 1, 0, none⟩) 1 1, .int .i64 0, .int .i64 1, .int .i64 0, .slice (some ⟨w.heap.size + 1 + 1, 0, none⟩) 1 1, .slice (some ⟨w.heap.size + 1 + 1 + 1 + 1 + 1 + 1 + 1 + 1, 0, none⟩) 1 1] 30)).alloc (.cells #[.int .i64 0, .int .i64 0] 59)).alloc (.cells #[.slice (some ⟨w.heap.size + 1 + 1 + 1 + 1 + 1 + 1 + 1, 0, none⟩) 1 1] 50)), ((((Row.new' (W := (((((w.alloc (.cells #[.int .i64 3, .int .i64 0, .int .i64 0, .int .i64 0] 46)).alloc (.cells #[.slice none 0 0, .int .i64 3, .int .i64 0, .int .i64 0, .int .i64 0] 48)).alloc (.cells #[.slice none 0 0, .int .i64 3, .int .i64 0, .int .i64 0, .int .i64 0] 56)).alloc (.cells #[] 59)).alloc (.cells #[.slice (some ⟨w.heap.size + 1 + 1 + 1, 0, none⟩) 0 0] 50))) (p := w.heap.size + 1 + 1 + 1 + 1 + 1) (by simp only [World.size_alloc]) 30 #[.int .i64 0, .int .i64 1, .slice (some ⟨w.heap.size + 1, 0, none⟩) 1 1, .int .i64 0, .int .i64 1, .int .i64 0, .slice (some ⟨w.heap.size + 1 + 1, 0, none⟩) 1 1, .slice (some ⟨w.heap.size + 1 + 1 + 1 + 1, 0, none⟩) 1 1]).alloc (.cells #[.int .i64 0, .int .i64 1, .slice (some ⟨w.heap.size + 1, 0, none⟩) 1 1, .int .i64 0, .int .i64 1, .int .i64 0, .slice (some ⟨w.heap.size + 1 + 1, 0, none⟩) 1 1, .slice (some ⟨w.heap.size + 1 + 1 + 1 + 1 + 1 + 1 + 1 + 1, 0, none⟩) 1 1] 30)).alloc (.cells #[.int .i64 0, .int .i64 0] 59)).alloc (.cells #[.slice (some ⟨w.heap.size + 1 + 1 + 1 + 1 + 1 + 1 + 1, 0, none⟩) 1 1] 50)), (((Row.new' (W := ((((((w.alloc (.cells #[.int .i64 3, .int .i64 0, .int .i64 0, .int .i64 0] 46)).alloc (.cells #[.slice none 0 0, .int .i64 3, .int .i64 0, .int .i64 0, .int .i64 0] 48)).alloc (.cells #[.slice none 0 0, .int .i64 3, .int .i64 0, .int .i64 0, .int .i64 0] 56)).alloc (.cells #[] 59)).alloc (.cells #[.slice (some ⟨w.heap.size + 1 + 1 + 1, 0, none⟩) 0 0] 50)).alloc (.cells #[.int .i64 0, .int .i64 1, .slice (some ⟨w.heap.size + 1, 0, none⟩) 1 1, .int .i64 0, .int .i64 1, .int .i64 0, .slice (some ⟨w.heap.size + 1 + 1, 0, none⟩) 1 1, .slice (some ⟨w.heap.size + 1 + 1 + 1 + 1, 0, none⟩) 1 1] 30))) (p := w.heap.size + 1 + 1 + 1 + 1 + 1 + 1) (by simp only [World.size_alloc]) 30 #[.int .i64 0, .int .i64 1, .slice (some ⟨w.heap.size + 1, 0, none⟩) 1 1, .int .i64 0, .int .i64 1, .int .i64 0, .slice (some ⟨w.heap.size + 1 + 1, 0, none⟩) 1 1, .slice (some ⟨w.heap.size + 1 + 1 + 1 + 1 + 1 + 1 + 1 + 1, 0, none⟩) 1 1]).alloc (.cells #[.int .i64 0, .int .i64 0] 59)).alloc (.cells #[.slice (some ⟨w.heap.size + 1 + 1 + 1 + 1 + 1 + 1 + 1, 0, none⟩) 1 1] 50)), ((Row.new' (W := (((((((w.alloc (.cells #[.int .i64 3, .int .i64 0, .int .i64 0, .int .i64 0] 46)).alloc (.cells #[.slice none 0 0, .int .i64 3, .int .i64 0, .int .i64 0, .int .i64 0] 48)).alloc (.cells #[.slice none 0 0, .int .i64 3, .int .i64 0, .int .i64 0, .int .i64 0] 56)).alloc (.cells #[] 59)).alloc (.cells #[.slice (some ⟨w.heap.size + 1 + 1 + 1, 0, none⟩) 0 0] 50)).alloc (.cells #[.int .i64 0, .int .i64 1, .slice (some ⟨w.heap.size + 1, 0, none⟩) 1 1, .int .i64 0, .int .i64 1, .int .i64 0, .slice (some ⟨w.heap.size + 1 + 1, 0, none⟩) 1 1, .slice (some ⟨w.heap.size + 1 + 1 + 1 + 1, 0, none⟩) 1 1] 30)).alloc (.cells #[.int .i64 0, .int .i64 1, .slice (some ⟨w.heap.size + 1, 0, none⟩) 1 1, .int .i64 0, .int .i64 1, .int .i64 0, .slice (some ⟨w.heap.size + 1 + 1, 0, none⟩) 1 1, .slice (some ⟨w.heap.size + 1 + 1 + 1 + 1 + 1 + 1 + 1 + 1, 0, none⟩) 1 1] 30))) (p := w.heap.size + 1 + 1 + 1 + 1 + 1 + 1 + 1) (by simp only [World.size_alloc]) 59 #[.int .i64 0, .int .i64 0]).alloc (.cells #[.slice (some ⟨w.heap.size + 1 + 1 + 1 + 1 + 1 + 1 + 1, 0, none⟩) 1 1] 50)), (Row.new' (W := ((((((((w.alloc (.cells #[.int .i64 3, .int .i64 0, .int .i64 0, .int .i64 0] 46)).alloc (.cells #[.slice none 0 0, .int .i64 3, .int .i64 0, .int .i64 0, .int .i64 0] 48)).alloc (.cells #[.slice none 0 0, .int .i64 3, .int .i64 0, .int .i64 0, .int .i64 0] 56)).alloc (.cells #[] 59)).alloc (.cells #[.slice (some ⟨w.heap.size + 1 + 1 + 1, 0, none⟩) 0 0] 50)).alloc (.cells #[.int .i64 0, .int .i64 1, .slice (some ⟨w.heap.size + 1, 0, none⟩) 1 1, .int .i64 0, .int .i64 1, .int .i64 0, .slice (some ⟨w.heap.size + 1 + 1, 0, none⟩) 1 1, .slice (some ⟨w.heap.size + 1 + 1 + 1 + 1, 0, none⟩) 1 1] 30)).alloc (.cells #[.int .i64 0, .int .i64 1, .slice (some ⟨w.heap.size + 1, 0, none⟩) 1 1, .int .i64 0, .int .i64 1, .int .i64 0, .slice (some ⟨w.heap.size + 1 + 1, 0, none⟩) 1 1, .slice (some ⟨w.heap.size + 1 + 1 + 1 + 1 + 1 + 1 + 1 + 1, 0, none⟩) 1 1] 30)).alloc (.cells #[.int .i64 0, .int .i64 0] 59))) (p := w.heap.size + 1 + 1 + 1 + 1 + 1 + 1 + 1 + 1) (by simp only [World.size_alloc]) 50 #[.slice (some ⟨w.heap.size + 1 + 1 + 1 + 1 + 1 + 1 + 1, 0, none⟩) 1 1])⟩
  clear hb0 hb1 hb2 hb3 hb4 hb5 hb6 hb7 hb8 hb9
  go_enter Tryz.func9, Tryz.ntmps9
  go_upto_region 5 with fail
  generalize (((((((((w.alloc (.cells #[.int .i64 3, .int .i64 0, .int .i64 0, .int .i64 0] 46)).alloc (.cells #[.slice none 0 0, .int .i64 3, .int .i64 0, .int .i64 0, .int .i64 0] 48)).alloc (.cells #[.slice none 0 0, .int .i64 3, .int .i64 0, .int .i64 0, .int .i64 0] 56)).alloc (.cells #[] 59)).alloc (.cells #[.slice (some ⟨w.heap.size + 1 + 1 + 1, 0, none⟩) 0 0] 50)).alloc (.cells #[.int .i64 0, .int .i64 1, .slice (some ⟨w.heap.size + 1, 0, none⟩) 1 1, .int .i64 0, .int .i64 1, .int .i64 0, .slice (some ⟨w.heap.size + 1 + 1, 0, none⟩) 1 1, .slice (some ⟨w.heap.size + 1 + 1 + 1 + 1, 0, none⟩) 1 1] 30)).alloc (.cells #[.int .i64 0, .int .i64 1, .slice (some ⟨w.heap.size + 1, 0, none⟩) 1 1, .int .i64 0, .int .i64 1, .int .i64 0, .slice (some ⟨w.heap.size + 1 + 1, 0, none⟩) 1 1, .slice (some ⟨w.heap.size + 1 + 1 + 1 + 1 + 1 + 1 + 1 + 1, 0, none⟩) 1 1] 30)).alloc (.cells #[.int .i64 0, .int .i64 0] 59)).alloc (.cells #[.slice (some ⟨w.heap.size + 1 + 1 + 1 + 1 + 1 + 1 + 1, 0, none⟩) 1 1] 50)) = W4 at *
  generalize hzz : w.heap.size = z at *
  have c0 := HA.out.r5.cell 0; have c1 := HA.out.r5.cell 1; have c2 := HA.out.r5.cell 2; have c3 := HA.out.r5.cell 3; have c4 := HA.out.r5.cell 4; have c5 := HA.out.r5.cell 5; have c6 := HA.out.r5.cell 6; have c7 := HA.out.r5.cell 7
  simp only [List.getElem?_toArray, List.getElem?_cons_zero, List.getElem?_cons_succ] at c0 c1 c2 c3 c4 c5 c6 c7
  have C1 : Hid (∀ W, AwC w z W → Calls Tryz.prog 13 #[.agg #[.int .i64 0, .int .i64 1, .slice (some ⟨z + 1, 0, none⟩) 1 1, .int .i64 0, .int .i64 1, .int .i64 0, .slice (some ⟨z + 1 + 1, 0, none⟩) 1 1, .slice (some ⟨z + 1 + 1 + 1 + 1, 0, none⟩) 1 1]] W fun e w' => e = .returned (.agg #[.int .i64 21, .int .i64 0, .int .i64 0, .int .i64 1, .int .i64 0, .int .i64 2, .int .i64 0]) ∧ Below W.heap.size W w') := fun W h => by
    have q := pckcheck_any W h.a cksmA wfA
    rw [ckExA] at q
    exact q
  have C2 : Hid (∀ W, AwC w z W → Calls Tryz.prog 13 #[.agg #[.int .i64 0, .int .i64 1, .slice (some ⟨z + 1, 0, none⟩) 1 1, .int .i64 0, .int .i64 1, .int .i64 0, .slice (some ⟨z + 1 + 1, 0, none⟩) 1 1, .slice (some ⟨z + 1 + 1 + 1 + 1 + 1 + 1 + 1 + 1, 0, none⟩) 1 1]] W fun e w' => e = .returned (.agg #[.int .i64 0, .int .i64 0, .int .i64 0, .int .i64 1, .int .i64 0, .int .i64 4, .int .i64 1]) ∧ Below W.heap.size W w') := fun W h => by
    have q := pckcheck_any W h.d cksmD wfD
    rw [ckExD] at q
    exact q
  have C3 : Hid (∀ W, AwC w z W → Calls Tryz.prog 11 #[.agg #[.int .i64 0, .int .i64 1, .slice (some ⟨z + 1, 0, none⟩) 1 1, .int .i64 0, .int .i64 1, .int .i64 0, .slice (some ⟨z + 1 + 1, 0, none⟩) 1 1, .slice (some ⟨z + 1 + 1 + 1 + 1, 0, none⟩) 1 1]] W fun e w' => e = .returned (.int .i64 0) ∧ Below W.heap.size W w') := fun W h => by
    have q := pckvalid_any W h.a cksmA wfA
    rw [ckVA] at q
    exact q
  have C4 : Hid (∀ W, AwC w z W → Calls Tryz.prog 11 #[.agg #[.int .i64 0, .int .i64 0, .slice none 0 0, .int .i64 0, .int .i64 0, .int .i64 0, .slice none 0 0, .slice none 0 0]] W fun e w' => e = .returned (.int .i64 14) ∧ Below W.heap.size W w') := fun W h => by
    have q := pckvalid_any W (ceZ W) cksmZ wfZ
    rw [ckVZ] at q
    exact q
  have C5 : Hid (∀ W, AwC w z W → Calls Tryz.prog 17 #[.agg #[.int .i64 0, .int .i64 1, .slice (some ⟨z + 1, 0, none⟩) 1 1, .int .i64 0, .int .i64 1, .int .i64 0, .slice (some ⟨z + 1 + 1, 0, none⟩) 1 1, .slice (some ⟨z + 1 + 1 + 1 + 1 + 1 + 1 + 1 + 1, 0, none⟩) 1 1], .int .i64 1] W fun e w' => e = .returned (.int .i64 12) ∧ Below W.heap.size W w') := fun W h => by
    have q := pbound_any W h.d cksmD wfD ckVD 1 (by decide)
    rw [ckBD] at q
    exact q
  have C6 : Hid (∀ W, AwC w z W → Calls Tryz.prog 13 #[.agg #[.int .i64 0, .int .i64 0, .slice none 0 0, .int .i64 0, .int .i64 0, .int .i64 0, .slice none 0 0, .slice none 0 0]] W fun e w' => e = .returned (.agg #[.int .i64 14, .int .i64 0, .int .i64 0, .int .i64 0, .int .i64 0, .int .i64 0, .int .i64 0]) ∧ Below W.heap.size W w') := fun W h => by
    have q := pckcheck_any W (ceZ W) cksmZ wfZ
    rw [ckExZ] at q
    exact q
  have hq1 : ∀ W, (binOp .eql 37 (.agg #[.int .i64 21, .int .i64 0, .int .i64 0, .int .i64 1, .int .i64 0, .int .i64 2, .int .i64 0]) (.agg #[.int .i64 21, .int .i64 0, .int .i64 0, .int .i64 1, .int .i64 0, .int .i64 2, .int .i64 0])).run Tryz.prog W = .ok (.bool true) W := fun W => by
    have q := eq_rp ⟨21, 0, 0, 1, 0, 2, 0⟩ ⟨21, 0, 0, 1, 0, 2, 0⟩ W
    rw [rpS_refl] at q
    exact q
  have hq2 : ∀ W, (binOp .eql 37 (.agg #[.int .i64 0, .int .i64 0, .int .i64 0, .int .i64 1, .int .i64 0, .int .i64 4, .int .i64 1]) (.agg #[.int .i64 0, .int .i64 0, .int .i64 0, .int .i64 1, .int .i64 0, .int .i64 4, .int .i64 1])).run Tryz.prog W = .ok (.bool true) W := fun W => by
    have q := eq_rp ⟨0, 0, 0, 1, 0, 4, 1⟩ ⟨0, 0, 0, 1, 0, 4, 1⟩ W
    rw [rpS_refl] at q
    exact q
  have hq3 : ∀ W, (binOp .eql 37 (.agg #[.int .i64 14, .int .i64 0, .int .i64 0, .int .i64 0, .int .i64 0, .int .i64 0, .int .i64 0]) (.agg #[.int .i64 14, .int .i64 0, .int .i64 0, .int .i64 0, .int .i64 0, .int .i64 0, .int .i64 0])).run Tryz.prog W = .ok (.bool true) W := fun W => by
    have q := eq_rp ⟨14, 0, 0, 0, 0, 0, 0⟩ ⟨14, 0, 0, 0, 0, 0, 0⟩ W
    rw [rpS_refl] at q
    exact q
  go_wp2_with fail
  refine (C1.out W4 HA.out).mono ?_
  rintro e W5 ⟨rfl, hb⟩
  have hba := (Below.refl W5.heap.size W5).alloc (Nat.le_refl _) (.cells #[.int .i64 21, .int .i64 0, .int .i64 0, .int .i64 1, .int .i64 0, .int .i64 2, .int .i64 0] 37)
  have HA6 := Lib.hid ((HA.out.next hb).next hba)
  have HR6 := Lib.hid (Row.new W5 37 #[.int .i64 21, .int .i64 0, .int .i64 0, .int .i64 1, .int .i64 0, .int .i64 2, .int .i64 0])
  clear hb hba HA C1 c0 c1 c2 c3 c4 c5 c6 c7
  go_upto_region 6 with fail
  generalize W5.alloc (.cells #[.int .i64 21, .int .i64 0, .int .i64 0, .int .i64 1, .int .i64 0, .int .i64 2, .int .i64 0] 37) = W6 at *
  generalize W5.heap.size = p1 at *
  have c0 := HA6.out.r6.cell 0; have c1 := HA6.out.r6.cell 1; have c2 := HA6.out.r6.cell 2; have c3 := HA6.out.r6.cell 3; have c4 := HA6.out.r6.cell 4; have c5 := HA6.out.r6.cell 5; have c6 := HA6.out.r6.cell 6; have c7 := HA6.out.r6.cell 7
  simp only [List.getElem?_toArray, List.getElem?_cons_zero, List.getElem?_cons_succ] at c0 c1 c2 c3 c4 c5 c6 c7
  go_wp2_with fail
  refine (C2.out W6 HA6.out).mono ?_
  rintro e W7 ⟨rfl, hb⟩
  have hba := (Below.refl W7.heap.size W7).alloc (Nat.le_refl _) (.cells #[.int .i64 0, .int .i64 0, .int .i64 0, .int .i64 1, .int .i64 0, .int .i64 4, .int .i64 1] 37)
  have HA8 := Lib.hid ((HA6.out.next hb).next hba)
  have HR8 := Lib.hid ((HR6.out.below hb HR6.out.lt).below hba (Nat.lt_of_lt_of_le HR6.out.lt hb.size))
  have HS8 := Lib.hid (Row.new W7 37 #[.int .i64 0, .int .i64 0, .int .i64 0, .int .i64 1, .int .i64 0, .int .i64 4, .int .i64 1])
  clear hb hba HA6 HR6 C2 c0 c1 c2 c3 c4 c5 c6 c7
  go_upto_region 7 with fail
  generalize W7.alloc (.cells #[.int .i64 0, .int .i64 0, .int .i64 0, .int .i64 1, .int .i64 0, .int .i64 4, .int .i64 1] 37) = W8 at *
  generalize W7.heap.size = p2 at *
  have c0 := HA8.out.r5.cell 0; have c1 := HA8.out.r5.cell 1; have c2 := HA8.out.r5.cell 2; have c3 := HA8.out.r5.cell 3; have c4 := HA8.out.r5.cell 4; have c5 := HA8.out.r5.cell 5; have c6 := HA8.out.r5.cell 6; have c7 := HA8.out.r5.cell 7
  simp only [List.getElem?_toArray, List.getElem?_cons_zero, List.getElem?_cons_succ] at c0 c1 c2 c3 c4 c5 c6 c7
  have r0 := HR8.out.cell 0; have r1 := HR8.out.cell 1; have r2 := HR8.out.cell 2; have r3 := HR8.out.cell 3; have r4 := HR8.out.cell 4; have r5 := HR8.out.cell 5; have r6 := HR8.out.cell 6
  simp only [List.getElem?_toArray, List.getElem?_cons_zero, List.getElem?_cons_succ] at r0 r1 r2 r3 r4 r5 r6
  have s0 := HS8.out.cell 0; have s1 := HS8.out.cell 1; have s2 := HS8.out.cell 2; have s3 := HS8.out.cell 3; have s4 := HS8.out.cell 4; have s5 := HS8.out.cell 5; have s6 := HS8.out.cell 6
  simp only [List.getElem?_toArray, List.getElem?_cons_zero, List.getElem?_cons_succ] at s0 s1 s2 s3 s4 s5 s6
  go_wp2_with fail
  refine (C3.out W8 HA8.out).mono ?_
  rintro e W9 ⟨rfl, hb⟩
  have HA9 := Lib.hid (HA8.out.next hb)
  clear hb HA8 HR8 HS8 C3 c0 c1 c2 c3 c4 c5 c6 c7 r0 r1 r2 r3 r4 r5 r6 s0 s1 s2 s3 s4 s5 s6
  go_wp2_with fail
  refine (C4.out W9 HA9.out).mono ?_
  rintro e W10 ⟨rfl, hb⟩
  have HA10 := Lib.hid (HA9.out.next hb)
  clear hb HA9 C4
  have c0 := HA10.out.r6.cell 0; have c1 := HA10.out.r6.cell 1; have c2 := HA10.out.r6.cell 2; have c3 := HA10.out.r6.cell 3; have c4 := HA10.out.r6.cell 4; have c5 := HA10.out.r6.cell 5; have c6 := HA10.out.r6.cell 6; have c7 := HA10.out.r6.cell 7
  simp only [List.getElem?_toArray, List.getElem?_cons_zero, List.getElem?_cons_succ] at c0 c1 c2 c3 c4 c5 c6 c7
  go_wp2_with fail
  refine (C5.out W10 HA10.out).mono ?_
  rintro e W11 ⟨rfl, hb⟩
  have HA11 := Lib.hid (HA10.out.next hb)
  clear hb HA10 C5 c0 c1 c2 c3 c4 c5 c6 c7
  go_wp2_with fail
  refine (C6.out W11 HA11.out).mono ?_
  rintro e W12 ⟨rfl, hb⟩
  have HA12 := Lib.hid (HA11.out.next hb)
  clear hb HA11 C6
  go_wp2
  go_ret
  subst hzz
  exact ⟨rfl, HA12.out.blw⟩
end Go.Proofs.YtapdheabblgbaaaGreat
