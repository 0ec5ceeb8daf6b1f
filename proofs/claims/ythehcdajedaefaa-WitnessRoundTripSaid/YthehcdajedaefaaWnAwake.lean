/-
  The fixed examples that every statement of layer 19 checks first: they come out true, and nothing that was there turns.
-/
import Derived.Test.YthehcdajedaefaaWnProg
import Derived.Test.YthehcdajedaefaaSmPp
import Derived.Test.YthehcdajedaefaaPk6
namespace Go.Proofs.Ythehcdajedaefaa
open Go.RowKit
set_option linter.unusedVariables false

/-- The document's example. -/
def wnEx : List (List Pr) := [[(0, 1), (0, 3), (2, 0)]]

theorem wnEx_enc : encW19 wnEx = [3, 0, 1, 0, 1, 2, 0] := by decide

theorem wnEx_pp : ∀ x ∈ wnEx, PP19 true (0, 0) x := vlsE_pp (vr := 3) (r := 1) (n := 2) (by decide) (by decide) (by decide) wnEx (by decide)

theorem row_sees19 {W : World} {p q : Nat} {T : TypeId} {cs : Array Value} {xs : List Value} (h : Row W p T cs) (hp : p < q) (hx : xs = cs.toList) : Sees W q (some ⟨p, 0, none⟩) xs := fun _ => by
  subst hx
  refine ⟨p, 0, rfl, hp, fun i u hu => ?_⟩
  have := h.cell i
  rw [Nat.zero_add, this]
  simpa using hu

theorem wnEx_at {W : World} {p p' q : Nat} {T T' : TypeId} (h : Row W p T #[.int .i64 0, .int .i64 1, .int .i64 0, .int .i64 3, .int .i64 2, .int .i64 0]) (h' : Row W p' T' #[.slice (some ⟨p, 0, none⟩) 3 3]) (hp : p < q) (hp' : p' < q) : SeesPP W q (some ⟨p', 0, none⟩) wnEx := by
  refine ⟨[.slice (some ⟨p, 0, none⟩) 3 3], row_sees19 h' hp' rfl, rfl, fun i x hx => ?_⟩
  have hi : i = 0 := by
    have := (List.getElem?_eq_some_iff.1 hx).1
    have h1 : wnEx.length = 1 := rfl
    omega
  subst hi
  have hx' : some [(0, 1), (0, 3), (2, 0)] = some x := hx
  injection hx' with hx'
  subst hx'
  exact ⟨some ⟨p, 0, none⟩, 3, rfl, by decide, by decide, row_sees19 h hp rfl⟩

theorem wnEx_read : getE19 3 1 2 1 ⟨[3, 0, 1, 0, 1, 2, 0], 0⟩ = (wnEx, ⟨[], 0⟩) := by
  have := getE19_put (vr := 3) (r := 1) (n := 2) (by decide) (by decide) (by decide) (w := wnEx) (by decide) (by decide) []
  rw [wnEx_enc] at this
  exact this

theorem wnNo_read : (getE19 3 1 2 1 ⟨[1, 3, 0], 0⟩).1 = [] ∧ (getE19 3 1 2 1 ⟨[1, 3, 0], 0⟩).2.err = 9 := by
  constructor <;> rfl

set_option maxRecDepth 100000 in
set_option maxHeartbeats 1600000 in
theorem awake19_any (w : World) : Calls Try.prog 7 #[] w fun e w' => e = .returned (.bool true) ∧ Below w.heap.size w w' := by
  go_enter Try.func7, Try.ntmps7
  go_upto_region 3 with fail
  have HM0 := Lib.hid ((((Mods.refl (From w.heap.size) w).alloc (.cells #[.int .i64 0, .int .i64 1, .int .i64 0, .int .i64 3, .int .i64 2, .int .i64 0] 52)).alloc (.cells #[.slice (some ⟨w.heap.size, 0, none⟩) 3 3] 53)).alloc (.cells #[.slice none 0 0] 42))
  have hw0 := Wri.new ((w.alloc (.cells #[.int .i64 0, .int .i64 1, .int .i64 0, .int .i64 3, .int .i64 2, .int .i64 0] 52)).alloc (.cells #[.slice (some ⟨w.heap.size, 0, none⟩) 3 3] 53))
  simp only [World.size_alloc] at hw0
  have HW0 := Lib.hid hw0
  have HR0 := Lib.hid (((Row.new w 52 #[.int .i64 0, .int .i64 1, .int .i64 0, .int .i64 3, .int .i64 2, .int .i64 0]).alloc (.cells #[.slice (some ⟨w.heap.size, 0, none⟩) 3 3] 53)).alloc (.cells #[.slice none 0 0] 42))
  have HF0 := Lib.hid ((Row.new' (W := w.alloc (.cells #[.int .i64 0, .int .i64 1, .int .i64 0, .int .i64 3, .int .i64 2, .int .i64 0] 52)) (p := w.heap.size + 1) (by simp) 53 #[.slice (some ⟨w.heap.size, 0, none⟩) 3 3]).alloc (.cells #[.slice none 0 0] 42))
  have HZ0 : Hid (w.heap.size + 1 + 1 + 1 ≤ (((w.alloc (.cells #[.int .i64 0, .int .i64 1, .int .i64 0, .int .i64 3, .int .i64 2, .int .i64 0] 52)).alloc (.cells #[.slice (some ⟨w.heap.size, 0, none⟩) 3 3] 53)).alloc (.cells #[.slice none 0 0] 42)).heap.size) := by show _ ≤ _; simp
  clear hw0
  generalize (((w.alloc (.cells #[.int .i64 0, .int .i64 1, .int .i64 0, .int .i64 3, .int .i64 2, .int .i64 0] 52)).alloc (.cells #[.slice (some ⟨w.heap.size, 0, none⟩) 3 3] 53)).alloc (.cells #[.slice none 0 0] 42)) = W0 at *
  have C : Hid (Calls Try.prog 16 #[.pointer (some ⟨w.heap.size + 1 + 1, 0, none⟩), .slice (some ⟨w.heap.size + 1, 0, none⟩) 1 1] W0 (Wrote W0 (w.heap.size + 1 + 1) [3, 0, 1, 0, 1, 2, 0])) := by
    have := pput19_any HW0.out (by decide) HZ0.out (xs := wnEx) (c := 1) (wnEx_at HR0.out HF0.out (by omega) (by omega)) (by decide) (by decide) (by decide) wnEx_pp
    rw [wnEx_enc] at this
    exact this
  go_wp2_with fail
  refine C.out.mono ?_
  rintro e W1 ⟨rfl, ⟨v1, hw1⟩, hm1⟩
  have HW1 := Lib.hid hw1
  have HM1 := Lib.hid (HM0.out.then hm1 (fun k hk => by unfold From at *; omega))
  have HR1 := Lib.hid (HR0.out.mods hm1 (by unfold From; omega))
  have HF1 := Lib.hid (HF0.out.mods hm1 (by unfold From; omega))
  clear hw1 hm1 C HM0 HW0 HR0 HF0 HZ0
  go_wp2_with fail
  refine (new_lit [3, 0, 1, 0, 1, 2, 0] _ _ _ W1 _ rfl rfl rfl (by decide) (by decide)).mono ?_
  rintro e W2 ⟨p, A, c, rfl, hp, hc, hm2⟩
  have HW2 := Lib.hid (HW1.out.mods hm2 fun _ h => h.elim)
  have HM2 := Lib.hid (HM1.out.then hm2 fun k h => h.elim)
  have HR2 := Lib.hid (HR1.out.mods hm2 fun h => h.elim)
  have HF2 := Lib.hid (HF1.out.mods hm2 fun h => h.elim)
  have HC2 := Lib.hid hc
  have HP := Lib.hid hp
  have HZ1 : Hid (w.heap.size + 1 + 1 < W1.heap.size) := HW1.out.row.lt
  clear hc hp hm2 HW1 HM1 HR1 HF1
  go_wp2_with fail
  refine (new_lit [1, 3, 0] _ _ _ W2 _ rfl rfl rfl (by decide) (by decide)).mono ?_
  rintro e W3 ⟨p2, A2, c2, rfl, hp2, hc2, hm3⟩
  have HW3 := Lib.hid (HW2.out.mods hm3 fun _ h => h.elim)
  have HM3 := Lib.hid (HM2.out.then hm3 fun k h => h.elim)
  have HR3 := Lib.hid (HR2.out.mods hm3 fun h => h.elim)
  have HF3 := Lib.hid (HF2.out.mods hm3 fun h => h.elim)
  have HC3 := Lib.hid (HC2.out.mods hm3 fun _ h => h.elim)
  have HD3 := Lib.hid hc2
  have HPW := Lib.hid HC2.out.row.lt
  have HP2 : Hid (p < p2) := by have := HC2.out.row.lt; show p < p2; omega
  clear hc2 hp2 hm3 HW2 HM2 HR2 HF2 HC2
  have C4 := Lib.hid (pget19_any HC3.out (m := 1) (vr := 3) (r := 1) (n := 2) (by decide) (by decide) (by decide) (by decide) (by decide) (xs := wnEx) (t := ⟨[], 0⟩) wnEx_read)
  go_wp2_with fail
  refine C4.out.mono ?_
  rintro e W4 ⟨vg, vs, rfl, hn, hm4, i4, hc4, hd4⟩
  obtain ⟨Ag, cg, rfl, hg1, hg2, hbg⟩ := nest_pp hn
  have HW4 := Lib.hid (HW3.out.mods hm4 fun k hk => by unfold Is at hk; have := HP.out; omega)
  have HM4 := Lib.hid (HM3.out.then hm4 fun k hk => by unfold Is at hk; unfold From; have := HP.out; have := HZ1.out; omega)
  have HR4 := Lib.hid (HR3.out.mods hm4 fun h => by unfold Is at h; have := HP.out; have := HZ1.out; omega)
  have HF4 := Lib.hid (HF3.out.mods hm4 fun h => by unfold Is at h; have := HP.out; have := HZ1.out; omega)
  have HC4 := Lib.hid hc4
  have HD4 := Lib.hid (HD3.out.mods hm4 fun k hk => by unfold Is at hk; have := HPW.out; omega)
  have HN4 := Lib.hid hn
  have HQ4 : Hid (W3.heap.size ≤ W4.heap.size) := hm4.size
  have HP3 := Lib.hid HD3.out.row.lt
  have HL : Hid (i4 = 7) := by
    show _ = _
    have h := congrArg List.length (hd4 rfl)
    rw [List.length_drop] at h
    have := hc4.le
    simp only [List.length_cons, List.length_nil] at h this
    omega
  clear hn hm4 hc4 hd4 hbg C4 HW3 HM3 HR3 HF3 HC3 HD3
  have C5 : Hid (Calls Try.prog 9 #[.pointer (some ⟨p2, 0, none⟩), .int .i64 1, .int .i64 3, .int .i64 1, .int .i64 2] W4 fun e W' => ∃ A5 c5 i5, e = .returned (.slice A5 0 c5) ∧ Mods (Is p2) W4 W' ∧ Cur W' (W2.heap.size + 1) p2 [1, 3, 0] i5 9 A2 c2) :=
    (pget19_any HD4.out (m := 1) (vr := 3) (r := 1) (n := 2) (by decide) (by decide) (by decide) (by decide) (by decide) (xs := []) (t := (getE19 3 1 2 1 ⟨[1, 3, 0], 0⟩).2) (by rw [← wnNo_read.1]; rfl)).mono (by
      rintro e W' ⟨v, vs, rfl, hn, hm, i', hc, _⟩
      obtain ⟨A5, c5, rfl, _, _, _⟩ := nest_pp hn
      rw [wnNo_read.2] at hc
      exact ⟨A5, c5, i', rfl, hm, hc⟩)
  go_wp2_with fail
  refine C5.out.mono ?_
  rintro e W5 ⟨A5, c5, i5, rfl, hm5, hc5⟩
  clear C5
  have HW5 := Lib.hid (HW4.out.mods hm5 fun k hk => by unfold Is at hk; have := HP.out; have := HP2.out; omega)
  have HM5 := Lib.hid (HM4.out.then hm5 fun k hk => by unfold Is at hk; unfold From; have := HP.out; have := HP2.out; have := HZ1.out; omega)
  have HR5 := Lib.hid (HR4.out.mods hm5 fun h => by unfold Is at h; have := HP.out; have := HP2.out; have := HZ1.out; omega)
  have HF5 := Lib.hid (HF4.out.mods hm5 fun h => by unfold Is at h; have := HP.out; have := HP2.out; have := HZ1.out; omega)
  have HC5 := Lib.hid (HC4.out.mods hm5 fun k hk => by unfold Is at hk; have := HP2.out; omega)
  have HD5 := Lib.hid hc5
  have HN5 := Lib.hid (HN4.out.mods hm5 fun k h1 _ h2 => by unfold Is at h2; have := HP3.out; omega)
  clear hm5 hc5 HW4 HM4 HR4 HF4 HC4 HD4 HN4
  go_wp2_with fail
  refine (out_any HW5.out (by decide)).mono ?_
  rintro e W6 ⟨A6, c6, rfl, ho, hb⟩
  have hm6 : Mods No W5 W6 := Mods.of_below hb
  have HM6 := Lib.hid (HM5.out.then hm6 fun _ h => h.elim)
  have HR6 := Lib.hid (HR5.out.mods hm6 fun h => h.elim)
  have HF6 := Lib.hid (HF5.out.mods hm6 fun h => h.elim)
  have HC6 := Lib.hid (HC5.out.mods hm6 fun _ h => h.elim)
  have HD6 := Lib.hid (HD5.out.mods hm6 fun _ h => h.elim)
  have HN6 := Lib.hid (HN5.out.mods hm6 fun _ _ _ h => h)
  have Hs := Lib.hid (Sees.of_own ho)
  clear ho hb hm6 HW5 HM5 HR5 HF5 HC5 HD5 HN5
  go_wp2_with fail
  refine (same_lit [3, 0, 1, 0, 1, 2, 0] 7 _ _ _ _ (W6.heap.size + 1) _ ((Hs.out.alloc (Nat.le_refl _) _).more (by omega)) (lit_sees _ _ _ _ rfl) rfl (by decide)).mono ?_
  rintro e W7 ⟨rfl, n7, h7⟩
  have hm7 : Mods No W6 W7 := h7 ▸ (((Mods.refl No W6).alloc _).drewN n7)
  have HM7 := Lib.hid (HM6.out.then hm7 fun _ h => h.elim)
  have HR7 := Lib.hid (HR6.out.mods hm7 fun h => h.elim)
  have HF7 := Lib.hid (HF6.out.mods hm7 fun h => h.elim)
  have HC7 := Lib.hid (HC6.out.mods hm7 fun _ h => h.elim)
  have HD7 := Lib.hid (HD6.out.mods hm7 fun _ h => h.elim)
  have HN7 := Lib.hid (HN6.out.mods hm7 fun _ _ _ h => h)
  clear h7 hm7 Hs HM6 HR6 HF6 HC6 HD6 HN6
  obtain ⟨A', c', he, _, _, hbs⟩ := nest_pp HN7.out
  injection he with he1 _ he2
  subst he1
  have C8 : Hid (Calls Try.prog 11 #[.slice Ag wnEx.length cg, .slice (some ⟨w.heap.size + 1, 0, none⟩) 1 1] W7 fun e w' => e = .returned (.bool true) ∧ Below W7.heap.size W7 w') :=
    (rsame15_any W7.heap.size Ag (some ⟨w.heap.size + 1, 0, none⟩) wnEx cg 1 W7 hbs (wnEx_at HR7.out HF7.out HR7.out.lt HF7.out.lt) (Nat.le_refl _) (by decide)).mono fun e w' ⟨h1, h2⟩ => ⟨h1, h2.below⟩
  clear hbs he2 HR7 HF7 HN7 hg1 hg2
  go_wp2_with fail
  refine C8.out.mono ?_
  rintro e W8 ⟨rfl, hb8⟩
  have hm8 : Mods No W7 W8 := Mods.of_below hb8
  have HM8 := Lib.hid (HM7.out.then hm8 fun _ h => h.elim)
  have HC8 := Lib.hid (HC7.out.mods hm8 fun _ h => h.elim)
  have HD8 := Lib.hid (HD7.out.mods hm8 fun _ h => h.elim)
  clear C8 hb8 hm8 HM7 HC7 HD7
  obtain rfl := HL.out
  go_wp2_with fail
  refine (err_any HC8.out).mono ?_
  rintro e W ⟨rfl, rfl⟩
  go_wp2_with fail
  refine (err_any HD8.out).mono ?_
  rintro e W ⟨rfl, rfl⟩
  go_wp2
  go_ret
  exact ⟨rfl, HM8.out.below (Nat.le_refl _) fun k hk => hk⟩

end Go.Proofs.Ythehcdajedaefaa
