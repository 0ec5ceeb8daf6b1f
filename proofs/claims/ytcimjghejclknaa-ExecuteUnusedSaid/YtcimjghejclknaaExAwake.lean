/-
  The fixed examples that every statement of layer 10 checks first.
-/
import Derived.Test.YtcimjghejclknaaExRx
import Derived.Test.YtcimjghejclknaaExExec
import Derived.Test.YtcimjghejclknaaExStepI
namespace Go.Proofs.Ytcimjghejclknaa
open Go.RowKit
set_option linter.unusedVariables false
set_option linter.unusedSimpArgs false

theorem xexec_at {W : World} {B : Nat} {BA AA : Option Addr} (bc ac : Nat) (args : List Int) (n m : Nat) (bs : List MBlk) (fa fr fs fuel : Int) (na nb : Nat) (r : Xn) (h1 : (args.length : Int) = fa) (h2 : (n : Int) = fr) (h2' : (m : Int) = fs) (h3 : bs.length = nb) (h4 : args.length = na) (hr : runX bs (xn0 n m args) fuel.toNat = r)
    (hs : Sees W B AA (ints args)) (hbs : MBlksAt W B BA bs) (hB : B ≤ W.heap.size) (hn : n ≤ 1000) (hm9 : m ≤ 1000) (hl : na ≤ m) (hF : OkM n m bs) (hwa : ∀ v ∈ args, InI v) (hcn : mcodeN bs ≤ 1000000) (hm : nb ≤ 1000) (hfu : fuel ≤ 1000000) :
    Calls Try.prog 11 #[.agg #[.int .i64 fa, .int .i64 fr, .int .i64 fs, .slice BA nb bc], .slice AA na ac, .int .i64 fuel] W (XQ W r 0) := by
  subst h1
  subst h2
  subst h2'
  subst h3
  subst h4
  subst hr
  exact xexec_any args n m bs B BA AA bc ac fuel W hs hbs hB hn hm9 hl hF hwa hcn hm hfu

def xexI : Mi := ⟨18, 0, 0, 0, 0, 0, 1⟩
def xexR : MBlk := ⟨[xexI], ⟨3, 0, 0, 0⟩⟩
theorem xexOk : OkM 1 1 [xexR] := by
  refine ⟨by decide, fun b hb i hi => ?_, fun b hb => ?_⟩
  · simp only [List.mem_singleton] at hb
    subst hb
    simp only [xexR, List.mem_singleton] at hi
    subst hi
    exact .inl ⟨rfl, ⟨by decide, .inr ⟨by decide, by decide⟩⟩, ⟨by decide, .inl ⟨by decide, by decide⟩⟩⟩
  · simp only [List.mem_singleton] at hb
    subst hb
    exact .inr (.inr ⟨rfl, by decide, by decide⟩)
/-- What the examples lay into memory. -/
structure XAW (w W : World) : Prop where
  below : Below w.heap.size w W
  i : Row W w.heap.size 52 #[.int .i64 18, .int .i64 0, .int .i64 0, .int .i64 0, .int .i64 0, .int .i64 0, .int .i64 1]
  b : Row W (w.heap.size + 1) 50 #[.slice (some ⟨w.heap.size, 0, none⟩) 1 1, .int .i64 3, .int .i64 0, .int .i64 0, .int .i64 0]
  f : Row W (w.heap.size + 1 + 1) 24 #[.int .i64 1, .int .i64 1, .int .i64 1, .slice (some ⟨w.heap.size + 1, 0, none⟩) 1 1]
theorem XAW.next {w W W' : World} (h : XAW w W) (hb : Below W.heap.size W W') : XAW w W' :=
  ⟨h.below.trans (hb.mono h.below.size), h.i.below hb h.i.lt, h.b.below hb h.b.lt, h.f.below hb h.f.lt⟩
theorem XAW.alloc {w W : World} (h : XAW w W) (o : Obj) : XAW w (W.alloc o) := h.next ((Below.refl _ _).alloc (Nat.le_refl _) o)
theorem XAW.start (w : World) : XAW w (((w.alloc (.cells #[.int .i64 18, .int .i64 0, .int .i64 0, .int .i64 0, .int .i64 0, .int .i64 0, .int .i64 1] 52)).alloc (.cells #[.slice (some ⟨w.heap.size, 0, none⟩) 1 1, .int .i64 3, .int .i64 0, .int .i64 0, .int .i64 0] 50)).alloc (.cells #[.int .i64 1, .int .i64 1, .int .i64 1, .slice (some ⟨w.heap.size + 1, 0, none⟩) 1 1] 24)) where
  below := (((Below.refl w.heap.size w).alloc (Nat.le_refl _) _).alloc (by simp) _).alloc (by simp; omega) _
  i := ((Row.new w _ _).alloc _).alloc _
  b := (Row.new' (p := w.heap.size + 1) (by simp) _ _).alloc _
  f := Row.new' (p := w.heap.size + 1 + 1) (by simp) _ _
theorem XAW.blks {w W : World} (h : XAW w W) : MBlksAt W (w.heap.size + 1 + 1) (some ⟨w.heap.size + 1, 0, none⟩) [xexR] := fun _ => by
  refine ⟨w.heap.size + 1, 0, rfl, by omega, fun i x hx => ?_⟩
  have hi : i = 0 := by
    have := (List.getElem?_eq_some_iff.1 hx).1
    simpa using this
  subst hi
  simp only [List.getElem?_cons_zero, Option.some.injEq] at hx
  subst hx
  refine ⟨⟨some ⟨w.heap.size, 0, none⟩, 1, h.b.cell 0, Nat.le_refl _, by decide, fun _ => ⟨w.heap.size, 0, rfl, by omega, fun j y hy => ?_⟩⟩, h.b.cell 1, h.b.cell 2, h.b.cell 3, h.b.cell 4⟩
  have hj : j = 0 := by
    have := (List.getElem?_eq_some_iff.1 hy).1
    simpa [xexR] using this
  subst hj
  simp only [xexR, List.getElem?_cons_zero, Option.some.injEq] at hy
  subst hy
  exact ⟨⟨by constructor <;> decide, by constructor <;> decide⟩, h.i.cell 0, h.i.cell 1, h.i.cell 2, h.i.cell 3, h.i.cell 4, h.i.cell 5, h.i.cell 6⟩
/-- A literal of one number is owned. -/
theorem own_lit (W : World) (x : Int) : (W.alloc (.cells #[.int .i64 x] 2)).ownsRow W.heap.size 2 1 (.slice (some ⟨W.heap.size, 0, none⟩) 1 1) 1 (ints [x]) :=
  ⟨by simp [ints_length], .inr ⟨W.heap.size, 1, (ints [x]).toArray, rfl, Nat.le_refl _, heap_alloc_new W _, Nat.le_refl _, by decide, by simp [ints_length], by simp [List.take_of_length_le, ints_length]⟩⟩
theorem read_lit (W : World) : Calls Try.prog 16 #[.agg #[.int .i64 0, .int .i64 0, .int .i64 0, .int .i64 0, .slice (some ⟨W.heap.size, 0, none⟩) 1 1, .slice (some ⟨W.heap.size + 1, 0, none⟩) 1 1, .slice none 0 0, .int .i64 0], .int .i64 1] ((W.alloc (.cells #[.int .i64 1] 2)).alloc (.cells #[.int .i64 2] 2)) fun e w' => e = .returned (.int .i64 2) ∧ Below W.heap.size ((W.alloc (.cells #[.int .i64 1] 2)).alloc (.cells #[.int .i64 2] 2)) w' := by
  have h2 := own_lit (W.alloc (.cells #[.int .i64 1] 2)) 2
  simp only [World.size_alloc] at h2
  have hV : XV ((W.alloc (.cells #[.int .i64 1] 2)).alloc (.cells #[.int .i64 2] 2)) W.heap.size (some ⟨W.heap.size, 0, none⟩) 1 (some ⟨W.heap.size + 1, 0, none⟩) 1 none 0 ⟨0, 0, 0, 0, [1], [2], [], 0⟩ :=
    ⟨((Mods.refl No _).alloc _).ownS (own_lit W 1) fun _ _ h => h, ownS_base h2 (by omega), own_none _ _ _ _, fun k h1 h2 => by simp [Value.ownBlock] at h1 h2; omega, fun k h1 h2 => by simp [Value.ownBlock] at h2, fun k h1 h2 => by simp [Value.ownBlock] at h2⟩
  have := read_any ⟨0, 0, 0, 0, [1], [2], [], 0⟩ 1 W.heap.size _ _ _ _ _ _ _ hV ⟨by decide, .inl ⟨by decide, by decide⟩⟩ (by decide) (by decide)
  exact this.mono fun e w' ⟨he, hb⟩ => ⟨he, hb.mono (by simp; omega)⟩

set_option maxRecDepth 100000 in
set_option maxHeartbeats 2000000 in
theorem xawake_any (w : World) : Calls Try.prog 9 #[] w fun e w' => e = .returned (.bool true) ∧ Below w.heap.size w w' := by
  have h0 := XAW.start w
  go_enter Try.func9, Try.ntmps9
  go_upto_region 2 with fail
  generalize (((w.alloc (.cells #[.int .i64 18, .int .i64 0, .int .i64 0, .int .i64 0, .int .i64 0, .int .i64 0, .int .i64 1] 52)).alloc (.cells #[.slice (some ⟨w.heap.size, 0, none⟩) 1 1, .int .i64 3, .int .i64 0, .int .i64 0, .int .i64 0] 50)).alloc (.cells #[.int .i64 1, .int .i64 1, .int .i64 1, .slice (some ⟨w.heap.size + 1, 0, none⟩) 1 1] 24)) = W0 at *
  have f0 := h0.f.cell 0; have f1 := h0.f.cell 1; have f2 := h0.f.cell 2; have f3 := h0.f.cell 3
  simp only [List.getElem?_toArray, List.getElem?_cons_zero, List.getElem?_cons_succ] at f0 f1 f2 f3
  have hz0 : w.heap.size + 1 + 1 < W0.heap.size := h0.f.lt
  have H0 := Lib.hid h0
  clear h0
  go_wp2_with fail
  refine (xexec_at (B := W0.heap.size + 1) 1 1 [5] 1 1 [xexR] 1 1 1 9 1 1 ⟨1, 0, 1, 5, [5], [5], [], 2⟩ rfl rfl rfl rfl rfl (by kernel_rfl) (sees_new W0 #[.int .i64 5] 2) ((H0.out.alloc _).blks.more (by omega)) (by simp) (by decide) (by decide) (by decide) xexOk (fun v hv => by simp at hv; subst hv; unfold InI; decide) (by decide) (by decide) (by decide)).mono ?_
  rintro e W1 ⟨RA, rc, SA, sc, TA, tc, rfl, hv, hb⟩
  have H1 := Lib.hid ((H0.out.alloc (.cells #[.int .i64 5] 2)).next hb)
  clear hv hb H0 f0 f1 f2 f3 hz0
  go_upto_region 3 with fail
  have HR1 := Lib.hid (Row.new W1 29 #[.int .i64 1, .int .i64 0, .int .i64 1, .int .i64 5, .slice RA 1 rc, .slice SA 1 sc, .slice TA 0 tc, .int .i64 2])
  have h2 := H1.out.alloc (.cells #[.int .i64 1, .int .i64 0, .int .i64 1, .int .i64 5, .slice RA 1 rc, .slice SA 1 sc, .slice TA 0 tc, .int .i64 2] 29)
  generalize W1.alloc (.cells #[.int .i64 1, .int .i64 0, .int .i64 1, .int .i64 5, .slice RA 1 rc, .slice SA 1 sc, .slice TA 0 tc, .int .i64 2] 29) = W2 at *
  generalize W1.heap.size = z1 at *
  have f0 := h2.f.cell 0; have f1 := h2.f.cell 1; have f2 := h2.f.cell 2; have f3 := h2.f.cell 3
  simp only [List.getElem?_toArray, List.getElem?_cons_zero, List.getElem?_cons_succ] at f0 f1 f2 f3
  have hz0 : w.heap.size + 1 + 1 < W2.heap.size := h2.f.lt
  have H2 := Lib.hid h2
  clear h2 H1
  go_wp2_with fail
  refine (xexec_at (B := W2.heap.size + 1) 1 1 [5] 1 1 [xexR] 1 1 1 0 1 1 ⟨0, 0, 0, 0, [0], [5], [], 0⟩ rfl rfl rfl rfl rfl rfl (sees_new W2 #[.int .i64 5] 2) ((H2.out.alloc _).blks.more (by omega)) (by simp) (by decide) (by decide) (by decide) xexOk (fun v hv => by simp at hv; subst hv; unfold InI; decide) (by decide) (by decide) (by decide)).mono ?_
  rintro e W3 ⟨RB, rd, SB, sd, TB, td, rfl, hv, hb⟩
  have hb' := ((Below.refl W2.heap.size W2).alloc (Nat.le_refl _) (.cells #[.int .i64 5] 2)).trans (hb.mono (by simp))
  have H3 := Lib.hid (H2.out.next hb')
  have HR3 := Lib.hid (HR1.out.below hb' HR1.out.lt)
  have HT3 := Lib.hid hv
  clear hv hb hb' H2 HR1 f0 f1 f2 f3 hz0
  go_upto_region 4 with fail
  have h4 := H3.out.alloc (.cells #[.int .i64 0, .int .i64 0, .int .i64 0, .int .i64 0, .slice RB 1 rd, .slice SB 1 sd, .slice TB 0 td, .int .i64 0] 29)
  have HT4 := Lib.hid (HT3.out.below ((Below.refl _ _).alloc (Nat.le_refl _) (.cells #[.int .i64 0, .int .i64 0, .int .i64 0, .int .i64 0, .slice RB 1 rd, .slice SB 1 sd, .slice TB 0 td, .int .i64 0] 29)))
  have HR4 := Lib.hid (And.intro (HR3.out.alloc (.cells #[.int .i64 0, .int .i64 0, .int .i64 0, .int .i64 0, .slice RB 1 rd, .slice SB 1 sd, .slice TB 0 td, .int .i64 0] 29)) (Row.new W3 29 #[.int .i64 0, .int .i64 0, .int .i64 0, .int .i64 0, .slice RB 1 rd, .slice SB 1 sd, .slice TB 0 td, .int .i64 0]))
  clear HT3 HR3
  generalize W3.alloc (.cells #[.int .i64 0, .int .i64 0, .int .i64 0, .int .i64 0, .slice RB 1 rd, .slice SB 1 sd, .slice TB 0 td, .int .i64 0] 29) = W4 at *
  generalize W3.heap.size = z2 at *
  have f0 := h4.f.cell 0; have f1 := h4.f.cell 1; have f2 := h4.f.cell 2; have f3 := h4.f.cell 3
  simp only [List.getElem?_toArray, List.getElem?_cons_zero, List.getElem?_cons_succ] at f0 f1 f2 f3
  have H4 := Lib.hid h4
  clear h4 H3
  go_wp2_with fail
  refine (xstart_bad 0 1 1 (some ⟨w.heap.size + 1, 0, none⟩) none 1 1 0 1 W4 (by decide) (by decide)).mono ?_
  rintro e W5 ⟨RC, re, SC, se, TC, te, rfl, hv, hb⟩
  have H5 := Lib.hid (H4.out.next hb).below
  have HT5 := Lib.hid (HT4.out.below hb)
  have HR5 := Lib.hid (And.intro (HR4.out.1.below hb HR4.out.1.lt) (HR4.out.2.below hb HR4.out.2.lt))
  clear hv hb H4 HR4 HT4 f0 f1 f2 f3
  go_upto_region 5 with fail
  have HT6 := Lib.hid (HT5.out.below ((Below.refl _ _).alloc (Nat.le_refl _) (.cells #[.int .i64 0, .int .i64 0, .int .i64 0, .int .i64 0, .slice RC 0 re, .slice SC 0 se, .slice TC 0 te, .int .i64 0] 29)))
  have HR6 := Lib.hid (And.intro (HR5.out.1.alloc (.cells #[.int .i64 0, .int .i64 0, .int .i64 0, .int .i64 0, .slice RC 0 re, .slice SC 0 se, .slice TC 0 te, .int .i64 0] 29)) (HR5.out.2.alloc (.cells #[.int .i64 0, .int .i64 0, .int .i64 0, .int .i64 0, .slice RC 0 re, .slice SC 0 se, .slice TC 0 te, .int .i64 0] 29)))
  have H6 := Lib.hid (H5.out.alloc H5.out.size (.cells #[.int .i64 0, .int .i64 0, .int .i64 0, .int .i64 0, .slice RC 0 re, .slice SC 0 se, .slice TC 0 te, .int .i64 0] 29))
  clear H5 HR5 HT5
  generalize W5.alloc (.cells #[.int .i64 0, .int .i64 0, .int .i64 0, .int .i64 0, .slice RC 0 re, .slice SC 0 se, .slice TC 0 te, .int .i64 0] 29) = W6 at *
  have a0 := HR6.out.1.cell 0; have a3 := HR6.out.1.cell 3; have a7 := HR6.out.1.cell 7
  have b0 := HR6.out.2.cell 0; have b4 := HR6.out.2.cell 4; have b5 := HR6.out.2.cell 5
  simp only [List.getElem?_toArray, List.getElem?_cons_zero, List.getElem?_cons_succ] at a0 a3 a7 b0 b4 b5
  have hz1 : z1 < W6.heap.size := HR6.out.1.lt
  have hz2 : z2 < W6.heap.size := HR6.out.2.lt
  go_wp2_with fail
  refine (vals_at (W6.heap.size + 1) [5] 1 sd 1 rfl ((HT6.out.sss.alloc (Nat.le_refl _) _).more (Nat.le_succ _)) (sees_new W6 #[.int .i64 5] 2) (by decide)).mono ?_
  rintro e W7 ⟨rfl, k, rfl⟩
  have hb7 := blw_drewN ((Below.refl W6.heap.size W6).alloc (Nat.le_refl _) (.cells #[.int .i64 5] 2)) k
  have H7 := Lib.hid (H6.out.trans (hb7.mono H6.out.size))
  have HT7 := Lib.hid (HT6.out.below hb7)
  have HR7 := Lib.hid (HR6.out.2.below hb7 HR6.out.2.lt)
  clear H6 HR6 HT6 hb7 a0 a3 a7 b0 b4 b5
  generalize ((W6.alloc (.cells #[.int .i64 5] 2)).drewN k) = W7 at *
  have b4 := HR7.out.cell 4
  simp only [List.getElem?_toArray, List.getElem?_cons_zero, List.getElem?_cons_succ] at b4
  have hz3 : z2 < W7.heap.size := HR7.out.lt
  go_wp2_with fail
  refine (vals_at (W7.heap.size + 1) [0] 1 rd 1 rfl ((HT7.out.srs.alloc (Nat.le_refl _) _).more (Nat.le_succ _)) (sees_new W7 #[.int .i64 0] 2) (by decide)).mono ?_
  rintro e W8 ⟨rfl, k2, rfl⟩
  have H8 := Lib.hid (blw_drewN (H7.out.alloc H7.out.size (.cells #[.int .i64 0] 2)) k2)
  clear H7 HT7 HR7 b4
  generalize ((W7.alloc (.cells #[.int .i64 0] 2)).drewN k2) = W8 at *
  go_wp2_with fail
  refine (read_lit W8).mono ?_
  rintro e W9 ⟨rfl, hb⟩
  have H9 := Lib.hid (H8.out.trans ((((Below.refl W8.heap.size W8).alloc (Nat.le_refl _) (.cells #[.int .i64 1] 2)).alloc (by simp) (.cells #[.int .i64 2] 2)).trans hb |>.mono H8.out.size))
  clear hb H8
  go_wp2
  go_ret
  exact ⟨rfl, H9.out⟩

end Go.Proofs.Ytcimjghejclknaa
