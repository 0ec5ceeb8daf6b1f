/-
  The reference of layer 19: pair.
-/
import Derived.Test.YthehcdajedaefaaWnMath
import Derived.Test.YthehcdajedaefaaPk4
import Derived.Test.YthehcdajedaefaaPk8
import Derived.Deep.Cut
import Derived.Deep.CutRange
import Derived.BigRegion
namespace Go.Proofs.Ythehcdajedaefaa
open Go.RowKit
set_option linter.unusedVariables false
set_option linter.unusedSimpArgs false

theorem numE_rngW {bd why : Int} {s : Ip} : 0 ≤ (numE bd why s).1 ∧ ((numE bd why s).1 < bd ∨ (numE bd why s).1 = 0) := by
  unfold numE
  split
  · exact ⟨Int.le_refl _, .inr rfl⟩
  · split
    · exact ⟨Int.le_refl _, .inr rfl⟩
    · split
      · exact ⟨Int.le_refl _, .inr rfl⟩
      · exact ⟨by dsimp only; omega, .inl (by dsimp only; omega)⟩

/-- What pair carries: the input, the pair ahead, both results' blocks. -/
structure PRS (w : World) (B : Nat) (A : Option Addr) (c : Nat) (s : Ip) (q1 q2 : Int) (W : World) : Prop where
  blw : Below w.heap.size w W
  inb : Row W w.heap.size 30 #[.slice A s.rest.length c, .int .i64 s.err]
  qb : Row W (w.heap.size + 1) 52 #[.int .i64 q1, .int .i64 q2]
  z2 : Row W (w.heap.size + 1 + 1) 52 #[.int .i64 0, .int .i64 0]
  z3 : Row W (w.heap.size + 1 + 1 + 1) 30 #[.slice none 0 0, .int .i64 0]
  ip : IpV W B A c s

section
variable {w : World} {B : Nat} {A A' : Option Addr} {c c' : Nat} {s s' : Ip} {q1 q2 : Int} {W W' : World}

theorem PRS.start (h : IpV w B A c s) (hB : B ≤ w.heap.size) (q1 q2 : Int) :
    PRS w B A c s q1 q2 ((((w.alloc (.cells #[.slice A s.rest.length c, .int .i64 s.err] 30)).alloc (.cells #[.int .i64 q1, .int .i64 q2] 52)).alloc (.cells #[.int .i64 0, .int .i64 0] 52)).alloc (.cells #[.slice none 0 0, .int .i64 0] 30)) := by
  have hb := ((((Below.refl w.heap.size w).alloc (Nat.le_refl _) (.cells #[.slice A s.rest.length c, .int .i64 s.err] 30)).alloc (by simp) (.cells #[.int .i64 q1, .int .i64 q2] 52)).alloc (by simp; omega) (.cells #[.int .i64 0, .int .i64 0] 52)).alloc (by simp; omega) (.cells #[.slice none 0 0, .int .i64 0] 30)
  exact ⟨hb, (((Row.new w _ _).alloc _).alloc _).alloc _, ((Row.new' (p := w.heap.size + 1) (by simp) _ _).alloc _).alloc _, (Row.new' (p := w.heap.size + 1 + 1) (by simp) _ _).alloc _, Row.new' (p := w.heap.size + 1 + 1 + 1) (by simp) _ _, h.below (hb.mono hB)⟩

theorem PRS.next (h : PRS w B A c s q1 q2 W) (hb : Below W.heap.size W W') (hB : B ≤ w.heap.size) : PRS w B A c s q1 q2 W' :=
  ⟨h.blw.trans (hb.mono h.blw.size), h.inb.below hb h.inb.lt, h.qb.below hb h.qb.lt, h.z2.below hb h.z2.lt, h.z3.below hb h.z3.lt, h.ip.below (hb.mono (Nat.le_trans hB h.blw.size))⟩

theorem PRS.inpt (h : PRS w B A c s q1 q2 W) (hI : IpV W B A' c' s') (hB : B ≤ w.heap.size) : PRS w B A' c' s' q1 q2 ((W.setCell ⟨w.heap.size, 0, none⟩ (.slice A' s'.rest.length c')).setCell ⟨w.heap.size, 1, none⟩ (.int .i64 s'.err)) := by
  have hb : Below w.heap.size W ((W.setCell ⟨w.heap.size, 0, none⟩ (.slice A' s'.rest.length c')).setCell ⟨w.heap.size, 1, none⟩ (.int .i64 s'.err)) := ((Below.refl _ W).setCell (p := ⟨w.heap.size, 0, none⟩) (Nat.le_refl _) _).setCell (p := ⟨w.heap.size, 1, none⟩) (Nat.le_refl _) _
  have hm : Mods (Is w.heap.size) W ((W.setCell ⟨w.heap.size, 0, none⟩ (.slice A' s'.rest.length c')).setCell ⟨w.heap.size, 1, none⟩ (.int .i64 s'.err)) := ((Mods.refl _ W).put 0 _).put 1 _
  exact ⟨h.blw.trans hb, (h.inb.put 0 _).put 1 _, h.qb.mods hm (fun e => by unfold Is at e; omega), h.z2.mods hm (fun e => by unfold Is at e; omega), h.z3.mods hm (fun e => by unfold Is at e; omega), hI.below (hb.mono hB)⟩

/-- Both results stored. -/
theorem PRS.fin (h : PRS w B A c s q1 q2 W) (hB : B ≤ w.heap.size) (x y : Int) :
    Row (((((W.setCell ⟨w.heap.size + 1 + 1, 0, none⟩ (.int .i64 x)).setCell ⟨w.heap.size + 1 + 1, 1, none⟩ (.int .i64 y)).setCell ⟨w.heap.size + 1 + 1 + 1, 0, none⟩ (.slice A s.rest.length c)).setCell ⟨w.heap.size + 1 + 1 + 1, 1, none⟩ (.int .i64 s.err)).drew) (w.heap.size + 1 + 1) 52 #[.int .i64 x, .int .i64 y] ∧
    Row (((((W.setCell ⟨w.heap.size + 1 + 1, 0, none⟩ (.int .i64 x)).setCell ⟨w.heap.size + 1 + 1, 1, none⟩ (.int .i64 y)).setCell ⟨w.heap.size + 1 + 1 + 1, 0, none⟩ (.slice A s.rest.length c)).setCell ⟨w.heap.size + 1 + 1 + 1, 1, none⟩ (.int .i64 s.err)).drew) (w.heap.size + 1 + 1 + 1) 30 #[.slice A s.rest.length c, .int .i64 s.err] ∧
    Below w.heap.size w (((((W.setCell ⟨w.heap.size + 1 + 1, 0, none⟩ (.int .i64 x)).setCell ⟨w.heap.size + 1 + 1, 1, none⟩ (.int .i64 y)).setCell ⟨w.heap.size + 1 + 1 + 1, 0, none⟩ (.slice A s.rest.length c)).setCell ⟨w.heap.size + 1 + 1 + 1, 1, none⟩ (.int .i64 s.err)).drew) ∧
    IpV (((((W.setCell ⟨w.heap.size + 1 + 1, 0, none⟩ (.int .i64 x)).setCell ⟨w.heap.size + 1 + 1, 1, none⟩ (.int .i64 y)).setCell ⟨w.heap.size + 1 + 1 + 1, 0, none⟩ (.slice A s.rest.length c)).setCell ⟨w.heap.size + 1 + 1 + 1, 1, none⟩ (.int .i64 s.err)).drew) B A c s := by
  have h1 : Mods (Is (w.heap.size + 1 + 1)) W ((W.setCell ⟨w.heap.size + 1 + 1, 0, none⟩ (.int .i64 x)).setCell ⟨w.heap.size + 1 + 1, 1, none⟩ (.int .i64 y)) := ((Mods.refl _ W).put 0 _).put 1 _
  have r1 : Row ((W.setCell ⟨w.heap.size + 1 + 1, 0, none⟩ (.int .i64 x)).setCell ⟨w.heap.size + 1 + 1, 1, none⟩ (.int .i64 y)) (w.heap.size + 1 + 1) 52 #[.int .i64 x, .int .i64 y] := (h.z2.put 0 _).put 1 _
  have r3 := h.z3.mods h1 (fun e => by unfold Is at e; omega)
  generalize ((W.setCell ⟨w.heap.size + 1 + 1, 0, none⟩ (.int .i64 x)).setCell ⟨w.heap.size + 1 + 1, 1, none⟩ (.int .i64 y)) = V at *
  have h2 : Mods (Is (w.heap.size + 1 + 1 + 1)) V ((V.setCell ⟨w.heap.size + 1 + 1 + 1, 0, none⟩ (.slice A s.rest.length c)).setCell ⟨w.heap.size + 1 + 1 + 1, 1, none⟩ (.int .i64 s.err)).drew := (((Mods.refl _ V).put 0 _).put 1 _).drew
  have r4 : Row ((V.setCell ⟨w.heap.size + 1 + 1 + 1, 0, none⟩ (.slice A s.rest.length c)).setCell ⟨w.heap.size + 1 + 1 + 1, 1, none⟩ (.int .i64 s.err)).drew (w.heap.size + 1 + 1 + 1) 30 #[.slice A s.rest.length c, .int .i64 s.err] := ((r3.put 0 _).put 1 _).drew
  generalize ((V.setCell ⟨w.heap.size + 1 + 1 + 1, 0, none⟩ (.slice A s.rest.length c)).setCell ⟨w.heap.size + 1 + 1 + 1, 1, none⟩ (.int .i64 s.err)).drew = U at *
  have hb1 : Below w.heap.size W V := h1.below h.blw.size fun k hk => by unfold Is at hk; omega
  have hb2 : Below w.heap.size V U := h2.below (by have := hb1.size; have := h.blw.size; omega) fun k hk => by unfold Is at hk; omega
  exact ⟨r1.mods h2 (fun e => by unfold Is at e; omega), r4, h.blw.trans (hb1.trans hb2), h.ip.below ((hb1.trans hb2).mono hB)⟩

end

/-- What pair returns. -/
def RPR (w : World) (B : Nat) (p : Pr) (t : Ip) (e : Ending) (w' : World) : Prop :=
  ∃ A' c', e = .returned (.tuple #[.agg #[.int .i64 p.1, .int .i64 p.2], .agg #[.slice A' t.rest.length c', .int .i64 t.err]]) ∧ IpV w' B A' c' t ∧ Below w.heap.size w w'

set_option maxRecDepth 100000 in
set_option maxHeartbeats 8000000 in
theorem rpair19_any {w : World} {B : Nat} {A : Option Addr} {c : Nat} {s : Ip} (h : IpV w B A c s) (hB : B ≤ w.heap.size) {vr r n : Int} {f : Bool} {q : Pr} (hv : 0 ≤ vr ∧ vr ≤ 1000000000) (hr : r ≤ 1000000000) (hn : n ≤ 1000000000) (hq : PosP vr f q) (hq2 : q.2 ≤ 4000000000) :
    Calls Try.prog 27 #[.agg #[.slice A s.rest.length c, .int .i64 s.err], .bool f, .agg #[.int .i64 q.1, .int .i64 q.2], .int .i64 vr, .int .i64 r, .int .i64 n] w (RPR w B (pairE vr r n f q s).1 (pairE vr r n f q s).2) := by
  obtain ⟨⟨dv, s1⟩, h1⟩ : ∃ y, pdvE vr q s = y := ⟨_, rfl⟩
  obtain ⟨⟨dl, s2⟩, h2⟩ : ∃ y, numE 4611686018427387904 10 s1 = y := ⟨_, rfl⟩
  have h2' : pdlE vr q s = (dl, s2) := by unfold pdlE; rw [h1]; exact h2
  obtain ⟨lo, hl⟩ : ∃ y, (if f = false ∧ dv = 0 then q.2 + 1 + dl else dl) = y := ⟨_, rfl⟩
  obtain ⟨s3, h3⟩ : ∃ y, (if s2.err = 0 ∧ locS lo r n = false then failE 10 s2 else s2) = y := ⟨_, rfl⟩
  have HE : pairE vr r n f q s = ((q.1 + dv, lo), s3) := by
    have : plE vr f q s = lo := by unfold plE; rw [h1, h2']; exact hl
    unfold pairE
    rw [this, h1, h2', ← h3]
  rw [HE]
  have hqr : 0 ≤ q.1 ∧ q.1 ≤ vr ∧ 0 ≤ q.2 := by
    rcases hq with ⟨_, rfl⟩ | ⟨_, a, b, c⟩
    · exact ⟨Int.le_refl _, hv.1, Int.le_refl _⟩
    · exact ⟨a, by omega, c⟩
  have hd : 0 ≤ dv ∧ dv ≤ 1000000000 := by
    have := numE_rngW (bd := vr - q.1) (why := 9) (s := s)
    rw [show numE (vr - q.1) 9 s = (dv, s1) from h1] at this
    dsimp only at this
    omega
  have hdl : 0 ≤ dl ∧ dl ≤ 4611686018427387904 := by
    have := numE_rngW (bd := 4611686018427387904) (why := 10) (s := s1)
    rw [h2] at this
    dsimp only at this
    omega
  have hlo : 0 ≤ lo ∧ lo ≤ 5000000000000000000 := by rw [← hl]; split <;> omega
  have HBB := Lib.hid hB
  have HP := Lib.hid (PRS.start h hB q.1 q.2)
  have H1 := Lib.hid (show numE (vr - q.1) 9 s = (dv, s1) from h1)
  have H2 := Lib.hid h2
  have HL := Lib.hid hl
  have H3 := Lib.hid h3
  obtain ⟨q1, q2⟩ := q
  dsimp only at *
  clear h hB h1 h2 h2' hl h3 HE hq
  go_enter Try.func27, Try.ntmps27
  go_upto_region 1 with fail
  generalize ((((w.alloc (.cells #[.slice A s.rest.length c, .int .i64 s.err] 30)).alloc (.cells #[.int .i64 q1, .int .i64 q2] 52)).alloc (.cells #[.int .i64 0, .int .i64 0] 52)).alloc (.cells #[.slice none 0 0, .int .i64 0] 30)) = W0 at *
  have C1 := Lib.hid (rnum_any (vr - q1) 9 HP.out.ip (Nat.le_trans HBB.out HP.out.blw.size) (by omega) (by omega) (by decide))
  rw [H1.out] at C1
  have p0 := HP.out.inb.cell 0; have p1 := HP.out.inb.cell 1
  simp only [List.getElem?_toArray, List.getElem?_cons_zero, List.getElem?_cons_succ] at p0 p1
  have y0 := HP.out.qb.cell 0; have y1 := HP.out.qb.cell 1
  simp only [List.getElem?_toArray, List.getElem?_cons_zero, List.getElem?_cons_succ] at y0 y1
  go_wp2_with fail
  refine C1.out.mono ?_
  rintro e W1 ⟨A1, c1, rfl, hI, hb⟩
  have HP1 := Lib.hid (HP.out.next hb HBB.out)
  have HI1 := Lib.hid hI
  clear hb hI C1 HP p0 p1 y0 y1
  have p0 := HP1.out.inb.cell 0; have p1 := HP1.out.inb.cell 1
  simp only [List.getElem?_toArray, List.getElem?_cons_zero, List.getElem?_cons_succ] at p0 p1
  have pf0 := HP1.out.inb.frozen 0; have pf1 := HP1.out.inb.frozen 1
  go_upto_region 4 with fail
  have HP2 := Lib.hid (HP1.out.inpt HI1.out HBB.out)
  clear p0 p1 pf0 pf1 HP1 HI1
  generalize ((W1.setCell ⟨w.heap.size, 0, none⟩ (.slice A1 s1.rest.length c1)).setCell ⟨w.heap.size, 1, none⟩ (.int .i64 s1.err)) = W2 at *
  have C2 := Lib.hid (rnum_any 4611686018427387904 10 HP2.out.ip (Nat.le_trans HBB.out HP2.out.blw.size) (by decide) (by decide) (by decide))
  rw [H2.out] at C2
  have p0 := HP2.out.inb.cell 0; have p1 := HP2.out.inb.cell 1
  simp only [List.getElem?_toArray, List.getElem?_cons_zero, List.getElem?_cons_succ] at p0 p1
  go_wp2_with fail
  refine C2.out.mono ?_
  rintro e W3 ⟨A3, c3, rfl, hI, hb⟩
  have HP3 := Lib.hid (HP2.out.next hb HBB.out)
  have HI3 := Lib.hid hI
  clear hb hI C2 HP2 p0 p1
  have p0 := HP3.out.inb.cell 0; have p1 := HP3.out.inb.cell 1
  simp only [List.getElem?_toArray, List.getElem?_cons_zero, List.getElem?_cons_succ] at p0 p1
  have pf0 := HP3.out.inb.frozen 0; have pf1 := HP3.out.inb.frozen 1
  go_upto_region 5 with fail
  have HP4 := Lib.hid (HP3.out.inpt HI3.out HBB.out)
  clear p0 p1 pf0 pf1 HP3 HI3
  generalize ((W3.setCell ⟨w.heap.size, 0, none⟩ (.slice A3 s2.rest.length c3)).setCell ⟨w.heap.size, 1, none⟩ (.int .i64 s2.err)) = W4 at *
  have y0 := HP4.out.qb.cell 0; have y1 := HP4.out.qb.cell 1
  simp only [List.getElem?_toArray, List.getElem?_cons_zero, List.getElem?_cons_succ] at y0 y1
  obtain ⟨bl, hbl⟩ : ∃ b, decide (f = false ∧ dv = 0) = b := ⟨_, rfl⟩
  have HBL := Lib.hid hbl
  clear hbl
  go_upto_region 6 with fail
  go_cut [37] from 17 (fun s37 wx => s37 = .bool bl ∧ wx = W4)
  case first =>
    cases f
    · have hb : Hid ((dv == 0) = bl) := by show _ = _; rw [← HBL.out, Bool.eq_iff_iff]; simp
      go_wp2_with fail
      go_meet
      case rel => exact ⟨by rw [hb.out], rfl⟩
    · have hb : Hid (false = bl) := by show _ = _; rw [← HBL.out]; simp
      go_wp2_with fail
      go_meet
      case rel => exact ⟨by rw [← hb.out], rfl⟩
  case rest =>
    obtain ⟨hs37, hwc⟩ := hcut
    subst hs37 hwc
    go_upto_if 37 with fail
    go_cut [16] from 17 (fun s16 wx => s16 = .int .i64 lo ∧ wx = wc)
    case first =>
      cases bl
      · have hle : Hid (dl = lo) := by show _ = _; rw [← HL.out, if_neg (of_decide_eq_false HBL.out)]
        go_wp2_with fail
        go_meet
        case rel => exact ⟨by rw [hle.out], rfl⟩
      · have hle : Hid (q2 + 1 + dl = lo) := by show _ = _; rw [← HL.out, if_pos (of_decide_eq_true HBL.out)]
        go_wp2_with fail
        go_meet
        case rel => exact ⟨by rw [hle.out], rfl⟩
    case rest =>
      obtain ⟨hs16, hwc⟩ := hcut
      subst hs16 hwc
      clear y0 y1 HL HBL
      obtain ⟨b2, hb2⟩ : ∃ b, decide (s2.err = 0 ∧ locS lo r n = false) = b := ⟨_, rfl⟩
      have HB2 := Lib.hid hb2
      clear hb2
      have p0 := HP4.out.inb.cell 0; have p1 := HP4.out.inb.cell 1
      simp only [List.getElem?_toArray, List.getElem?_cons_zero, List.getElem?_cons_succ] at p0 p1
      go_upto_region 8 with fail
      obtain ⟨W5, hW5⟩ : ∃ z, z = wc := ⟨_, rfl⟩
      subst hW5
      go_cut [52] from 17 (fun s52 wx => s52 = .bool b2 ∧ wx = W5)
      case first =>
        by_cases he : s2.err = 0
        · have d0 : (s2.err == 0) = true := by simp [he]
          have hb : Hid ((!locS lo r n) = b2) := by show _ = _; rw [← HB2.out, Bool.eq_iff_iff]; simp [he]
          have C3 := Lib.hid (rlocin_any lo r n W5 ⟨by omega, by omega⟩)
          generalize locS lo r n = bb at *
          clear he
          go_wp2_with fail
          refine C3.out.mono ?_
          rintro e W ⟨rfl, rfl⟩
          go_wp2_with fail
          go_meet
          case rel => exact ⟨by rw [hb.out], rfl⟩
        · have d0 : (s2.err == 0) = false := by simp [he]
          have hb : Hid (false = b2) := by show _ = _; rw [← HB2.out]; simp [he]
          clear he
          go_wp2_with fail
          go_meet
          case rel => exact ⟨by rw [← hb.out], rfl⟩
      case rest =>
        obtain ⟨hs52, hwc⟩ := hcut
        subst hs52 hwc
        go_upto_if 52 with fail
        obtain ⟨W5, hW5⟩ : ∃ z, z = wc := ⟨_, rfl⟩
        subst hW5
        go_cut [] from 17 (fun wx => ∃ A c, Hid (PRS w B A c s3 q1 q2 wx))
        case first =>
          cases b2
          · have hs : Hid (s2 = s3) := by show _ = _; rw [← H3.out, if_neg (of_decide_eq_false HB2.out)]
            go_wp2_with fail
            go_meet
            case rel => exact ⟨A3, c3, by rw [← hs.out]; exact HP4.out⟩
          · have hs : Hid (failE 10 s2 = s3) := by show _ = _; rw [← H3.out, if_pos (of_decide_eq_true HB2.out)]
            have C4 := Lib.hid (rfail18_any 10 HP4.out.ip (Nat.le_trans HBB.out HP4.out.blw.size))
            rw [hs.out] at C4
            go_wp2_with fail
            refine C4.out.mono ?_
            rintro e W6 ⟨A6, c6, rfl, hI, hb⟩
            have HP6 := Lib.hid (HP4.out.next hb HBB.out)
            have HI6 := Lib.hid hI
            clear hb hI C4 HP4 p0 p1
            have p0 := HP6.out.inb.cell 0; have p1 := HP6.out.inb.cell 1
            simp only [List.getElem?_toArray, List.getElem?_cons_zero, List.getElem?_cons_succ] at p0 p1
            have pf0 := HP6.out.inb.frozen 0; have pf1 := HP6.out.inb.frozen 1
            go_wp2_with fail
            go_meet
            case rel => exact ⟨A6, c6, HP6.out.inpt HI6.out HBB.out⟩
        case rest =>
          clear HP4 p0 p1 HB2 H3
          obtain ⟨A7, c7, HP7⟩ := hcut
          have p0 := HP7.out.inb.cell 0; have p1 := HP7.out.inb.cell 1
          have y0 := HP7.out.qb.cell 0; have y1 := HP7.out.qb.cell 1
          have z0 := HP7.out.z2.cell 0; have z1 := HP7.out.z2.cell 1
          have u0 := HP7.out.z3.cell 0; have u1 := HP7.out.z3.cell 1
          have zf0 := HP7.out.z2.frozen 0; have zf1 := HP7.out.z2.frozen 1
          have uf0 := HP7.out.z3.frozen 0; have uf1 := HP7.out.z3.frozen 1
          simp only [List.getElem?_toArray, List.getElem?_cons_zero, List.getElem?_cons_succ] at p0 p1 y0 y1 z0 z1 u0 u1
          go_wp2_with fail
          go_region
          go_wp2
          (try simp only [Exit.inBlock, Exit.then])
          obtain ⟨f1, f2, f3, f4⟩ := HP7.out.fin HBB.out (q1 + dv) lo
          refine bodyPost_ret (v := .tuple #[.agg #[.int .i64 (q1 + dv), .int .i64 lo], .agg #[.slice A7 s3.rest.length c7, .int .i64 s3.err]]) ?_ rfl ⟨A7, c7, rfl, f4, f3⟩
          exact results_row_row rfl _ _ (w.heap.size + 1 + 1 + 1) (w.heap.size + 1 + 1) 30 52 #[.slice A7 s3.rest.length c7, .int .i64 s3.err] #[.int .i64 (q1 + dv), .int .i64 lo] (0, 0) (0, 0) _ _ rfl f2 Try.underlying30 rfl (by kernel_rfl) rfl f1 Try.underlying52 rfl (by kernel_rfl)

end Go.Proofs.Ythehcdajedaefaa
