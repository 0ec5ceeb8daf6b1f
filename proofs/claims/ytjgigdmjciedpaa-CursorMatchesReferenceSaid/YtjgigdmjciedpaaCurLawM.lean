/-
  The walk of the statement that each read and the state after it are those of the reference.
-/
import Derived.Test.YtjgigdmjciedpaaCurRef3
import Derived.Test.YtjgigdmjciedpaaCurLawS
namespace Go.Proofs.Ytjgigdmjciedpaa
open Go.RowKit
set_option linter.unusedVariables false

/-- The cells of the reference's cursor and of a read together. -/
theorem seven {P0 P1 P2 P3 P4 P5 P6 : Prop} (h0 : P0) (h1 : P1) (h2 : P2) (h3 : P3) (h4 : P4) (h5 : P5) (h6 : P6) : P0 ∧ P1 ∧ P2 ∧ P3 ∧ P4 ∧ P5 ∧ P6 := ⟨h0, h1, h2, h3, h4, h5, h6⟩

set_option maxRecDepth 100000 in
set_option maxHeartbeats 8000000 in
theorem CursorMatchesReference_walk (a0 : Option Addr) (len0 cap0 : Nat) (z0 : List Int) (a1 : Option Addr) (len1 cap1 : Nat) (w : World) (w0 : IsRow .u8 w a0 len0 cap0 z0) (w1 : IsReads w a1 len1 cap1) :
    Calls Try.prog 3 #[.slice a0 len0 cap0, .slice a1 len1 cap1] w fun e w' => e = .returned (.bool true) ∧ Below w.heap.size w w' := by
  obtain ⟨l, rfl, hby, hs, hlc, hcm⟩ := w0.bytes
  have hr1 := w1.1
  have hr2 := w1.2.1
  have HR := Lib.hid w1
  have HBY := Lib.hid hby
  unfold maxLen at hcm hr2
  clear w0 w1 hby
  by_cases hlong : l.length ≤ 1000 ∧ len1 ≤ 50
  case neg =>
    have HLG : 1000 < l.length ∨ (l.length ≤ 1000 ∧ 50 < len1) := by omega
    clear hlong
    rcases HLG with h1 | ⟨h1, h2⟩
    all_goals
      go_enter Try.func3, Try.ntmps3
      go_wp2_with fail
      refine (awake_any _).mono ?_
      rintro e W ⟨rfl, hb⟩
      go_wp2_with fail
      refine (awake_any _).mono ?_
      rintro e W2 ⟨rfl, hb2⟩
      go_wp2_with fail
      go_ret
      exact ⟨rfl, hb.trans (hb2.mono hb.size)⟩
  obtain ⟨l0, l1⟩ := hlong
  obtain ⟨i0, hi, hz0, hz1, hz2⟩ := info_parts infoU8
  go_enter Try.func3, Try.ntmps3
  go_wp2_with fail
  refine (awake_any _).mono ?_
  rintro e W ⟨rfl, hb⟩
  have hs1 := hs.below hb
  have HB := Lib.hid hb
  have hz := hb.size
  clear hb
  go_wp2_with fail
  refine (new_any a0 l w.heap.size cap0 W hs1 hz HBY.out (by omega)).mono ?_
  rintro e W1 ⟨p, A1, c1, rfl, hp, hc1, hb1⟩
  have HC1 := Lib.hid hc1
  have HB1 := Lib.hid (HB.out.trans (hb1.mono hz))
  have hs2 := (hs.below HB1.out).more HB1.out.size
  have hpW := hc1.row.lt
  have hz1w := HB1.out.size
  clear hs1 hs hc1 hb1 HB
  go_wp2_with (at_builtin; refine wpList_append_sees _ rfl (.tmp 31) (.tmp 32) 22 rfl W1.heap.size 5 i0 (.int .u8 0) 1 Try.underlying22 hi hz0 hz1 hz2 rfl _ _ _ rfl (World.ownsRow_made W1 #[] 0 (Nat.le_refl _) (by decide) rfl) W1.heap.size _ _ _ (bts l) rfl (hs2.alloc (Nat.le_refl _) _) (bts_length _) (bts_one _) ?c1 ?c2 ?c3 ?_)
  case c1 => unfold maxLen; omega
  case c2 => omega
  case c3 => simp
  intro va W2 ho2 hg2
  have hb2 : Below W1.heap.size W1 W2 := ((Below.refl _ _).alloc (Nat.le_refl _) _).grown hg2 (by simp) (fun k hk => by simp [Value.ownBlock] at hk; omega)
  replace ho2 : W2.ownsRow W1.heap.size 5 1 va l.length (bts l) := by simpa using ho2
  obtain ⟨A2, c2, rfl, hc2a, hc2b⟩ := own_slice ho2 (bts_length _)
  have HLO2 := Lib.hid (own_lt ho2)
  have HS2 := Lib.hid (Sees.of_own ho2)
  have HC2 := Lib.hid (HC1.out.mods (S := No) (Mods.of_below hb2) fun _ hk => hk.elim)
  have HB2 := Lib.hid (HB1.out.trans (hb2.mono hz1w))
  have hz2w : W1.heap.size ≤ W2.heap.size := hb2.size
  unfold maxLen at hc2b
  clear hs2 ho2 hg2 hb2 HC1 HB1
  go_wp2_with fail
  have HB3 := Lib.hid (HB2.out.alloc (Nat.le_trans hz1w hz2w) (.cells #[.slice A2 l.length c2, .int .i64 0, .int .i64 0] 28))
  have HC3 := Lib.hid (HC2.out.alloc (.cells #[.slice A2 l.length c2, .int .i64 0, .int .i64 0] 28))
  have HD3 := Lib.hid (Row.new W2 28 #[.slice A2 l.length c2, .int .i64 0, .int .i64 0])
  have HS3 := Lib.hid (HS2.out.alloc (Nat.le_refl _) (.cells #[.slice A2 l.length c2, .int .i64 0, .int .i64 0] 28))
  have hpq : p < W2.heap.size := by omega
  have hwq : w.heap.size ≤ W2.heap.size := by omega
  have HA2 : Hid (∀ x, A2 = some x → p < x.block ∧ x.block < W2.heap.size) := fun x hx => by
    subst hx
    have := HLO2.out x.block (by simp [Value.ownBlock])
    omega
  clear HB2 HC2 HS2 HLO2
  go_loopw [7] (fun i' wr => ∃ (k i : Nat) (er : Int), k ≤ len1 ∧ i' = .int .i64 k ∧ Hid (Cur wr W.heap.size p l i er A1 c1) ∧ Hid (Row wr W2.heap.size 28 #[.slice A2 l.length c2, .int .i64 (i : Int), .int .i64 er]) ∧ Hid (Sees wr W2.heap.size A2 (bts l)) ∧ Hid (Below w.heap.size w wr)) (fun i' _ => len1 - (intOf i').toNat)
  case atStart => exact ⟨0, 0, 0, Nat.zero_le _, rfl, HC3.out, HD3.out, HS3.out, HB3.out⟩
  case round =>
    clear HC3 HD3 HS3 HB3
    obtain ⟨k, i, er, hk, rfl, HCk, HDk, HSk, HBk⟩ := hrel
    by_cases hlt : k < len1
    · obtain ⟨b, o, hA, hbl, hcc⟩ := HR.out.2.2 (by omega)
      obtain ⟨kd, xa, xb, xm, ⟨q0, q1, q2, q3⟩, u0, u1, u2, u3⟩ := hcc k hlt
      have p0 := (HBk.out.cell (p := ⟨b, _, none⟩) hbl).trans q0
      have p1 := (HBk.out.cell (p := ⟨b, _, none⟩) hbl).trans q1
      have p2 := (HBk.out.cell (p := ⟨b, _, none⟩) hbl).trans q2
      have p3 := (HBk.out.cell (p := ⟨b, _, none⟩) hbl).trans q3
      have hx1 := (i64_of_wf u1).2
      have hx2 := (i64_of_wf u2).2
      have hx3 := (u64_of_wf u3).1
      subst hA
      clear hcc q0 q1 q2 q3 u0 u1 u2 u3
      by_cases hkind : kd < 0 ∨ 6 < kd
      · rcases hkind with hk1 | hk1
        case' inr => have hk2 : 0 ≤ kd := by omega
        all_goals
          go_wp2
          go_roundw
          case rel => exact ⟨k + 1, i, er, by omega, by go_num, HCk.out, HDk.out, HSk.out, HBk.out⟩
          case measure => simp [intOf]; omega
      · have hk0 : 0 ≤ kd := by omega
        have hk6 : kd ≤ 6 := by omega
        clear hkind
        have HOP := Lib.hid (op_any HCk.out kd xa xb xm l0 hx1 hx2 hx3)
        go_wp2_with fail
        refine HOP.out.mono ?_
        rintro e W5 ⟨Ax, cx, rfl, hm5, hc5, hs5, hfr5⟩
        have hwrz : W2.heap.size < wr.heap.size := HDk.out.lt
        have HFR5 := Lib.hid hfr5
        clear hfr5
        have HC5 := Lib.hid hc5
        have HX5 := Lib.hid hs5
        have HD5 := Lib.hid (HDk.out.mods hm5 fun h => by have h2 : W2.heap.size = p := h; omega)
        have HS5 := Lib.hid (hm5.sees HSk.out (Nat.le_of_lt HDk.out.lt) fun x hx hh => by have h2 : x.block = p := hh; have := HA2.out x hx; omega)
        have HB5 := Lib.hid (below_mods HBk.out hm5 (fun k hk => by unfold Is at hk; omega) (Nat.le_refl _))
        have hwpz : p < wr.heap.size := HCk.out.row.lt
        have e0 := (hm5.cell (p := ⟨b, o + k * 4, none⟩) (Nat.lt_of_lt_of_le hbl HBk.out.size) (fun h => by have h2 : b = p := h; omega)).trans p0
        have e1 := (hm5.cell (p := ⟨b, o + k * 4 + 1, none⟩) (Nat.lt_of_lt_of_le hbl HBk.out.size) (fun h => by have h2 : b = p := h; omega)).trans p1
        have e2 := (hm5.cell (p := ⟨b, o + k * 4 + 2, none⟩) (Nat.lt_of_lt_of_le hbl HBk.out.size) (fun h => by have h2 : b = p := h; omega)).trans p2
        have e3 := (hm5.cell (p := ⟨b, o + k * 4 + 3, none⟩) (Nat.lt_of_lt_of_le hbl HBk.out.size) (fun h => by have h2 : b = p := h; omega)).trans p3
        have hx7 := seven (HD5.out.cell 0) (HD5.out.cell 1) (HD5.out.cell 2) e0 e1 e2 e3
        have HX7 : Hid (W5.cell? ⟨W2.heap.size, 0, none⟩ = some (.slice A2 l.length c2) ∧ W5.cell? ⟨W2.heap.size, 1, none⟩ = some (.int .i64 (i : Int)) ∧ W5.cell? ⟨W2.heap.size, 2, none⟩ = some (.int .i64 er) ∧ W5.cell? ⟨b, o + k * 4, none⟩ = some (.int .i64 kd) ∧ W5.cell? ⟨b, o + k * 4 + 1, none⟩ = some (.int .i64 xa) ∧ W5.cell? ⟨b, o + k * 4 + 2, none⟩ = some (.int .i64 xb) ∧ W5.cell? ⟨b, o + k * 4 + 3, none⟩ = some (.int .u64 xm)) := hx7
        have hle := HCk.out.le
        have hq5 : W2.heap.size < W5.heap.size := HD5.out.lt
        have hb5 : b < W5.heap.size := Nat.lt_of_lt_of_le hbl HB5.out.size
        have hw5 : w.heap.size ≤ W5.heap.size := HB5.out.size
        clear hm5 hc5 hs5 e0 e1 e2 e3 p0 p1 p2 p3 hx7 HOP HCk HDk HSk HBk
        have HDO : Hid (∀ W', Mods No W5 W' → Calls Try.prog 11 #[CurV A2 l.length c2 i er, .agg #[.int .i64 kd, .int .i64 xa, .int .i64 xb, .int .u64 xm]] W' fun e w' =>
            ∃ A' c', e = .returned (.tuple #[CurV A2 l.length c2 (stepI i er (opT kd xa xb xm (l.drop i)) : Nat) (opE kd xa l.length i er (opT kd xa xb xm (l.drop i))), .int .u64 (opV kd er (opT kd xa xb xm (l.drop i))), .slice A' (opL kd xa er (l.drop i)).length c']) ∧
              Below W'.heap.size W' w' ∧ Sees w' W2.heap.size A' (bts (opL kd xa er (l.drop i)))) := fun W' hm =>
          do_any W2.heap.size A2 l c2 i er kd xa xb xm _ (HS5.out.below (hm.below (Nat.le_of_lt hq5) fun k hk => hk.elim)) (Nat.le_trans (Nat.le_of_lt hq5) hm.size) HBY.out hle hc2a hc2b l0 hk0 hk6 hx1 hx2 hx3
        have HK : Hid (∀ W', Mods No W5 W' → W'.cell? ⟨W2.heap.size, 0, none⟩ = some (.slice A2 l.length c2) ∧ W'.cell? ⟨W2.heap.size, 1, none⟩ = some (.int .i64 (i : Int)) ∧ W'.cell? ⟨W2.heap.size, 2, none⟩ = some (.int .i64 er) ∧ W'.cell? ⟨b, o + k * 4, none⟩ = some (.int .i64 kd) ∧ W'.cell? ⟨b, o + k * 4 + 1, none⟩ = some (.int .i64 xa) ∧ W'.cell? ⟨b, o + k * 4 + 2, none⟩ = some (.int .i64 xb) ∧ W'.cell? ⟨b, o + k * 4 + 3, none⟩ = some (.int .u64 xm)) := fun W' hm => seven ((hm.cell (p := ⟨W2.heap.size, 0, none⟩) hq5 fun h => h.elim).trans HX7.out.1) ((hm.cell (p := ⟨W2.heap.size, 1, none⟩) hq5 fun h => h.elim).trans HX7.out.2.1) ((hm.cell (p := ⟨W2.heap.size, 2, none⟩) hq5 fun h => h.elim).trans HX7.out.2.2.1) ((hm.cell (p := ⟨b, o + k * 4, none⟩) hb5 fun h => h.elim).trans HX7.out.2.2.2.1) ((hm.cell (p := ⟨b, o + k * 4 + 1, none⟩) hb5 fun h => h.elim).trans HX7.out.2.2.2.2.1) ((hm.cell (p := ⟨b, o + k * 4 + 2, none⟩) hb5 fun h => h.elim).trans HX7.out.2.2.2.2.2.1) ((hm.cell (p := ⟨b, o + k * 4 + 3, none⟩) hb5 fun h => h.elim).trans HX7.out.2.2.2.2.2.2)
        have HK2 : Hid (∀ (W' : World) (q : Nat) (X Y Z : Value), Mods No W5 W' → W5.heap.size ≤ q → (((W'.setCell ⟨q, 0, none⟩ X).setCell ⟨q, 1, none⟩ Y).setCell ⟨q, 2, none⟩ Z).cell? ⟨W2.heap.size, 0, none⟩ = some (.slice A2 l.length c2) ∧ (((W'.setCell ⟨q, 0, none⟩ X).setCell ⟨q, 1, none⟩ Y).setCell ⟨q, 2, none⟩ Z).cell? ⟨W2.heap.size, 1, none⟩ = some (.int .i64 (i : Int)) ∧ (((W'.setCell ⟨q, 0, none⟩ X).setCell ⟨q, 1, none⟩ Y).setCell ⟨q, 2, none⟩ Z).cell? ⟨W2.heap.size, 2, none⟩ = some (.int .i64 er) ∧ (((W'.setCell ⟨q, 0, none⟩ X).setCell ⟨q, 1, none⟩ Y).setCell ⟨q, 2, none⟩ Z).cell? ⟨b, o + k * 4, none⟩ = some (.int .i64 kd) ∧ (((W'.setCell ⟨q, 0, none⟩ X).setCell ⟨q, 1, none⟩ Y).setCell ⟨q, 2, none⟩ Z).cell? ⟨b, o + k * 4 + 1, none⟩ = some (.int .i64 xa) ∧ (((W'.setCell ⟨q, 0, none⟩ X).setCell ⟨q, 1, none⟩ Y).setCell ⟨q, 2, none⟩ Z).cell? ⟨b, o + k * 4 + 2, none⟩ = some (.int .i64 xb) ∧ (((W'.setCell ⟨q, 0, none⟩ X).setCell ⟨q, 1, none⟩ Y).setCell ⟨q, 2, none⟩ Z).cell? ⟨b, o + k * 4 + 3, none⟩ = some (.int .u64 xm)) := fun W' q X Y Z hm hq => HK.out _ (((hm.setCell (p := ⟨q, 0, none⟩) (.inr hq) X).setCell (p := ⟨q, 1, none⟩) (.inr hq) Y).setCell (p := ⟨q, 2, none⟩) (.inr hq) Z)
        have hLm : (opL kd xa er (l.drop i)).length ≤ 1000 := by
          unfold opL bytesL
          split
          · split
            · rw [List.length_take, List.length_drop]; omega
            · simp
          · simp
        generalize opV kd er (opT kd xa xb xm (l.drop i)) = v at *
        generalize opL kd xa er (l.drop i) = L at *
        generalize stepI i er (opT kd xa xb xm (l.drop i)) = i2 at *
        generalize opE kd xa l.length i er (opT kd xa xb xm (l.drop i)) = er2 at *
        go_wp2_with fail
        go_region_held3 (fun w' => w'.cell? ⟨W2.heap.size, 0, none⟩ = some (.slice A2 l.length c2) ∧ w'.cell? ⟨W2.heap.size, 1, none⟩ = some (.int .i64 (i : Int)) ∧ w'.cell? ⟨W2.heap.size, 2, none⟩ = some (.int .i64 er) ∧ w'.cell? ⟨b, o + k * 4, none⟩ = some (.int .i64 kd) ∧ w'.cell? ⟨b, o + k * 4 + 1, none⟩ = some (.int .i64 xa) ∧ w'.cell? ⟨b, o + k * 4 + 2, none⟩ = some (.int .i64 xb) ∧ w'.cell? ⟨b, o + k * 4 + 3, none⟩ = some (.int .u64 xm)) (first | exact HX7.out | exact HK.out _ (by first | exact ((Mods.refl No W5).alloc _).drew | exact (Mods.refl No W5).drew | exact ((Mods.refl No W5).alloc _).drewN _ | exact (Mods.refl No W5).drewN _ | exact (Mods.refl No W5).alloc _ | exact Mods.refl No W5 | exact HM6.out | exact HM6.out.drew | exact HM6.out.drewN _ | exact HM6.out.alloc _ | exact (HM6.out.alloc _).drew | exact (HM6.out.alloc _).drewN _) | exact HK2.out _ _ _ _ _ (by first | exact HM6.out | exact HM6.out.drew | exact HM6.out.drewN _ | exact HM6.out.alloc _ | exact (HM6.out.alloc _).drew | exact (HM6.out.alloc _).drewN _) (by first | exact Nat.le_refl _ | exact HM6.out.size)) (first
          | (go_at_call 11; go_must ((refine (HDO.out _ (by first | exact ((Mods.refl No W5).alloc _).drew | exact (Mods.refl No W5).drew | exact ((Mods.refl No W5).alloc _).drewN _ | exact (Mods.refl No W5).drewN _ | exact (Mods.refl No W5).alloc _ | exact Mods.refl No W5)).mono ?_; rintro e W6 ⟨Ay, cy, rfl, hb6, hsy⟩; have HM6 : Hid (Mods No W5 W6) := (by first | exact (((Mods.refl No W5).alloc _).drew).trans (Mods.of_below hb6) | exact ((Mods.refl No W5).drew).trans (Mods.of_below hb6) | exact (((Mods.refl No W5).alloc _).drewN _).trans (Mods.of_below hb6) | exact ((Mods.refl No W5).drewN _).trans (Mods.of_below hb6) | exact ((Mods.refl No W5).alloc _).trans (Mods.of_below hb6) | exact Mods.of_below hb6); have HN6 : Hid (W5.heap.size < W6.heap.size → True) := (fun _ => trivial); (try (have hrw : Row W6 W5.heap.size 28 #[.slice none 0 0, .int .i64 0, .int .i64 0] := (by first | exact (Row.new W5 28 #[.slice none 0 0, .int .i64 0, .int .i64 0]).below (below_un hb6 (Nat.le_refl _)) (by simp) | exact (Row.new W5 28 #[.slice none 0 0, .int .i64 0, .int .i64 0]).below (below_unN hb6 (Nat.le_refl _)) (by simp) | exact (Row.new W5 28 #[.slice none 0 0, .int .i64 0, .int .i64 0]).below hb6 (by simp)); have rf0 := hrw.frozen 0; have rf1 := hrw.frozen 1; have rf2 := hrw.frozen 2; have rg0 : W6.cell? ⟨W5.heap.size, 0, none⟩ = some (.slice none 0 0) := hrw.cell 0; have rg1 : W6.cell? ⟨W5.heap.size, 1, none⟩ = some (.int .i64 0) := hrw.cell 1; have rg2 : W6.cell? ⟨W5.heap.size, 2, none⟩ = some (.int .i64 0) := hrw.cell 2; have HRW := Lib.hid hrw; clear hrw)); have HSY := Lib.hid hsy; clear hb6 hsy; unfold CurV)))
          )
        · obtain ⟨X, hX⟩ : ∃ x, x = W6.alloc (.cells #[.slice A2 l.length c2, .int .i64 (i2 : Int), .int .i64 er2] 28) := ⟨_, rfl⟩
          have hmx : Mods No W5 X := by rw [hX]; exact HM6.out.alloc _
          have hsx : Sees X W2.heap.size Ay (bts L) := by rw [hX]; exact HSY.out.alloc (Nat.le_trans (Nat.le_of_lt hq5) HM6.out.size) _
          have hrx : Row X W6.heap.size 28 #[.slice A2 l.length c2, .int .i64 (i2 : Int), .int .i64 er2] := by rw [hX]; exact Row.new _ _ _
          have hq2 : W5.heap.size ≤ W6.heap.size := HM6.out.size
          rw [← hX]
          clear hX HM6 HSY HN6
          generalize W6.heap.size = q2 at *

          have HMX := Lib.hid hmx
          have HSX := Lib.hid hsx
          have hqd : Row X W2.heap.size 28 #[.slice A2 l.length c2, .int .i64 (i : Int), .int .i64 er] := HD5.out.mods hmx fun h => h.elim
          have n0 : X.cell? ⟨q2, 0, none⟩ = some (.slice A2 l.length c2) := hrx.cell 0
          have n1 : X.cell? ⟨q2, 1, none⟩ = some (.int .i64 (i2 : Int)) := hrx.cell 1
          have n2 : X.cell? ⟨q2, 2, none⟩ = some (.int .i64 er2) := hrx.cell 2
          have d0 : X.cell? ⟨W2.heap.size, 0, none⟩ = some (.slice A2 l.length c2) := hqd.cell 0
          have d1 : X.cell? ⟨W2.heap.size, 1, none⟩ = some (.int .i64 (i : Int)) := hqd.cell 1
          have d2 : X.cell? ⟨W2.heap.size, 2, none⟩ = some (.int .i64 er) := hqd.cell 2
          have df0 := hqd.frozen 0
          have df1 := hqd.frozen 1
          have df2 := hqd.frozen 2
          obtain ⟨c0, c1', c2'⟩ := set3 hqd (.slice A2 l.length c2) (.int .i64 (i2 : Int)) (.int .i64 er2)
          have HDY : Hid (Row (((X.setCell ⟨W2.heap.size, 0, none⟩ (.slice A2 l.length c2)).setCell ⟨W2.heap.size, 1, none⟩ (.int .i64 (i2 : Int))).setCell ⟨W2.heap.size, 2, none⟩ (.int .i64 er2)) W2.heap.size 28 #[.slice A2 l.length c2, .int .i64 (i2 : Int), .int .i64 er2]) := ((hqd.put 0 _).put 1 _).put 2 _
          have hmy : Mods (Is W2.heap.size) X (((X.setCell ⟨W2.heap.size, 0, none⟩ (.slice A2 l.length c2)).setCell ⟨W2.heap.size, 1, none⟩ (.int .i64 (i2 : Int))).setCell ⟨W2.heap.size, 2, none⟩ (.int .i64 er2)) := (((Mods.refl _ _).put 0 _).put 1 _).put 2 _
          have hm5y : Mods (Is W2.heap.size) W5 (((X.setCell ⟨W2.heap.size, 0, none⟩ (.slice A2 l.length c2)).setCell ⟨W2.heap.size, 1, none⟩ (.int .i64 (i2 : Int))).setCell ⟨W2.heap.size, 2, none⟩ (.int .i64 er2)) := (hmx.mono fun _ h => h.elim).trans hmy
          have HCY := Lib.hid (HC5.out.mods hm5y fun k hk => by unfold Is at hk; omega)
          have HSA := Lib.hid (hm5y.sees HS5.out (Nat.le_of_lt hq5) fun x hx hh => by have h2 : x.block = W2.heap.size := hh; have := HA2.out x hx; omega)
          have HXY := Lib.hid (hm5y.sees HX5.out (Nat.le_refl _) fun x hx hh => by have h2 : x.block = W2.heap.size := hh; have := HFR5.out x hx; omega)
          have HSY2 := Lib.hid (sees_set3 hsx (Nat.le_refl _) (.slice A2 l.length c2) (.int .i64 (i2 : Int)) (.int .i64 er2))
          have HBY2 := Lib.hid (below_mods HB5.out hm5y (fun k hk => by unfold Is at hk; omega) (Nat.le_refl _))
          clear hqd hmy hm5y hmx hsx hrx
          have hi2 : i2 ≤ l.length := HCY.out.le
          by_cases her : er2 = 0
          case' pos => have eb : (er2 != 0) = false := by simp [her]
          case' neg => have eb : (er2 != 0) = true := by simp [her]
          all_goals
            have HER := Lib.hid her
            clear her
            go_wp2_with fail
            obtain ⟨Y, hY⟩ : ∃ x, x = (((X.setCell ⟨W2.heap.size, 0, none⟩ (.slice A2 l.length c2)).setCell ⟨W2.heap.size, 1, none⟩ (.int .i64 (i2 : Int))).setCell ⟨W2.heap.size, 2, none⟩ (.int .i64 er2)) := ⟨_, rfl⟩
            rw [← hY] at HDY HCY HSA HXY HSY2 HBY2 c0 c1' c2' ⊢
            clear hY
            have HQ1 : Hid (∀ n, Calls Try.prog 12 #[.slice Ax L.length cx, .slice Ay L.length cy] (Y.drewN n) fun e w'' => e = .returned (.bool true) ∧ ∃ m, w'' = Y.drewN m) := fun n =>
              (same_at L L true L.length L.length (W5.heap.size + W2.heap.size) Ax Ay cx cy (Y.drewN n) (sameB_self L) rfl rfl (by unfold maxLen; omega) (by unfold maxLen; omega) ((HXY.out.more (by omega)).drewN n) ((HSY2.out.more (by omega)).drewN n)).mono fun _ _ ⟨he, m, hm⟩ => ⟨he, n + m, by rw [← hm, World.drewN_drewN]⟩
            have HQ2 : Hid (∀ n, Calls Try.prog 13 #[.pointer (some ⟨p, 0, none⟩)] (Y.drewN n) fun e w'' => e = .returned (.int .i64 (i2 : Int)) ∧ ∃ m, w'' = Y.drewN m) := fun n =>
              (at_any (HCY.out.drewN n)).mono fun _ _ ⟨he, hm⟩ => ⟨he, n, hm.symm⟩
            have HQ3 : Hid (∀ n, Calls Try.prog 14 #[.pointer (some ⟨p, 0, none⟩)] (Y.drewN n) fun e w'' => e = .returned (.int .i64 er2) ∧ ∃ m, w'' = Y.drewN m) := fun n =>
              (err_any (HCY.out.drewN n)).mono fun _ _ ⟨he, hm⟩ => ⟨he, n, hm.symm⟩
            have HQ4 : Hid (∀ n, Calls Try.prog 15 #[.pointer (some ⟨p, 0, none⟩)] (Y.drewN n) fun e w'' => e = .returned (.int .i64 (leftS l.length i2 er2)) ∧ ∃ m, w'' = Y.drewN m) := fun n =>
              (left_any (HCY.out.drewN n)).mono fun _ _ ⟨he, m, hm⟩ => ⟨he, n + m, by rw [← hm, World.drewN_drewN]⟩
            first
              | (have hlf : leftS l.length i2 er2 = (l.length : Int) - (i2 : Int) := if_pos HER.out
                 rw [hlf] at HQ4
                 clear hlf)
              | (have hlf : leftS l.length i2 er2 = 0 := if_neg HER.out
                 rw [hlf] at HQ4
                 clear hlf)
            go_quiet ((first | exact HQ1.out _ | exact HQ2.out _ | exact HQ3.out _ | exact HQ4.out _))
            clear HQ1 HQ2 HQ3 HQ4 c0 c1' c2'
            go_wp2
            go_roundw
            case rel => exact ⟨k + 1, i2, er2, by omega, by go_num, HCY.out.drewN _, HDY.out.drewN _, HSA.out.drewN _, blw_drewN HBY2.out _⟩
            case measure => simp [intOf]; omega
        · obtain ⟨X, hX⟩ : ∃ x, x = (((W6.setCell ⟨W5.heap.size, 0, none⟩ (.slice A2 l.length c2)).setCell ⟨W5.heap.size, 1, none⟩ (.int .i64 (i2 : Int))).setCell ⟨W5.heap.size, 2, none⟩ (.int .i64 er2)) := ⟨_, rfl⟩
          have hmx : Mods No W5 X := by rw [hX]; exact ((HM6.out.setCell (p := ⟨W5.heap.size, 0, none⟩) (.inr (Nat.le_refl _)) _).setCell (p := ⟨W5.heap.size, 1, none⟩) (.inr (Nat.le_refl _)) _).setCell (p := ⟨W5.heap.size, 2, none⟩) (.inr (Nat.le_refl _)) _
          have hsx : Sees X W2.heap.size Ay (bts L) := by rw [hX]; exact sees_set3 HSY.out (Nat.le_of_lt hq5) _ _ _
          have hrx : Row X W5.heap.size 28 #[.slice A2 l.length c2, .int .i64 (i2 : Int), .int .i64 er2] := by rw [hX]; exact ((HRW.out.put 0 _).put 1 _).put 2 _
          obtain ⟨q2, hqq⟩ : ∃ x, x = W5.heap.size := ⟨_, rfl⟩
          rw [← hX]
          rw [← hqq] at hrx ⊢
          have hq2 : W5.heap.size ≤ q2 := by omega
          clear hX HM6 HSY HN6 HRW rf0 rf1 rf2 rg0 rg1 rg2 hqq

          have HMX := Lib.hid hmx
          have HSX := Lib.hid hsx
          have hqd : Row X W2.heap.size 28 #[.slice A2 l.length c2, .int .i64 (i : Int), .int .i64 er] := HD5.out.mods hmx fun h => h.elim
          have n0 : X.cell? ⟨q2, 0, none⟩ = some (.slice A2 l.length c2) := hrx.cell 0
          have n1 : X.cell? ⟨q2, 1, none⟩ = some (.int .i64 (i2 : Int)) := hrx.cell 1
          have n2 : X.cell? ⟨q2, 2, none⟩ = some (.int .i64 er2) := hrx.cell 2
          have d0 : X.cell? ⟨W2.heap.size, 0, none⟩ = some (.slice A2 l.length c2) := hqd.cell 0
          have d1 : X.cell? ⟨W2.heap.size, 1, none⟩ = some (.int .i64 (i : Int)) := hqd.cell 1
          have d2 : X.cell? ⟨W2.heap.size, 2, none⟩ = some (.int .i64 er) := hqd.cell 2
          have df0 := hqd.frozen 0
          have df1 := hqd.frozen 1
          have df2 := hqd.frozen 2
          obtain ⟨c0, c1', c2'⟩ := set3 hqd (.slice A2 l.length c2) (.int .i64 (i2 : Int)) (.int .i64 er2)
          have HDY : Hid (Row (((X.setCell ⟨W2.heap.size, 0, none⟩ (.slice A2 l.length c2)).setCell ⟨W2.heap.size, 1, none⟩ (.int .i64 (i2 : Int))).setCell ⟨W2.heap.size, 2, none⟩ (.int .i64 er2)) W2.heap.size 28 #[.slice A2 l.length c2, .int .i64 (i2 : Int), .int .i64 er2]) := ((hqd.put 0 _).put 1 _).put 2 _
          have hmy : Mods (Is W2.heap.size) X (((X.setCell ⟨W2.heap.size, 0, none⟩ (.slice A2 l.length c2)).setCell ⟨W2.heap.size, 1, none⟩ (.int .i64 (i2 : Int))).setCell ⟨W2.heap.size, 2, none⟩ (.int .i64 er2)) := (((Mods.refl _ _).put 0 _).put 1 _).put 2 _
          have hm5y : Mods (Is W2.heap.size) W5 (((X.setCell ⟨W2.heap.size, 0, none⟩ (.slice A2 l.length c2)).setCell ⟨W2.heap.size, 1, none⟩ (.int .i64 (i2 : Int))).setCell ⟨W2.heap.size, 2, none⟩ (.int .i64 er2)) := (hmx.mono fun _ h => h.elim).trans hmy
          have HCY := Lib.hid (HC5.out.mods hm5y fun k hk => by unfold Is at hk; omega)
          have HSA := Lib.hid (hm5y.sees HS5.out (Nat.le_of_lt hq5) fun x hx hh => by have h2 : x.block = W2.heap.size := hh; have := HA2.out x hx; omega)
          have HXY := Lib.hid (hm5y.sees HX5.out (Nat.le_refl _) fun x hx hh => by have h2 : x.block = W2.heap.size := hh; have := HFR5.out x hx; omega)
          have HSY2 := Lib.hid (sees_set3 hsx (Nat.le_refl _) (.slice A2 l.length c2) (.int .i64 (i2 : Int)) (.int .i64 er2))
          have HBY2 := Lib.hid (below_mods HB5.out hm5y (fun k hk => by unfold Is at hk; omega) (Nat.le_refl _))
          clear hqd hmy hm5y hmx hsx hrx
          have hi2 : i2 ≤ l.length := HCY.out.le
          by_cases her : er2 = 0
          case' pos => have eb : (er2 != 0) = false := by simp [her]
          case' neg => have eb : (er2 != 0) = true := by simp [her]
          all_goals
            have HER := Lib.hid her
            clear her
            go_wp2_with fail
            obtain ⟨Y, hY⟩ : ∃ x, x = (((X.setCell ⟨W2.heap.size, 0, none⟩ (.slice A2 l.length c2)).setCell ⟨W2.heap.size, 1, none⟩ (.int .i64 (i2 : Int))).setCell ⟨W2.heap.size, 2, none⟩ (.int .i64 er2)) := ⟨_, rfl⟩
            rw [← hY] at HDY HCY HSA HXY HSY2 HBY2 c0 c1' c2' ⊢
            clear hY
            have HQ1 : Hid (∀ n, Calls Try.prog 12 #[.slice Ax L.length cx, .slice Ay L.length cy] (Y.drewN n) fun e w'' => e = .returned (.bool true) ∧ ∃ m, w'' = Y.drewN m) := fun n =>
              (same_at L L true L.length L.length (W5.heap.size + W2.heap.size) Ax Ay cx cy (Y.drewN n) (sameB_self L) rfl rfl (by unfold maxLen; omega) (by unfold maxLen; omega) ((HXY.out.more (by omega)).drewN n) ((HSY2.out.more (by omega)).drewN n)).mono fun _ _ ⟨he, m, hm⟩ => ⟨he, n + m, by rw [← hm, World.drewN_drewN]⟩
            have HQ2 : Hid (∀ n, Calls Try.prog 13 #[.pointer (some ⟨p, 0, none⟩)] (Y.drewN n) fun e w'' => e = .returned (.int .i64 (i2 : Int)) ∧ ∃ m, w'' = Y.drewN m) := fun n =>
              (at_any (HCY.out.drewN n)).mono fun _ _ ⟨he, hm⟩ => ⟨he, n, hm.symm⟩
            have HQ3 : Hid (∀ n, Calls Try.prog 14 #[.pointer (some ⟨p, 0, none⟩)] (Y.drewN n) fun e w'' => e = .returned (.int .i64 er2) ∧ ∃ m, w'' = Y.drewN m) := fun n =>
              (err_any (HCY.out.drewN n)).mono fun _ _ ⟨he, hm⟩ => ⟨he, n, hm.symm⟩
            have HQ4 : Hid (∀ n, Calls Try.prog 15 #[.pointer (some ⟨p, 0, none⟩)] (Y.drewN n) fun e w'' => e = .returned (.int .i64 (leftS l.length i2 er2)) ∧ ∃ m, w'' = Y.drewN m) := fun n =>
              (left_any (HCY.out.drewN n)).mono fun _ _ ⟨he, m, hm⟩ => ⟨he, n + m, by rw [← hm, World.drewN_drewN]⟩
            first
              | (have hlf : leftS l.length i2 er2 = (l.length : Int) - (i2 : Int) := if_pos HER.out
                 rw [hlf] at HQ4
                 clear hlf)
              | (have hlf : leftS l.length i2 er2 = 0 := if_neg HER.out
                 rw [hlf] at HQ4
                 clear hlf)
            go_quiet ((first | exact HQ1.out _ | exact HQ2.out _ | exact HQ3.out _ | exact HQ4.out _))
            clear HQ1 HQ2 HQ3 HQ4 c0 c1' c2'
            go_wp2
            go_roundw
            case rel => exact ⟨k + 1, i2, er2, by omega, by go_num, HCY.out.drewN _, HDY.out.drewN _, HSA.out.drewN _, blw_drewN HBY2.out _⟩
            case measure => simp [intOf]; omega
    · go_wp2
      go_ret
      exact ⟨rfl, HBk.out⟩

end Go.Proofs.Ytjgigdmjciedpaa
