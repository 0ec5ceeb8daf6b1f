/-
  The walk of the statement that a cursor and a writer are independent of the slices that they were given and returned.
-/
import Derived.Test.YtjgigdmjciedpaaCurAwake
import Derived.Test.YtjgigdmjciedpaaAppend
import Derived.Deep.RegionWith
import Derived.Deep.RegionHeld3
import Derived.Deep.DeepMust
namespace Go.Proofs.Ytjgigdmjciedpaa
open Go.RowKit
set_option linter.unusedVariables false

theorem own_addr {w : World} {base n c : Nat} {e : TypeId} {A : Option Addr} {xs : List Value} (h : w.ownsRow base e 1 (.slice A n c) n xs) {k : Nat} (hk : k < n) : ∃ g, A = some ⟨g, 0, none⟩ ∧ base ≤ g := by
  rcases h.2 with ⟨_, h0⟩ | ⟨g, cap, cur, hv, hg, _⟩
  · omega
  · injection hv with hA
    exact ⟨g, hA, hg⟩
def OwnOf (v : Value) : Nat → Prop := fun k => v.ownBlock = some k
theorem ownOf_some (g n c : Nat) : OwnOf (.slice (some ⟨g, 0, none⟩) n c) g := rfl
/-- An own slice of bytes whose contents do not matter any more. -/
def OwnB (w : World) (B : Nat) (A : Option Addr) (n c : Nat) : Prop := ∃ zs : List Int, zs.length = n ∧ w.ownsRow B 5 1 (.slice A n c) n (zs.map (Value.int .u8))
theorem OwnB.of {w : World} {B n c : Nat} {A : Option Addr} {l : List Nat} (h : w.ownsRow B 5 1 (.slice A n c) n (bts l)) (hl : l.length = n) : OwnB w B A n c :=
  ⟨l.map fun x : Nat => (x : Int), by simp [hl], by rw [List.map_map]; exact h⟩
theorem OwnB.cell {w : World} {B n c k : Nat} {A : Option Addr} (h : OwnB w B A n c) (hk : k < n) : ∃ (g : Nat) (y : Int), A = some ⟨g, 0, none⟩ ∧ B ≤ g ∧ w.cell? ⟨g, k, none⟩ = some (.int .u8 y) ∧ w.frozen? ⟨g, k, none⟩ = false ∧ (∀ z : Int, OwnB (w.setCell ⟨g, k, none⟩ (.int .u8 z)) B A n c) := by
  obtain ⟨zs, hz, ho⟩ := h
  obtain ⟨g, rfl, hg⟩ := own_addr ho hk
  have hzk : k < zs.length := by omega
  exact ⟨g, zs[k], rfl, hg, (ho.cellAt k (by omega)).trans (by simp [hzk]), ho.frozenAt k, fun z => ⟨zs.set k z, by simp [hz], by rw [List.map_set]; exact (ho.stored k _).1⟩⟩

set_option maxRecDepth 100000 in
set_option maxHeartbeats 16000000 in
theorem CursorKeeps_walk (a0 : Option Addr) (len0 cap0 : Nat) (z0 : List Int) (a1 : Int) (w : World) (w0 : IsRow .u8 w a0 len0 cap0 z0) (w1 : (Lit.int .u8 a1).wf = true) :
    Calls Try.prog 7 #[.slice a0 len0 cap0, .int .u8 a1] w fun e w' => e = .returned (.bool true) ∧ Below w.heap.size w w' := by
  obtain ⟨v0, v1⟩ := u8_of_wf w1
  obtain ⟨l, rfl, hby, hs, hlc, hcm⟩ := w0.bytes
  clear w0 w1
  by_cases hlong : 1000 < l.length
  · go_enter Try.func7, Try.ntmps7
    go_wp2_with fail
    refine (awake_any _).mono ?_
    rintro e W ⟨rfl, hb⟩
    go_wp2_with fail
    refine (awake_any _).mono ?_
    rintro e W2 ⟨rfl, hb2⟩
    go_wp2_with fail
    go_ret
    exact ⟨rfl, hb.trans (hb2.mono hb.size)⟩
  have hl3 : l.length ≤ 1000 := by omega
  obtain ⟨i0, hi, hz0, hz1, hz2⟩ := info_parts infoU8
  clear hlong
  go_enter Try.func7, Try.ntmps7
  go_wp2_with fail
  refine (awake_any _).mono ?_
  rintro e W ⟨rfl, hb⟩
  have hz := hb.size
  have s1 := (hs.below hb).more hz
  go_wp2_with (at_builtin; refine wpList_append_sees _ rfl (.tmp 24) (.tmp 25) 22 rfl W.heap.size 5 i0 (.int .u8 0) 1 Try.underlying22 hi hz0 hz1 hz2 rfl _ _ _ rfl (World.ownsRow_made W #[] 0 (Nat.le_refl _) (by decide) rfl) W.heap.size _ _ _ (bts l) rfl (s1.alloc (Nat.le_refl _) _) (bts_length _) (bts_one _) ?c1 ?c2 ?c3 ?_)
  case c1 => unfold maxLen; omega
  case c2 => omega
  case c3 => simp
  intro va W1 ho1 hg1
  have hb1 : Below W.heap.size W W1 := ((Below.refl _ _).alloc (Nat.le_refl _) _).grown hg1 (by simp) (fun k hk => by simp [Value.ownBlock] at hk; omega)
  replace ho1 : W1.ownsRow W.heap.size 5 1 va l.length (bts l) := by simpa using ho1
  obtain ⟨A1, c1, rfl, hc1, hc2⟩ := own_slice ho1 (bts_length _)
  have hlo := own_lt ho1
  have HO1 := Lib.hid ho1
  have HB1 := Lib.hid (hb.trans (hb1.mono hz))
  have HS1 := Lib.hid (hs.below (hb.trans (hb1.mono hz)))
  have hz1w : W.heap.size ≤ W1.heap.size := hb1.size
  clear ho1 hg1 hb1 hb hs s1
  go_wp2_with fail
  refine (new_any A1 l W1.heap.size c1 W1 (Sees.of_own HO1.out) (Nat.le_refl _) hby (by omega)).mono ?_
  rintro e W2 ⟨p, A2, c2, rfl, hp, hcu, hb2⟩
  have HC := Lib.hid hcu
  have HO2 := Lib.hid ((Mods.of_below (S := No) hb2).own HO1.out fun _ _ h => h.elim)
  have HB2 := Lib.hid (HB1.out.trans (hb2.mono HB1.out.size))
  have HS2 := Lib.hid (HS1.out.below (hb2.mono HB1.out.size))
  have hz2w : W1.heap.size ≤ W2.heap.size := hb2.size
  have hpl := hcu.row.lt
  clear hcu hb2 HO1 HB1 HS1
  go_wp2_with fail
  have hal : Mods No W2 (W2.alloc (.cells #[.slice none 0 0] 45)) := (Mods.refl _ _).alloc _
  have hwb := wbytes_any (Wri.new W2) A1 l c1 W2.heap.size ((Sees.of_own HO2.out).alloc (Nat.le_refl _) _) (by simp) (by simp; omega)
  have HWB := Lib.hid hwb
  have HAL := Lib.hid hal
  clear hwb hal
  refine HWB.out.mono ?_
  rintro e W3 ⟨rfl, ⟨vw, hw⟩, hm3⟩
  rw [List.nil_append] at hw
  have hmm : Mods (From W2.heap.size) W2 W3 := (HAL.out.mono fun _ h => h.elim).trans hm3
  have HW := Lib.hid hw
  have HC3 := Lib.hid (HC.out.mods hmm fun k hk => by unfold From at hk; omega)
  have HO3 := Lib.hid (OwnB.of (hmm.own HO2.out fun k hk hs => by have := hlo k hk; unfold From at hs; omega) rfl)
  have HB3 := Lib.hid (below_mods HB2.out hmm (fun k hk => by unfold From at hk; omega) (Nat.le_refl _))
  have HS3 := Lib.hid (HS2.out.below (hmm.below (Nat.le_trans HB2.out.size (Nat.le_refl _)) (fun k hk => by have := HB2.out.size; unfold From at hk; omega)))
  have hqz := hw.row.lt
  have hz3w : W2.heap.size ≤ W3.heap.size := hmm.size
  clear hw hm3 hmm HWB HAL HC HO2 HB2 HS2
  go_wp2_with fail
  have Hlo1 := Lib.hid hlo
  clear hlo
  go_loopw [8] (fun i wr => ∃ k : Nat, k ≤ l.length ∧ i = .int .i64 k ∧ Hid (OwnB wr W.heap.size A1 l.length c1) ∧ Hid (Mods (OwnOf (.slice A1 l.length c1)) W3 wr)) (fun i _ => l.length - (intOf i).toNat)
  case atStart => exact ⟨0, Nat.zero_le _, rfl, HO3.out, Mods.refl _ _⟩
  case round =>
    obtain ⟨k, hk, rfl, HOW, HMW⟩ := hrel
    by_cases hlt : k < l.length
    · obtain ⟨g, y, rfl, hgb, hcell, hfr, hst⟩ := HOW.out.cell hlt
      have HT := Lib.hid hst
      clear hst HOW
      go_wp2
      go_roundw
      case rel => exact ⟨k + 1, by omega, by go_num, HT.out _, HMW.out.setCell (p := ⟨g, k, none⟩) (.inl (ownOf_some g _ _)) _⟩
      case measure => simp [intOf]; omega
    · clear HOW
      have hS : ∀ k, OwnOf (.slice A1 l.length c1) k → W.heap.size ≤ k ∧ k < W1.heap.size := Hlo1.out
      have HC4 := Lib.hid (HC3.out.mods HMW.out fun k hk => by have := hS k hk; omega)
      have HW4 := Lib.hid (HW.out.mods HMW.out fun k hk => by have := hS k hk; omega)
      have HB4 := Lib.hid (below_mods HB3.out HMW.out (fun k hk => by have := hS k hk; omega) (Nat.le_refl _))
      have HS4 := Lib.hid (HS3.out.below (HMW.out.below HB3.out.size fun k hk => by have := hS k hk; omega))
      have hz4 := HMW.out.size
      clear HMW HC3 HW HB3 HS3 HO3 hS Hlo1
      obtain ⟨W4, hW4⟩ : ∃ x, x = wr := ⟨_, rfl⟩
      subst hW4
      by_cases hmin : a1 < (l.length : Int)
      · obtain ⟨kn, rfl⟩ := Int.eq_ofNat_of_zero_le v0
        have hkn : kn ≤ l.length := by omega
        have hkn2 : kn < l.length := by omega
        go_wp2_with fail
        refine (bytes_ok HC4.out kn (by omega) (by omega)).mono ?_
        rintro e W5 ⟨A3, c3, rfl, hm5, hc5, ho5⟩
        rw [List.drop_zero] at ho5
        have hlo5 := own_lt ho5
        have htk : (l.take kn).length = kn := by rw [List.length_take]; omega
        have HTK := Lib.hid htk
        have HSE := Lib.hid (sameB_self (l.take kn))
        have HC5 := Lib.hid hc5
        have HW5 := Lib.hid (HW4.out.mods hm5 fun k hk => by unfold Is at hk; omega)
        have HB5 := Lib.hid (below_mods HB4.out hm5 (fun k hk => by have := HB4.out.size; unfold Is at hk; omega) (Nat.le_refl _))
        have HS5 := Lib.hid (HS4.out.below (hm5.below HB4.out.size fun k hk => by unfold Is at hk; omega))
        have hst5 : Sees W5 w.heap.size a0 (bts (l.take kn)) := by have := HS5.out.take (k := kn); unfold bts at *; rwa [List.map_take]
        have HST5 := Lib.hid hst5
        have HX5 := Lib.hid (Sees.of_own ho5)
        have HO5 := Lib.hid (OwnB.of ho5 htk)
        have Hlo5 := Lib.hid hlo5
        have hz5 : W4.heap.size ≤ W5.heap.size := hm5.size
        have hwz5 : w.heap.size ≤ W5.heap.size := HB5.out.size
        clear htk hm5 hc5 ho5 hlo5 hst5 HC4 HW4 HB4 HS4
        go_wp2_with fail
        refine (same_at (l.take kn) (l.take kn) _ _ _ W5.heap.size _ _ _ _ _ HSE.out HTK.out HTK.out (by unfold maxLen; omega) (by unfold maxLen; omega) HX5.out (HST5.out.more hwz5)).mono ?_
        rintro e W6 ⟨rfl, n6, rfl⟩
        have HC6 := Lib.hid (HC5.out.drewN n6)
        have HW6 := Lib.hid (HW5.out.drewN n6)
        have HB6 := Lib.hid (blw_drewN HB5.out n6)
        have HS6 := Lib.hid (HS5.out.drewN n6)
        have HO6 : Hid (OwnB (W5.drewN n6) W4.heap.size A3 kn c3) := HO5
        have hz6 : W4.heap.size ≤ (W5.drewN n6).heap.size := hz5
        have hlo6 : ∀ k, (Value.slice A3 kn c3).ownBlock = some k → W4.heap.size ≤ k ∧ k < (W5.drewN n6).heap.size := Hlo5.out
        have Hlo6 := Lib.hid hlo6
        generalize W5.drewN n6 = W6 at *
        clear HX5 HST5 HC5 HW5 HB5 HS5 HO5 Hlo5 hlo6 hz5 hwz5
        go_wp2_with fail
        go_loopw [12] (fun i wr => ∃ k : Nat, k ≤ kn ∧ i = .int .i64 k ∧ Hid (OwnB wr W4.heap.size A3 kn c3) ∧ Hid (Mods (OwnOf (.slice A3 kn c3)) W6 wr)) (fun i _ => kn - (intOf i).toNat)
        case atStart => exact ⟨0, Nat.zero_le _, rfl, HO6.out, Mods.refl _ _⟩
        case round =>
          obtain ⟨k, hk, rfl, HOW, HMW⟩ := hrel
          by_cases hlt : k < kn
          · obtain ⟨g, y, rfl, hgb, hcell, hfr, hst⟩ := HOW.out.cell hlt
            have HT := Lib.hid hst
            clear hst HOW
            go_wp2
            go_roundw
            case rel => exact ⟨k + 1, by omega, by go_num, HT.out _, HMW.out.setCell (p := ⟨g, k, none⟩) (.inl (ownOf_some g _ _)) _⟩
            case measure => simp [intOf]; omega
          · clear HOW
            have hS : ∀ k, OwnOf (.slice A3 kn c3) k → W4.heap.size ≤ k ∧ k < W6.heap.size := Hlo6.out
            have HC7 := Lib.hid (HC6.out.mods HMW.out fun k hk => by have := hS k hk; omega)
            have HW7 := Lib.hid (HW6.out.mods HMW.out fun k hk => by have := hS k hk; omega)
            have HB7 := Lib.hid (below_mods HB6.out HMW.out (fun k hk => by have := hS k hk; omega) (Nat.le_refl _))
            have HS7 := Lib.hid (HS6.out.below (HMW.out.below HB6.out.size fun k hk => by have := hS k hk; omega))
            have hz7 : W6.heap.size ≤ wr.heap.size := HMW.out.size
            clear HMW HC6 HW6 HB6 HS6 HO6 hS Hlo6
            obtain ⟨W7, hW7⟩ : ∃ x, x = wr := ⟨_, rfl⟩
            subst hW7
            have HOut := Lib.hid (out_any HW7.out (by omega))
            go_wp2_with fail
            refine HOut.out.mono ?_
            rintro e W8 ⟨A8, c8, rfl, ho8, hb8⟩
            have hlo8 := own_lt ho8
            have HSL := Lib.hid (sameB_self l)
            have hmB : Mods No W7 W8 := Mods.of_below hb8
            have HC8 := Lib.hid (HC7.out.mods hmB fun k hk => hk.elim)
            have HW8 := Lib.hid (HW7.out.mods hmB fun k hk => hk.elim)
            have HB8 := Lib.hid (HB7.out.trans (hb8.mono HB7.out.size))
            have HS8 := Lib.hid (HS7.out.below (hb8.mono HB7.out.size))
            have HX8 := Lib.hid (Sees.of_own ho8)
            have HO8 := Lib.hid (OwnB.of ho8 rfl)
            have Hlo8 := Lib.hid hlo8
            have hz8 : W7.heap.size ≤ W8.heap.size := hb8.size
            have hwz8 : w.heap.size ≤ W8.heap.size := HB8.out.size
            clear ho8 hb8 hlo8 hmB HC7 HW7 HB7 HS7 HOut
            go_wp2_with fail
            refine (same_at l l _ _ _ W8.heap.size _ _ _ _ _ HSL.out rfl rfl (by unfold maxLen; omega) (by unfold maxLen; omega) HX8.out (HS8.out.more hwz8)).mono ?_
            rintro e W9 ⟨rfl, n9, rfl⟩
            have HC9 := Lib.hid (HC8.out.drewN n9)
            have HW9 := Lib.hid (HW8.out.drewN n9)
            have HB9 := Lib.hid (blw_drewN HB8.out n9)
            have HS9 := Lib.hid (HS8.out.drewN n9)
            have HO9 : Hid (OwnB (W8.drewN n9) W7.heap.size A8 l.length c8) := HO8
            have hz9 : W7.heap.size ≤ (W8.drewN n9).heap.size := hz8
            have Hlo9 : Hid (∀ k, (Value.slice A8 l.length c8).ownBlock = some k → W7.heap.size ≤ k ∧ k < (W8.drewN n9).heap.size) := Hlo8
            generalize W8.drewN n9 = W9 at *
            clear HX8 HC8 HW8 HB8 HS8 HO8 Hlo8 hz8 hwz8
            go_wp2_with fail
            go_loopw [15] (fun i wr => ∃ k : Nat, k ≤ l.length ∧ i = .int .i64 k ∧ Hid (OwnB wr W7.heap.size A8 l.length c8) ∧ Hid (Mods (OwnOf (.slice A8 l.length c8)) W9 wr)) (fun i _ => l.length - (intOf i).toNat)
            case atStart => exact ⟨0, Nat.zero_le _, rfl, HO9.out, Mods.refl _ _⟩
            case round =>
              obtain ⟨k, hk, rfl, HOW, HMW⟩ := hrel
              by_cases hlt : k < l.length
              · obtain ⟨g, y, rfl, hgb, hcell, hfr, hst⟩ := HOW.out.cell hlt
                have HT := Lib.hid hst
                clear hst HOW
                go_wp2
                go_roundw
                case rel => exact ⟨k + 1, by omega, by go_num, HT.out _, HMW.out.setCell (p := ⟨g, k, none⟩) (.inl (ownOf_some g _ _)) _⟩
                case measure => simp [intOf]; omega
              · clear HOW
                have hS : ∀ k, OwnOf (.slice A8 l.length c8) k → W7.heap.size ≤ k ∧ k < W9.heap.size := Hlo9.out
                have HC10 := Lib.hid (HC9.out.mods HMW.out fun k hk => by have := hS k hk; omega)
                have HW10 := Lib.hid (HW9.out.mods HMW.out fun k hk => by have := hS k hk; omega)
                have HB10 := Lib.hid (below_mods HB9.out HMW.out (fun k hk => by have := hS k hk; omega) (Nat.le_refl _))
                have HS10 := Lib.hid (HS9.out.below (HMW.out.below HB9.out.size fun k hk => by have := hS k hk; omega))
                have hz10 : W9.heap.size ≤ wr.heap.size := HMW.out.size
                clear HMW HC9 HW9 HB9 HS9 HO9 hS Hlo9
                obtain ⟨W10, hW10⟩ : ∃ x, x = wr := ⟨_, rfl⟩
                subst hW10
                go_wp2_with fail
                have hbz : Below w.heap.size w W10 := HB10.out
                have hwz : w.heap.size ≤ W10.heap.size := hbz.size
                have hdl : (l.drop kn).length = l.length - kn := List.length_drop
                have HDL := Lib.hid hdl
                have HSD := Lib.hid (sameB_self (l.drop kn))
                have HCX : Hid (Cur W10 W1.heap.size p l kn 0 A2 c2) := by have := HC10.out; rwa [Nat.zero_add] at this
                have HWX : Hid (∀ W', (∃ m, W' = W10.drewN m) → Calls Try.prog 20 #[.pointer (some ⟨W2.heap.size, 0, none⟩)] W' (Fresh W' l)) := fun W' ⟨m, hW'⟩ => by subst hW'; exact out_any (HW10.out.drewN m) (by omega)
                have hsd := HS10.out.drop (k := kn) (cap := cap0) (by rw [bts_length]; exact hlc)
                rw [show (bts l).drop kn = bts (l.drop kn) from by simp [bts]] at hsd
                clear hdl
                have hcap : ¬ cap0 = kn := by omega
                rw [if_neg hcap] at hsd
                have HSDr := Lib.hid hsd
                clear hsd hbz
                go_region_held3 (fun w' => Below w.heap.size W10 w') (first | exact Below.refl _ _ | exact (Below.refl _ _).drew | assumption | exact blw_drewN (by assumption) _ | exact Below.drew (by assumption)) (first
                  | (go_at_call 20; go_must (((with_reducible refine (HWX.out _ (by first | exact ⟨1, rfl⟩ | exact ⟨0, rfl⟩ | exact ⟨_, rfl⟩)).mono ?_); rintro e Wa ⟨Aa, ca, rfl, hoa, hba⟩; have hma : Mods No W10 Wa := (Mods.of_below hba).un; have kba : Below w.heap.size W10 Wa := hma.below hwz (fun _ h => h.elim); have HXa := Lib.hid (Sees.of_own hoa); have HSa := Lib.hid ((HS10.out.below kba).more (Nat.le_trans hwz hma.size)); have HCa : Hid (∀ W', (∃ m, W' = Wa.drewN m) → Cur W' W1.heap.size p l kn 0 A2 c2) := fun W' ⟨m, hW'⟩ => (by subst hW'; exact (HCX.out.mods hma fun k hk => hk.elim).drewN m); have hza : W10.heap.size ≤ Wa.heap.size := hma.size; clear hoa hba hma)))
                  | (go_at_call_of 12 Aa; go_must ((refine (same_at l l _ _ _ Wa.heap.size _ _ _ _ _ HSL.out rfl rfl (by unfold maxLen; omega) (by unfold maxLen; omega) ?_ ?_).mono ?_; exact HXa.out; exact HSa.out; rintro e Wb ⟨rfl, nb, rfl⟩)))
                  | (go_at_call 25; go_must ((refine (bytes_okI (HCa.out _ (by first | exact ⟨_, rfl⟩ | exact ⟨1, rfl⟩ | exact ⟨0, rfl⟩)) (l.length - kn) _ (by first | omega | (rw [IntKind.wrap_i64]; omega)) (by omega) (by omega)).mono ?_; rintro e Wc ⟨Ac, cc, rfl, hmc, hcc, hoc⟩; have kbc : Below w.heap.size W10 Wc := kba.trans ((by first | exact hmc.unN | exact hmc.un | exact hmc.un.unN : Mods (Is p) Wa Wc).below (Nat.le_trans hwz hza) (fun k hk => by unfold Is at hk; omega)); have hzc : W10.heap.size ≤ Wc.heap.size := kbc.size; have HXc := Lib.hid (Sees.of_own hoc); have HDc := Lib.hid (((HSDr.out.below kbc)).more (Nat.le_trans hwz hzc)); clear hmc hcc hoc)))
                  | (go_at_call_of 12 Ac; go_must ((refine (same_at (l.drop kn) (l.drop kn) _ _ _ Wc.heap.size _ _ _ _ _ HSD.out HDL.out HDL.out (by unfold maxLen; omega) (by unfold maxLen; omega) ?_ ?_).mono ?_; (have h9 := HXc.out; rw [List.take_of_length_le (by rw [List.length_drop]; omega)] at h9; exact h9); exact HDc.out; rintro e Wd ⟨rfl, nd, rfl⟩)))
                  )
                go_wp2
                go_ret
                exact ⟨rfl, HB10.out.trans (blw_drewN kbc _)⟩
      · by_cases hme : a1 = (l.length : Int)
        case' pos => subst a1
        case' neg => have hme' : (l.length : Int) < a1 := by omega
        all_goals
          clear hmin
          go_wp2_with fail
          refine (bytes_ok HC4.out l.length (by omega) (by omega)).mono ?_
          rintro e W5 ⟨A3, c3, rfl, hm5, hc5, ho5⟩
          rw [List.drop_zero] at ho5
          have hlo5 := own_lt ho5
          have htk : (l.take l.length).length = l.length := by rw [List.length_take]; omega
          have HTK := Lib.hid htk
          have HSE := Lib.hid (sameB_self (l.take l.length))
          have HC5 := Lib.hid hc5
          have HW5 := Lib.hid (HW4.out.mods hm5 fun k hk => by unfold Is at hk; omega)
          have HB5 := Lib.hid (below_mods HB4.out hm5 (fun k hk => by have := HB4.out.size; unfold Is at hk; omega) (Nat.le_refl _))
          have HS5 := Lib.hid (HS4.out.below (hm5.below HB4.out.size fun k hk => by unfold Is at hk; omega))
          have hst5 : Sees W5 w.heap.size a0 (bts (l.take l.length)) := by have := HS5.out.take (k := l.length); unfold bts at *; rwa [List.map_take]
          have HST5 := Lib.hid hst5
          have HX5 := Lib.hid (Sees.of_own ho5)
          have HO5 := Lib.hid (OwnB.of ho5 htk)
          have Hlo5 := Lib.hid hlo5
          have hz5 : W4.heap.size ≤ W5.heap.size := hm5.size
          have hwz5 : w.heap.size ≤ W5.heap.size := HB5.out.size
          clear htk hm5 hc5 ho5 hlo5 hst5 HC4 HW4 HB4 HS4
          go_wp2_with fail
          refine (same_at (l.take l.length) (l.take l.length) _ _ _ W5.heap.size _ _ _ _ _ HSE.out HTK.out HTK.out (by unfold maxLen; omega) (by unfold maxLen; omega) HX5.out (HST5.out.more hwz5)).mono ?_
          rintro e W6 ⟨rfl, n6, rfl⟩
          have HC6 := Lib.hid (HC5.out.drewN n6)
          have HW6 := Lib.hid (HW5.out.drewN n6)
          have HB6 := Lib.hid (blw_drewN HB5.out n6)
          have HS6 := Lib.hid (HS5.out.drewN n6)
          have HO6 : Hid (OwnB (W5.drewN n6) W4.heap.size A3 l.length c3) := HO5
          have hz6 : W4.heap.size ≤ (W5.drewN n6).heap.size := hz5
          have hlo6 : ∀ k, (Value.slice A3 l.length c3).ownBlock = some k → W4.heap.size ≤ k ∧ k < (W5.drewN n6).heap.size := Hlo5.out
          have Hlo6 := Lib.hid hlo6
          generalize W5.drewN n6 = W6 at *
          clear HX5 HST5 HC5 HW5 HB5 HS5 HO5 Hlo5 hlo6 hz5 hwz5
          go_wp2_with fail
          go_loopw [12] (fun i wr => ∃ k : Nat, k ≤ l.length ∧ i = .int .i64 k ∧ Hid (OwnB wr W4.heap.size A3 l.length c3) ∧ Hid (Mods (OwnOf (.slice A3 l.length c3)) W6 wr)) (fun i _ => l.length - (intOf i).toNat)
          case atStart => exact ⟨0, Nat.zero_le _, rfl, HO6.out, Mods.refl _ _⟩
          case round =>
            obtain ⟨k, hk, rfl, HOW, HMW⟩ := hrel
            by_cases hlt : k < l.length
            · obtain ⟨g, y, rfl, hgb, hcell, hfr, hst⟩ := HOW.out.cell hlt
              have HT := Lib.hid hst
              clear hst HOW
              go_wp2
              go_roundw
              case rel => exact ⟨k + 1, by omega, by go_num, HT.out _, HMW.out.setCell (p := ⟨g, k, none⟩) (.inl (ownOf_some g _ _)) _⟩
              case measure => simp [intOf]; omega
            · clear HOW
              have hS : ∀ k, OwnOf (.slice A3 l.length c3) k → W4.heap.size ≤ k ∧ k < W6.heap.size := Hlo6.out
              have HC7 := Lib.hid (HC6.out.mods HMW.out fun k hk => by have := hS k hk; omega)
              have HW7 := Lib.hid (HW6.out.mods HMW.out fun k hk => by have := hS k hk; omega)
              have HB7 := Lib.hid (below_mods HB6.out HMW.out (fun k hk => by have := hS k hk; omega) (Nat.le_refl _))
              have HS7 := Lib.hid (HS6.out.below (HMW.out.below HB6.out.size fun k hk => by have := hS k hk; omega))
              have hz7 : W6.heap.size ≤ wr.heap.size := HMW.out.size
              clear HMW HC6 HW6 HB6 HS6 HO6 hS Hlo6
              obtain ⟨W7, hW7⟩ : ∃ x, x = wr := ⟨_, rfl⟩
              subst hW7
              have HOut := Lib.hid (out_any HW7.out (by omega))
              go_wp2_with fail
              refine HOut.out.mono ?_
              rintro e W8 ⟨A8, c8, rfl, ho8, hb8⟩
              have hlo8 := own_lt ho8
              have HSL := Lib.hid (sameB_self l)
              have hmB : Mods No W7 W8 := Mods.of_below hb8
              have HC8 := Lib.hid (HC7.out.mods hmB fun k hk => hk.elim)
              have HW8 := Lib.hid (HW7.out.mods hmB fun k hk => hk.elim)
              have HB8 := Lib.hid (HB7.out.trans (hb8.mono HB7.out.size))
              have HS8 := Lib.hid (HS7.out.below (hb8.mono HB7.out.size))
              have HX8 := Lib.hid (Sees.of_own ho8)
              have HO8 := Lib.hid (OwnB.of ho8 rfl)
              have Hlo8 := Lib.hid hlo8
              have hz8 : W7.heap.size ≤ W8.heap.size := hb8.size
              have hwz8 : w.heap.size ≤ W8.heap.size := HB8.out.size
              clear ho8 hb8 hlo8 hmB HC7 HW7 HB7 HS7 HOut
              go_wp2_with fail
              refine (same_at l l _ _ _ W8.heap.size _ _ _ _ _ HSL.out rfl rfl (by unfold maxLen; omega) (by unfold maxLen; omega) HX8.out (HS8.out.more hwz8)).mono ?_
              rintro e W9 ⟨rfl, n9, rfl⟩
              have HC9 := Lib.hid (HC8.out.drewN n9)
              have HW9 := Lib.hid (HW8.out.drewN n9)
              have HB9 := Lib.hid (blw_drewN HB8.out n9)
              have HS9 := Lib.hid (HS8.out.drewN n9)
              have HO9 : Hid (OwnB (W8.drewN n9) W7.heap.size A8 l.length c8) := HO8
              have hz9 : W7.heap.size ≤ (W8.drewN n9).heap.size := hz8
              have Hlo9 : Hid (∀ k, (Value.slice A8 l.length c8).ownBlock = some k → W7.heap.size ≤ k ∧ k < (W8.drewN n9).heap.size) := Hlo8
              generalize W8.drewN n9 = W9 at *
              clear HX8 HC8 HW8 HB8 HS8 HO8 Hlo8 hz8 hwz8
              go_wp2_with fail
              go_loopw [15] (fun i wr => ∃ k : Nat, k ≤ l.length ∧ i = .int .i64 k ∧ Hid (OwnB wr W7.heap.size A8 l.length c8) ∧ Hid (Mods (OwnOf (.slice A8 l.length c8)) W9 wr)) (fun i _ => l.length - (intOf i).toNat)
              case atStart => exact ⟨0, Nat.zero_le _, rfl, HO9.out, Mods.refl _ _⟩
              case round =>
                obtain ⟨k, hk, rfl, HOW, HMW⟩ := hrel
                by_cases hlt : k < l.length
                · obtain ⟨g, y, rfl, hgb, hcell, hfr, hst⟩ := HOW.out.cell hlt
                  have HT := Lib.hid hst
                  clear hst HOW
                  go_wp2
                  go_roundw
                  case rel => exact ⟨k + 1, by omega, by go_num, HT.out _, HMW.out.setCell (p := ⟨g, k, none⟩) (.inl (ownOf_some g _ _)) _⟩
                  case measure => simp [intOf]; omega
                · clear HOW
                  have hS : ∀ k, OwnOf (.slice A8 l.length c8) k → W7.heap.size ≤ k ∧ k < W9.heap.size := Hlo9.out
                  have HC10 := Lib.hid (HC9.out.mods HMW.out fun k hk => by have := hS k hk; omega)
                  have HW10 := Lib.hid (HW9.out.mods HMW.out fun k hk => by have := hS k hk; omega)
                  have HB10 := Lib.hid (below_mods HB9.out HMW.out (fun k hk => by have := hS k hk; omega) (Nat.le_refl _))
                  have HS10 := Lib.hid (HS9.out.below (HMW.out.below HB9.out.size fun k hk => by have := hS k hk; omega))
                  have hz10 : W9.heap.size ≤ wr.heap.size := HMW.out.size
                  clear HMW HC9 HW9 HB9 HS9 HO9 hS Hlo9
                  obtain ⟨W10, hW10⟩ : ∃ x, x = wr := ⟨_, rfl⟩
                  subst hW10
                  go_wp2_with fail
                  have hbz : Below w.heap.size w W10 := HB10.out
                  have hwz : w.heap.size ≤ W10.heap.size := hbz.size
                  have hdl : (l.drop l.length).length = l.length - l.length := List.length_drop
                  have HDL := Lib.hid hdl
                  have HSD := Lib.hid (sameB_self (l.drop l.length))
                  have HCX : Hid (Cur W10 W1.heap.size p l l.length 0 A2 c2) := by have := HC10.out; rwa [Nat.zero_add] at this
                  have HWX : Hid (∀ W', (∃ m, W' = W10.drewN m) → Calls Try.prog 20 #[.pointer (some ⟨W2.heap.size, 0, none⟩)] W' (Fresh W' l)) := fun W' ⟨m, hW'⟩ => by subst hW'; exact out_any (HW10.out.drewN m) (by omega)
                  have hsd := HS10.out.drop (k := l.length) (cap := cap0) (by rw [bts_length]; exact hlc)
                  rw [show (bts l).drop l.length = bts (l.drop l.length) from by simp [bts]] at hsd
                  clear hdl
                  by_cases hcap : cap0 = l.length
                  all_goals
                    clear hsd hbz
                    go_region_held3 (fun w' => Below w.heap.size W10 w') (first | exact Below.refl _ _ | exact (Below.refl _ _).drew | assumption | exact blw_drewN (by assumption) _ | exact Below.drew (by assumption)) (first
                      | (go_at_call 20; go_must (((with_reducible refine (HWX.out _ (by first | exact ⟨1, rfl⟩ | exact ⟨0, rfl⟩ | exact ⟨_, rfl⟩)).mono ?_); rintro e Wa ⟨Aa, ca, rfl, hoa, hba⟩; have hma : Mods No W10 Wa := (Mods.of_below hba).un; have kba : Below w.heap.size W10 Wa := hma.below hwz (fun _ h => h.elim); have HXa := Lib.hid (Sees.of_own hoa); have HSa := Lib.hid ((HS10.out.below kba).more (Nat.le_trans hwz hma.size)); have HCa : Hid (∀ W', (∃ m, W' = Wa.drewN m) → Cur W' W1.heap.size p l l.length 0 A2 c2) := fun W' ⟨m, hW'⟩ => (by subst hW'; exact (HCX.out.mods hma fun k hk => hk.elim).drewN m); have hza : W10.heap.size ≤ Wa.heap.size := hma.size; clear hoa hba hma)))
                      | (go_at_call_of 12 Aa; go_must ((refine (same_at l l _ _ _ Wa.heap.size _ _ _ _ _ HSL.out rfl rfl (by unfold maxLen; omega) (by unfold maxLen; omega) ?_ ?_).mono ?_; exact HXa.out; exact HSa.out; rintro e Wb ⟨rfl, nb, rfl⟩)))
                      | (go_at_call 25; go_must ((refine (bytes_okI (HCa.out _ (by first | exact ⟨_, rfl⟩ | exact ⟨1, rfl⟩ | exact ⟨0, rfl⟩)) 0 _ (by first | omega | (rw [IntKind.wrap_i64]; omega)) (by omega) (by omega)).mono ?_; rintro e Wc ⟨Ac, cc, rfl, hmc, hcc, hoc⟩; have kbc : Below w.heap.size W10 Wc := kba.trans ((by first | exact hmc.unN | exact hmc.un | exact hmc.un.unN : Mods (Is p) Wa Wc).below (Nat.le_trans hwz hza) (fun k hk => by unfold Is at hk; omega)); have hzc : W10.heap.size ≤ Wc.heap.size := kbc.size; have HXc := Lib.hid (Sees.of_own hoc); clear hmc hcc hoc)))
                      | (go_at_call_of 12 Ac; go_must ((refine (same_at [] [] true 0 0 Wc.heap.size _ _ _ _ _ (sameB_self []) rfl rfl (by unfold maxLen; omega) (by unfold maxLen; omega) ?_ ?_).mono ?_; exact Sees.nil; exact Sees.nil; rintro e Wd ⟨rfl, nd, rfl⟩)))
                      )
                    go_wp2
                    go_ret
                    exact ⟨rfl, HB10.out.trans (blw_drewN kbc _)⟩

end Go.Proofs.Ytjgigdmjciedpaa
