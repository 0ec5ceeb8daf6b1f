/-
  The walk of the statement that what a writer wrote is read back in the same order, and nothing is left.
-/
import Derived.Test.YtjgigdmjciedpaaCurEnc
import Derived.Deep.RegionWith
import Derived.Deep.RegionHeld3
import Derived.Deep.DeepMust
namespace Go.Proofs.Ytjgigdmjciedpaa
open Go.RowKit
set_option linter.unusedVariables false

theorem retq {b : Bool} (h : b = true) : Ending.returned (.bool b) = .returned (.bool true) := by rw [h]
theorem map_ne {α β : Type} {f : α → β} {l : List α} {k : Nat} (h : k < l.length) : l.map f ≠ [] := by
  intro e
  have := congrArg List.length e
  rw [List.length_map, List.length_nil] at this
  omega
theorem take_step {α : Type} (l : List α) (k : Nat) (h : k < l.length) : l.take (k + 1) = l.take k ++ [l[k]] := List.take_succ_eq_append_getElem h
theorem encN_take (l : List Nat) (k : Nat) (h : k < l.length) : encN 0 (l.take (k + 1)) = encN 0 (l.take k) ++ (putS l[k] ++ [k]) := by
  rw [take_step l k h, encN_snoc, List.length_take, Nat.min_eq_left (Nat.le_of_lt h), Nat.zero_add]
theorem encI_take (l : List Int) (k : Nat) (h : k < l.length) : encI (l.take (k + 1)) = encI (l.take k) ++ putS (zz l[k]).toNat := by
  rw [take_step l k h, encI_snoc]
theorem encN_drop (l : List Nat) (k : Nat) (h : k < l.length) (r : List Nat) : encN k (l.drop k) ++ r = putS l[k] ++ (k :: (encN (k + 1) (l.drop (k + 1)) ++ r)) := by
  rw [List.drop_eq_getElem_cons h, encN]
  simp
theorem encI_drop (l : List Int) (k : Nat) (h : k < l.length) (r : List Nat) : encI (l.drop k) ++ r = putS (zz l[k]).toNat ++ (encI (l.drop (k + 1)) ++ r) := by
  rw [List.drop_eq_getElem_cons h, encI, List.append_assoc]

set_option maxRecDepth 100000 in
set_option maxHeartbeats 8000000 in
theorem CursorReads_walk (a0 : Option Addr) (len0 cap0 : Nat) (z0 : List Int) (a1 : Option Addr) (len1 cap1 : Nat) (z1 : List Int) (a2 : Option Addr) (len2 cap2 : Nat) (z2 : List Int) (w : World) (w0 : IsRow .u64 w a0 len0 cap0 z0) (w1 : IsRow .i64 w a1 len1 cap1 z1) (w2 : IsRow .u8 w a2 len2 cap2 z2) :
    Calls Try.prog 4 #[.slice a0 len0 cap0, .slice a1 len1 cap1, .slice a2 len2 cap2] w fun e w' => e = .returned (.bool true) ∧ Below w.heap.size w w' := by
  obtain ⟨nn, rfl, hn64, hsn, hlc0, hcm0⟩ := w0.nats
  obtain ⟨zs, rfl, hzI, hsz, hlc1, hcm1⟩ := w1.ints
  obtain ⟨b, rfl, hby, hsb, hlc2, hcm2⟩ := w2.bytes
  clear w0 w1 w2
  unfold maxLen at hcm0 hcm1 hcm2
  by_cases hlong : nn.length ≤ 100 ∧ zs.length ≤ 100 ∧ b.length ≤ 200
  case neg =>
    have HLG : 100 < nn.length ∨ (nn.length ≤ 100 ∧ 100 < zs.length) ∨ (nn.length ≤ 100 ∧ zs.length ≤ 100 ∧ 200 < b.length) := by omega
    clear hlong
    rcases HLG with h1 | ⟨h1, h2⟩ | ⟨h1, h2, h3⟩
    all_goals
      go_enter Try.func4, Try.ntmps4
      go_wp2_with fail
      refine (awake_any _).mono ?_
      rintro e W ⟨rfl, hb⟩
      go_wp2_with fail
      refine (awake_any _).mono ?_
      rintro e W2 ⟨rfl, hb2⟩
      go_wp2_with fail
      go_ret
      exact ⟨rfl, hb.trans (hb2.mono hb.size)⟩
  obtain ⟨l0, l1, l2⟩ := hlong
  have HN64 := Lib.hid hn64
  have HZI := Lib.hid hzI
  have hN2 := encN_ge nn 0
  have hNl := encN_le nn 0
  have hIl := encI_le zs
  clear hn64 hzI
  go_enter Try.func4, Try.ntmps4
  go_wp2_with fail
  refine (awake_any _).mono ?_
  rintro e W ⟨rfl, hb⟩
  have HBw := Lib.hid hb
  have hz := hb.size
  clear hb
  go_wp2_with fail
  refine (wuint_any (Wri.new W) (nn.length : Int) (by omega) (by omega) (by decide) (by simp)).mono ?_
  rintro e W1 ⟨rfl, ⟨v1, hw1⟩, hm1⟩
  rw [List.nil_append, Int.toNat_natCast] at hw1
  have HW1 := Lib.hid hw1
  have HM1 := Lib.hid (((Mods.refl (From W.heap.size) W).alloc (.cells #[.slice none 0 0] 45)).trans hm1)
  clear hw1 hm1
  go_wp2_with fail
  go_loopw [8] (fun i wr => ∃ (k : Nat) (v : Value), k ≤ nn.length ∧ i = .int .i64 k ∧ Hid (Wri wr W.heap.size wr.heap.size v (putS nn.length ++ encN 0 (nn.take k))) ∧ Hid (Mods (From W.heap.size) W wr)) (fun i _ => nn.length - (intOf i).toNat)
  case atStart => exact ⟨0, v1, Nat.zero_le _, rfl, by simp only [List.take_zero, encN, List.append_nil]; exact HW1.out, HM1.out⟩
  case round =>
    clear HW1 HM1
    obtain ⟨k, v, hk, rfl, HWk, HMk⟩ := hrel
    by_cases hlt : k < nn.length
    · have hsk := hsn.below (HBw.out.trans (HMk.out.below hz (fun k hk => by unfold From at hk; omega)))
      obtain ⟨bb, o, rfl, _, hc⟩ := hsk (map_ne hlt)
      have hcell : wr.cell? ⟨bb, o + k, none⟩ = some (.int .u64 (nn[k] : Int)) := hc k _ (by simp [hlt])
      have hx : nn[k] < 18446744073709551616 := HN64.out _ (List.getElem_mem hlt)
      have HT := Lib.hid (encN_take nn k hlt)
      have hpl := putS_le nn.length
      have htl := encN_le (nn.take k) 0
      rw [List.length_take, Nat.min_eq_left hk] at htl
      have hlen1 : (putS nn.length ++ encN 0 (nn.take k)).length ≤ 1200 := by rw [List.length_append]; omega
      clear hsk hc htl hpl
      generalize nn[k] = x at hcell hx HT
      go_wp2_with fail
      refine (wuint_any HWk.out (x : Int) (by omega) (by omega) (by omega) (Nat.le_refl _)).mono ?_
      rintro e Wa ⟨rfl, ⟨va, hwa⟩, hma⟩
      rw [Int.toNat_natCast] at hwa
      have hpx := putS_le x
      have HWa := Lib.hid hwa
      have HMa := Lib.hid (HMk.out.trans hma)
      clear hwa hma HWk HMk
      go_wp2_with fail
      refine (wbyte_any HWa.out k (by omega) (by rw [List.length_append]; omega)).mono ?_
      rintro e Wb ⟨rfl, ⟨vb, hwb⟩, hmb⟩
      have HWb := Lib.hid hwb
      have HMb := Lib.hid (HMa.out.trans hmb)
      clear hwb hmb HWa HMa
      go_wp2
      go_roundw
      case rel => exact ⟨k + 1, vb, by omega, by go_num, by rw [HT.out, ← List.append_assoc, ← List.append_assoc]; exact HWb.out, HMb.out⟩
      case measure => simp [intOf]; omega
    · obtain rfl : k = nn.length := by omega
      rw [List.take_length] at HWk
      obtain ⟨W2, hW2⟩ : ∃ x, x = wr := ⟨_, rfl⟩
      subst hW2
      have hpl := putS_le nn.length
      clear hk hlt
      go_wp2_with fail
      go_loopw [9] (fun i wr => ∃ (k : Nat) (v : Value), k ≤ zs.length ∧ i = .int .i64 k ∧ Hid (Wri wr W.heap.size wr.heap.size v (putS nn.length ++ encN 0 nn ++ encI (zs.take k))) ∧ Hid (Mods (From W.heap.size) W wr)) (fun i _ => zs.length - (intOf i).toNat)
      case atStart => exact ⟨0, v, Nat.zero_le _, rfl, by simp only [List.take_zero, encI, List.append_nil]; exact HWk.out, HMk.out⟩
      case round =>
        clear HWk HMk
        obtain ⟨k, v, hk, rfl, HWk, HMk⟩ := hrel
        by_cases hlt : k < zs.length
        · have hsk := hsz.below (HBw.out.trans (HMk.out.below hz (fun k hk => by unfold From at hk; omega)))
          obtain ⟨bb, o, rfl, _, hc⟩ := hsk (map_ne hlt)
          have hcell : wr.cell? ⟨bb, o + k, none⟩ = some (.int .i64 zs[k]) := hc k _ (by simp [hlt])
          have hx : InI zs[k] := HZI.out _ (List.getElem_mem hlt)
          have HT := Lib.hid (encI_take zs k hlt)
          have htl := encI_le (zs.take k)
          rw [List.length_take, Nat.min_eq_left hk] at htl
          have hlen1 : (putS nn.length ++ encN 0 nn ++ encI (zs.take k)).length ≤ 2200 := by rw [List.length_append, List.length_append]; omega
          have HI := Lib.hid hx
          clear hsk hc htl hx
          generalize zs[k] = x at hcell HI HT
          go_wp2_with fail
          refine (wint_any HWk.out x HI.out (by omega) (Nat.le_refl _)).mono ?_
          rintro e Wa ⟨rfl, ⟨va, hwa⟩, hma⟩
          have HWa := Lib.hid hwa
          have HMa := Lib.hid (HMk.out.trans hma)
          clear hwa hma HWk HMk
          go_wp2
          go_roundw
          case rel => exact ⟨k + 1, va, by omega, by go_num, by rw [HT.out, ← List.append_assoc]; exact HWa.out, HMa.out⟩
          case measure => simp [intOf]; omega
        · obtain rfl : k = zs.length := by omega
          rw [List.take_length] at HWk
          obtain ⟨W3, hW3⟩ : ∃ x, x = wr := ⟨_, rfl⟩
          subst hW3
          have HS3 := Lib.hid (hsb.below (HBw.out.trans (HMk.out.below hz (fun k hk => by unfold From at hk; omega))))
          have hlen : (putS nn.length ++ encN 0 nn ++ encI zs).length ≤ 2200 := by rw [List.length_append, List.length_append]; omega
          have hz3 := HMk.out.size
          clear hk hlt
          go_wp2_with fail
          refine (wbytes_any HWk.out a2 b cap2 w.heap.size HS3.out (Nat.le_trans hz hz3) (by omega)).mono ?_
          rintro e W4 ⟨rfl, ⟨v4, hw4⟩, hm4⟩
          have HF := Lib.hid (show (putS nn.length ++ encN 0 nn ++ encI zs) ++ b = putS nn.length ++ (encN 0 nn ++ (encI zs ++ b)) by simp only [List.append_assoc])
          rw [HF.out] at hw4
          have hFl : (putS nn.length ++ (encN 0 nn ++ (encI zs ++ b))).length ≤ 2400 := by rw [← HF.out, List.length_append]; omega
          have hFb : Byt (putS nn.length ++ (encN 0 nn ++ (encI zs ++ b))) := (putS_byt64 _ (by omega)).app ((encN_byt nn 0 HN64.out (by omega)).app ((encI_byt zs HZI.out).app hby))
          have hcnt : 2 * nn.length ≤ (encN 0 nn ++ (encI zs ++ b)).length := by rw [List.length_append]; omega
          obtain ⟨F, hF⟩ : ∃ x, x = putS nn.length ++ (encN 0 nn ++ (encI zs ++ b)) := ⟨_, rfl⟩
          have HD0 : Hid (F.drop 0 = putS nn.length ++ (encN 0 nn ++ (encI zs ++ b))) := by rw [hF]; rfl
          rw [← hF] at hFl hFb hw4
          have HFb := Lib.hid hFb
          have HW4 := Lib.hid hw4
          have hz4 : W3.heap.size ≤ W4.heap.size := hm4.size
          have HM4 := Lib.hid (HMk.out.trans hm4)
          clear hw4 hm4 HWk HMk HS3 HF hFb hF
          go_wp2_with fail
          refine (out_any HW4.out (by omega)).mono ?_
          rintro e W5 ⟨A5, c5, rfl, ho5, hb5⟩
          have HX5 := Lib.hid (Sees.of_own ho5)
          have HW5 := Lib.hid (HW4.out.mods (S := No) (Mods.of_below hb5) fun _ hk => hk.elim)
          have HM5 := Lib.hid (HM4.out.trans (Mods.of_below hb5))
          have hz5 : W4.heap.size ≤ W5.heap.size := hb5.size
          clear ho5 hb5 HW4 HM4
          go_wp2_with fail
          refine (new_any A5 F W5.heap.size c5 W5 HX5.out (Nat.le_refl _) HFb.out (by omega)).mono ?_
          rintro e W6 ⟨p, A6, c6, rfl, hp, hc6, hb6⟩
          have HC6 := Lib.hid hc6
          have HW6 := Lib.hid (HW5.out.mods (S := No) (Mods.of_below hb6) fun _ hk => hk.elim)
          have HM6 := Lib.hid (HM5.out.trans (Mods.of_below hb6))
          clear hc6 hb6 HW5 HM5 HX5 HFb
          go_wp2_with fail
          refine (count_read HC6.out nn.length (encN 0 nn ++ (encI zs ++ b)) HD0.out l0 hcnt).mono ?_
          rintro e W7 ⟨rfl, hm7, j7, hc7, hd7⟩
          have hpW : W.heap.size ≤ p := by omega
          have HC7 := Lib.hid hc7
          have HD7 := Lib.hid hd7
          have HW7 := Lib.hid (HW6.out.mods hm7 fun k hk => by unfold Is at hk; omega)
          have HB7 := Lib.hid (below_mods (below_mods HBw.out HM6.out (fun k hk => by unfold From at hk; omega) (Nat.le_refl _)) hm7 (fun k hk => by unfold Is at hk; omega) (Nat.le_refl _))
          clear hm7 hc7 hd7 HC6 HD0 HW6 HM6 HBw hcnt
          go_wp2_with fail
          go_loopw [11] (fun i wr => ∃ k j : Nat, k ≤ nn.length ∧ i = .int .i64 k ∧ Hid (Cur wr W5.heap.size p F j 0 A6 c6) ∧ Hid (F.drop j = encN k (nn.drop k) ++ (encI zs ++ b)) ∧ Hid (Mods (Is p) W7 wr)) (fun i _ => nn.length - (intOf i).toNat)
          case atStart => exact ⟨0, j7, Nat.zero_le _, rfl, HC7.out, HD7.out, Mods.refl _ _⟩
          case round =>
            clear HC7 HD7
            obtain ⟨k, j, hk, rfl, HCk, HDk, HMk⟩ := hrel
            by_cases hlt : k < nn.length
            · have hbk : Below w.heap.size w wr := below_mods HB7.out HMk.out (fun k hk => by unfold Is at hk; omega) (Nat.le_refl _)
              obtain ⟨bb, o, hA, hbb, hc⟩ := (hsn.below hbk) (map_ne hlt)
              have hcell : wr.cell? ⟨bb, o + k, none⟩ = some (.int .u64 (nn[k] : Int)) := hc k _ (by simp [hlt])
              have hx : nn[k] < 18446744073709551616 := HN64.out _ (List.getElem_mem hlt)
              have hdk := HDk.out
              rw [encN_drop nn k hlt] at hdk
              have HDx := Lib.hid hdk
              have hbbw : bb < wr.heap.size := Nat.lt_of_lt_of_le hbb hbk.size
              have hbbp : bb < p := by omega
              have HCx : Hid (∀ W', (∃ m, W' = wr.drewN m) → Cur W' W5.heap.size p F j 0 A6 c6) := fun W' ⟨m, hW'⟩ => by subst hW'; exact HCk.out.drewN m
              have HK8 : Hid (IntKind.u8.wrap (k : Int) = (k : Int)) := by show _ = _; rw [IntKind.wrap_u8]; omega
              subst hA
              clear hc hdk hbk HDk
              generalize nn[k] = x at hcell hx HDx
              go_wp2_with fail
              go_region_held3 (fun w' => w'.cell? ⟨bb, o + k, none⟩ = some (.int .u64 (x : Int))) (first | exact hcell | exact hXa | exact hXb) (first
                | (go_at_call 22; go_must (((with_reducible refine (uint_read (HCx.out _ (by first | exact ⟨1, rfl⟩ | exact ⟨0, rfl⟩ | exact ⟨_, rfl⟩)) x _ HDx.out hx).mono ?_); rintro e Wa ⟨rfl, hma, ja, hca, hda⟩; have hmA : Mods (Is p) wr Wa := (by first | exact hma.un | exact hma.unN | exact hma); have hXa : Wa.cell? ⟨bb, o + k, none⟩ = some (.int .u64 (x : Int)) := (hmA.cell (p := ⟨bb, o + k, none⟩) hbbw (fun h => by have h2 : bb = p := h; omega)).trans hcell; have HDa := Lib.hid hda; have HMa := Lib.hid hmA; have HCa : Hid (∀ W', (∃ m, W' = Wa.drewN m) → Cur W' W5.heap.size p F ja 0 A6 c6) := fun W' ⟨m, hW'⟩ => (by subst hW'; exact hca.drewN m); clear hma hca hda hmA)))
                | (go_at_call 23; go_must (((with_reducible refine (byte_read (HCa.out _ (by first | exact ⟨1, rfl⟩ | exact ⟨0, rfl⟩ | exact ⟨_, rfl⟩)) k _ HDa.out).mono ?_); rintro e Wb ⟨rfl, hmb, jb, hcb, hdb⟩; have hmB : Mods (Is p) Wa Wb := (by first | exact hmb.un | exact hmb.unN | exact hmb); have hXb : Wb.cell? ⟨bb, o + k, none⟩ = some (.int .u64 (x : Int)) := (hmB.cell (p := ⟨bb, o + k, none⟩) (Nat.lt_of_lt_of_le hbbw HMa.out.size) (fun h => by have h2 : bb = p := h; omega)).trans hXa; have HDb := Lib.hid hdb; have HMb := Lib.hid (HMa.out.trans hmB); have HCb := Lib.hid hcb; clear hmb hcb hdb hmB)))
                )
              clear HCx HCa HDx HDa hXa HMa hcell
              simp only [HK8.out]
              go_wp2
              go_roundw
              case rel => exact ⟨k + 1, jb, by omega, by go_num, by first | exact HCb.out | exact HCb.out.drew | exact HCb.out.drewN _, HDb.out, by first | exact HMk.out.trans HMb.out | exact (HMk.out.trans HMb.out).drew | exact (HMk.out.trans HMb.out).drewN _⟩
              case measure => simp [intOf]; omega
            · obtain rfl : k = nn.length := by omega
              have HD8 : Hid (F.drop j = encI (zs.drop 0) ++ b) := by have := HDk.out; rw [List.drop_length] at this; exact this
              have HW8 := Lib.hid (HW7.out.mods HMk.out fun k hk => by unfold Is at hk; omega)
              have HB8 := Lib.hid (below_mods HB7.out HMk.out (fun k hk => by unfold Is at hk; omega) (Nat.le_refl _))
              obtain ⟨W8, hW8⟩ : ∃ x, x = wr := ⟨_, rfl⟩
              subst hW8
              clear hk hlt HDk HMk HW7 HB7 hsn
              go_wp2_with fail
              go_loopw [12] (fun i wr => ∃ k j : Nat, k ≤ zs.length ∧ i = .int .i64 k ∧ Hid (Cur wr W5.heap.size p F j 0 A6 c6) ∧ Hid (F.drop j = encI (zs.drop k) ++ b) ∧ Hid (Mods (Is p) W8 wr)) (fun i _ => zs.length - (intOf i).toNat)
              case atStart => exact ⟨0, j, Nat.zero_le _, rfl, HCk.out, HD8.out, Mods.refl _ _⟩
              case round =>
                clear HCk HD8
                obtain ⟨k, j, hk, rfl, HCk, HDk, HMk⟩ := hrel
                by_cases hlt : k < zs.length
                · have hbk : Below w.heap.size w wr := below_mods HB8.out HMk.out (fun k hk => by unfold Is at hk; omega) (Nat.le_refl _)
                  obtain ⟨bb, o, hA, hbb, hc⟩ := (hsz.below hbk) (map_ne hlt)
                  have hcell : wr.cell? ⟨bb, o + k, none⟩ = some (.int .i64 zs[k]) := hc k _ (by simp [hlt])
                  have HI := Lib.hid (HZI.out _ (List.getElem_mem hlt))
                  have hdk := HDk.out
                  rw [encI_drop zs k hlt] at hdk
                  have HDx := Lib.hid hdk
                  have hbbw : bb < wr.heap.size := Nat.lt_of_lt_of_le hbb hbk.size
                  have hbbp : bb < p := by omega
                  have HCx : Hid (∀ W', (∃ m, W' = wr.drewN m) → Cur W' W5.heap.size p F j 0 A6 c6) := fun W' ⟨m, hW'⟩ => by subst hW'; exact HCk.out.drewN m
                  subst hA
                  clear hc hdk hbk HDk
                  generalize zs[k] = x at hcell HI HDx
                  go_wp2_with fail
                  go_region_held3 (fun w' => w'.cell? ⟨bb, o + k, none⟩ = some (.int .i64 x)) (first | exact hcell | exact hXa) (first
                    | (go_at_call 24; go_must (((with_reducible refine (int_read (HCx.out _ (by first | exact ⟨1, rfl⟩ | exact ⟨0, rfl⟩ | exact ⟨_, rfl⟩)) x _ HDx.out HI.out).mono ?_); rintro e Wa ⟨rfl, hma, ja, hca, hda⟩; have hmA : Mods (Is p) wr Wa := (by first | exact hma.un | exact hma.unN | exact hma); have hXa : Wa.cell? ⟨bb, o + k, none⟩ = some (.int .i64 x) := (hmA.cell (p := ⟨bb, o + k, none⟩) hbbw (fun h => by have h2 : bb = p := h; omega)).trans hcell; have HDa := Lib.hid hda; have HMa := Lib.hid hmA; have HCa := Lib.hid hca; clear hma hca hda hmA)))
                    )
                  clear HCx HDx hcell
                  go_wp2
                  go_roundw
                  case rel => exact ⟨k + 1, ja, by omega, by go_num, by first | exact HCa.out | exact HCa.out.drew | exact HCa.out.drewN _, HDa.out, by first | exact HMk.out.trans HMa.out | exact (HMk.out.trans HMa.out).drew | exact (HMk.out.trans HMa.out).drewN _⟩
                  case measure => simp [intOf]; omega
                · obtain rfl : k = zs.length := by omega
                  have hdf : F.drop j = b := by have := HDk.out; rw [List.drop_length] at this; exact this
                  have hle := HCk.out.le
                  have hjl : j + b.length = F.length := by have := congrArg List.length hdf; rw [List.length_drop] at this; omega
                  have HW9 := Lib.hid (HW8.out.mods HMk.out fun k hk => by unfold Is at hk; omega)
                  have HB9 := Lib.hid (below_mods HB8.out HMk.out (fun k hk => by unfold Is at hk; omega) (Nat.le_refl _))
                  have HJL := Lib.hid hjl
                  have HDF := Lib.hid hdf
                  obtain ⟨W9, hW9⟩ : ∃ x, x = wr := ⟨_, rfl⟩
                  subst hW9
                  clear hk hlt HDk HMk HW8 HB8 hsz hdf hjl
                  go_wp2_with fail
                  refine (bytes_ok HCk.out b.length (by have := HJL.out; omega) (by omega)).mono ?_
                  rintro e W10 ⟨Ax, cx, rfl, hm10, hc10, ho10⟩
                  rw [HDF.out, List.take_length] at ho10
                  rw [HJL.out] at hc10
                  have HC10 := Lib.hid hc10
                  have HX10 := Lib.hid (Sees.of_own ho10)
                  have hlo10 := own_lt ho10
                  have HW10 := Lib.hid (HW9.out.mods hm10 fun k hk => by unfold Is at hk; omega)
                  have HB10 := Lib.hid (below_mods HB9.out hm10 (fun k hk => by unfold Is at hk; omega) (Nat.le_refl _))
                  have hpz := hc10.row.lt
                  have hpz9 := HCk.out.row.lt
                  have HLO := Lib.hid hlo10
                  clear hm10 hc10 ho10 hlo10 HCk HW9 HB9
                  go_wp2_with fail
                  refine (end_any HC10.out).mono ?_
                  rintro e W11 ⟨rfl, hm11, hc11⟩
                  rw [show endS F.length F.length 0 = 0 from if_neg fun h => by omega] at hc11
                  have HC11 := Lib.hid hc11
                  have HX11 := Lib.hid (hm11.sees HX10.out (Nat.le_refl _) fun x hx hs => by
                    rcases Ax with _ | y
                    · cases hx
                    · have h1 := HLO.out y.block (by simp [Value.ownBlock])
                      injection hx with hx
                      subst hx
                      unfold Is at hs
                      omega)
                  have HW11 := Lib.hid (HW10.out.mods hm11 fun k hk => by unfold Is at hk; omega)
                  have HB11 := Lib.hid (below_mods HB10.out hm11 (fun k hk => by unfold Is at hk; omega) (Nat.le_refl _))
                  have hz11 : W10.heap.size ≤ W11.heap.size := hm11.size
                  have HSb := Lib.hid ((hsb.below HB11.out).more HB11.out.size)
                  have HSE := Lib.hid (sameB_self b)
                  have HL := Lib.hid (leftS_ok F.length F.length)
                  clear hm11 hc11 HC10 HX10 HW10 HB10 HLO
                  go_wp2_with fail
                  refine (same_at b b _ _ _ W11.heap.size _ _ _ _ _ HSE.out rfl rfl (by unfold maxLen; omega) (by unfold maxLen; omega) (HX11.out.more hz11) HSb.out).mono ?_
                  rintro e W12 ⟨rfl, n12, rfl⟩
                  go_wp2_with fail
                  refine (err_any (HC11.out.drewN n12)).mono ?_
                  rintro e W13 ⟨rfl, rfl⟩
                  go_wp2_with fail
                  refine (left_any (HC11.out.drewN n12)).mono ?_
                  rintro e W13 ⟨rfl, n13, rfl⟩
                  rw [HL.out]
                  go_wp2_with fail
                  refine (at_any (HC11.out.drewN _)).mono ?_
                  rintro e W13 ⟨rfl, rfl⟩
                  go_wp2_with fail
                  refine (out_any (HW11.out.drewN _) (by omega)).mono ?_
                  rintro e W14 ⟨A14, c14, rfl, ho14, hb14⟩
                  have HB14 := Lib.hid (HB11.out.trans (below_unN hb14 HB11.out.size))
                  clear ho14 hb14
                  go_wp2
                  go_ret
                  exact ⟨rfl, HB14.out⟩

end Go.Proofs.Ytjgigdmjciedpaa
