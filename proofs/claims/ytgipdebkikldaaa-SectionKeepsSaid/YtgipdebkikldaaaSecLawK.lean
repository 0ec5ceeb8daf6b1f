/-
  The walk of the statement that arguments are not modified and results share no memory.
-/
import Derived.Test.YtgipdebkikldaaaSecAwake
import Derived.Test.YtgipdebkikldaaaSecIn
import Derived.Test.YtgipdebkikldaaaSecTail
namespace Go.Proofs.Ytgipdebkikldaaa
open Go.RowKit
set_option linter.unusedVariables false

theorem take_snoc {α : Type} (l : List α) (k : Nat) (h : k < l.length) : l.take (k + 1) = l.take k ++ [l[k]] := List.take_succ_eq_append_getElem h

set_option maxRecDepth 100000 in
set_option maxHeartbeats 2000000 in
theorem SectionKeeps_walk (a0 : Option Addr) (len0 cap0 : Nat) (z0 : List Int) (a1 : Option Addr) (len1 cap1 : Nat) (w : World) (w0 : IsRow .u8 w a0 len0 cap0 z0) (w1 : IsLists w a1 len1 cap1) :
    Calls Try.prog 6 #[.slice a0 len0 cap0, .slice a1 len1 cap1] w fun e w' => e = .returned (.bool true) ∧ Below w.heap.size w w' := by
  obtain ⟨ids, rfl, hbi, hsi, hlc0, hcm0⟩ := w0.bytes
  obtain ⟨xs, rfl, hsx, hbx, hlc1, hcm1⟩ := w1
  clear w0
  obtain ⟨i0, hi0, hz0, hz1, hz2⟩ := info_parts infoU8
  obtain ⟨j0, hj0, hy0, hy1, hy2⟩ := info_parts infoSl
  by_cases l1 : ids.length ≤ 100
  case neg =>
    unfold maxLen at hcm0 hcm1
    go_enter Try.func6, Try.ntmps6
    go_wp2_with fail
    refine (awake_any _).mono ?_
    rintro e W ⟨rfl, hb⟩
    go_wp2_with fail
    refine (awake_any _).mono ?_
    rintro e W2 ⟨rfl, hb2⟩
    go_wp2_with fail
    go_ret
    exact ⟨rfl, hb.trans (hb2.mono hb.size)⟩
  have HBI := Lib.hid hbi
  have HBX := Lib.hid hbx
  clear hbi hbx
  by_cases hlen : ids.length = xs.length
  case neg =>
    unfold maxLen at hcm0 hcm1
    have e2 : ((ids.length : Int) != (xs.length : Int)) = true := by simp; omega
    clear hlen
    go_enter Try.func6, Try.ntmps6
    go_wp2_with fail
    refine (awake_any _).mono ?_
    rintro e W ⟨rfl, hb⟩
    go_wp2_with fail
    refine (few_any w.heap.size a1 xs cap1 W (hsx.below hb) (by unfold maxLen; omega)).mono ?_
    rintro e W1 ⟨bb, rfl, hF, n1, hW1⟩
    have hb1 : Below w.heap.size w W1 := by
      rw [← hW1]
      exact blw_drewN hb _
    clear hW1 hF
    cases bb
    all_goals
      go_wp2_with fail
      refine (awake_any _).mono ?_
      rintro e W2 ⟨rfl, hb2⟩
      go_wp2_with fail
      go_ret
      exact ⟨rfl, hb1.trans (hb2.mono hb1.size)⟩
  have e2 : ((ids.length : Int) != (xs.length : Int)) = false := by rw [hlen]; simp
  have hxl : xs.length ≤ 100 := by omega
  have HL := Lib.hid hlen
  clear hlen
  go_enter Try.func6, Try.ntmps6
  go_wp2_with fail
  refine (awake_any _).mono ?_
  rintro e W ⟨rfl, hb⟩
  have HB := Lib.hid hb
  clear hb
  go_wp2_with fail
  refine (few_any w.heap.size a1 xs cap1 W (hsx.below HB.out) (by omega)).mono ?_
  rintro e W1 ⟨bb, rfl, hF, n1, hW1⟩
  have HB1 : Hid (Below w.heap.size w W1) := by
    rw [← hW1]
    exact blw_drewN HB.out _
  clear hW1 HB
  cases bb
  · clear hF
    go_wp2_with fail
    refine (awake_any _).mono ?_
    rintro e W2 ⟨rfl, hb2⟩
    go_wp2_with fail
    go_ret
    exact ⟨rfl, HB1.out.trans (hb2.mono HB1.out.size)⟩
  obtain ⟨hx100, htot⟩ := hF rfl
  clear hF
  have hsz := sizeS_le xs
  have hxb : ∀ x ∈ xs, x.length < 18446744073709551616 := fun x hx => by have := totalS_mem xs x hx; omega
  have hps : (packS ids xs).length ≤ 3100 := by rw [packS_size ids xs HL.out]; omega
  have HPB := Lib.hid (packS_byt ids xs HBI.out HBX.out hxb)
  have HE := Lib.hid (splitE_pack ids xs HL.out hxb)
  have HF : Hid ((splitF ids (packS ids xs)).2.1 = xs) := by
    rw [split_pack ids xs HL.out hxb]
    exact rfl
  clear hxb
  have hw1 := HB1.out.size
  go_wp2_with fail
  go_loopw [5, 6] (fun s j wr => ∃ (k : Nat) (v : Value) (vs : List Value), k ≤ xs.length ∧ v = s ∧ j = .int .i64 k ∧ Hid (LstV wr W1.heap.size v vs (xs.take k)) ∧ Hid (Below w.heap.size w wr) ∧ W1.heap.size ≤ wr.heap.size) (fun _ j _ => xs.length - (intOf j).toNat)
  case atStart => exact ⟨0, _, [], Nat.zero_le _, rfl, rfl, ⟨World.ownsRow_made W1 #[] 0 (Nat.le_refl _) (by decide) rfl, rfl, fun i u x h => by simp at h, fun i j u u' g h => by simp at h⟩, HB1.out.alloc hw1 _, by simp⟩
  case round =>
    obtain ⟨k, v, vs, hk, rfl, rfl, HV, HB, hz⟩ := hrel
    by_cases hlt : k < xs.length
    · have hs0 := hsx.below HB.out
      obtain ⟨b, o, Ai, ci, rfl, hbl, hcell0, hci, hcm, hsi0⟩ := hs0.at_ hlt
      have HT := Lib.hid (take_snoc xs k hlt)
      have hxk : xs[k].length ≤ 2000 := Nat.le_trans (totalS_mem xs _ (List.getElem_mem hlt)) htot
      have hwz := HB.out.size
      have hvl : vs.length ≤ 100 := by rw [HV.out.len, List.length_take]; omega
      have hcell : (wr.alloc (.cells #[] 5)).cell? ⟨b, o + k, none⟩ = some (.slice Ai xs[k].length ci) := (World.cell?_alloc_lt wr _ ⟨b, o + k, none⟩ (by show b < _; omega)).trans hcell0
      have HS0 := Lib.hid (hsi0.alloc hwz (.cells #[] 5))
      clear hs0 hsi0 hcell0
      generalize xs[k] = x at *
      go_wp2_with (at_builtin; refine wpList_append_sees _ rfl (.tmp 46) (.tmp 50) 22 rfl wr.heap.size 5 i0 (.int .u8 0) 1 Try.underlying22 hi0 hz0 hz1 hz2 rfl _ _ _ rfl (World.ownsRow_made wr #[] 0 (Nat.le_refl _) (by decide) rfl) w.heap.size _ _ _ (bts x) rfl HS0.out (bts_length x) (bts_one x) ?c1 ?c2 ?c3 ?_)
      case c1 => unfold maxLen; omega
      case c2 => omega
      case c3 => simp
      intro v2 W2 ho2 hg2
      replace ho2 : W2.ownsRow wr.heap.size 5 1 v2 x.length (bts x) := by simpa using ho2
      have hm2 : Mods No wr W2 := ((Mods.refl _ wr).alloc _).grown hg2 fun b hb => .inr (by simp [Value.ownBlock] at hb; omega)
      obtain ⟨A2, c2, rfl, _, _⟩ := own_slice ho2 (bts_length x)
      have hoa : (W2.alloc (.cells #[.slice A2 x.length c2] 22)).ownsRow W1.heap.size 22 1 v vs.length vs := (hm2.alloc (.cells #[.slice A2 x.length c2] 22)).own HV.out.outer fun _ _ h => h
      have HOA := Lib.hid hoa
      have HO2 := Lib.hid ho2
      have HM2 := Lib.hid hm2
      have hz2' := hm2.size
      clear hoa ho2 hg2 hm2 HS0 hcell
      go_wp2_with (at_builtin; refine wpList_append_own _ rfl (.tmp 45) (.tmp 52) 23 rfl W1.heap.size 22 j0 (.slice none 0 0) 1 24 Try.underlying23 hj0 hy0 hy1 hy2 rfl (by decide) _ _ _ rfl HOA.out ⟨W2.heap.size, 0, none⟩ 1 1 [.slice A2 x.length c2] rfl rfl ?c0 ?c1 ?c2 ?c3 ?c4 ?_)
      case c0 => exact cell_one_new W2 _ _
      case c1 =>
        intro u hu
        rw [List.mem_singleton.1 hu]
        rfl
      case c2 => unfold maxLen; omega
      case c3 => omega
      case c4 => simp; omega
      intro v3 W3 ho3 hg3 _
      have HV3 := Lib.hid (HV.out.snoc HM2.out (fun _ h => h.elim) hz HO2.out _ ho3 hg3)
      have hm3 : Mods (fun b => W1.heap.size ≤ b) W2 W3 := ((Mods.refl _ W2).alloc _).grown hg3 fun b hb => .inl (own_lt HV.out.outer b hb).1
      have HB3 := Lib.hid ((HB.out.trans (HM2.out.below hwz fun _ h => h.elim)).trans (hm3.below (B := w.heap.size) (by omega) fun b hb => by omega))
      have hz3 : W1.heap.size ≤ W3.heap.size := by have := hm3.size; omega
      clear ho3 hg3 hm3 HOA HO2 HM2 HV HB
      go_wp2
      go_roundw
      case rel => exact ⟨k + 1, v3, _, by omega, rfl, by go_num, by rw [HT.out]; exact HV3.out, HB3.out, hz3⟩
      case measure => simp [intOf]; omega
    · obtain rfl : k = xs.length := by omega
      rw [List.take_length] at HV
      obtain ⟨W3, hW3⟩ : ∃ x, x = wr := ⟨_, rfl⟩
      subst hW3
      clear HB1 hk hlt
      obtain ⟨AO, cO, rfl, _, _, hsO⟩ := HV.out.sees
      have hwz := HB.out.size
      have HSO := Lib.hid hsO
      clear hsO
      go_wp2_with fail
      refine (pack_any W3.heap.size a0 AO ids xs cap0 cO W3 ((hsi.below HB.out).more hwz) HSO.out (Nat.le_refl _) HL.out HBI.out (by omega) (by omega) (by omega)).mono ?_
      rintro e W4 ⟨A4, c4, rfl, ho4, hb4⟩
      have HB4 := Lib.hid (HB.out.trans (hb4.mono hwz))
      have HC34 := Lib.hid hb4
      have HO4 := Lib.hid ho4
      have h34 := hb4.size
      clear ho4 hb4 HSO HB
      generalize packS ids xs = P at *
      have HS4 := Lib.hid ((Sees.of_own HO4.out).alloc (Nat.le_refl _) (.cells #[] 5))
      go_wp2_with (at_builtin; refine wpList_append_sees _ rfl (.tmp 60) (.tmp 61) 22 rfl W4.heap.size 5 i0 (.int .u8 0) 1 Try.underlying22 hi0 hz0 hz1 hz2 rfl _ _ _ rfl (World.ownsRow_made W4 #[] 0 (Nat.le_refl _) (by decide) rfl) W4.heap.size _ _ _ (bts P) rfl HS4.out (bts_length P) (bts_one P) ?c1 ?c2 ?c3 ?_)
      case c1 => unfold maxLen; omega
      case c2 => omega
      case c3 => simp
      intro v5 W5 ho5 hg5
      replace ho5 : W5.ownsRow W4.heap.size 5 1 v5 P.length (bts P) := by simpa using ho5
      have hm5 : Mods No W4 W5 := ((Mods.refl _ W4).alloc _).grown hg5 fun b hb => .inr (by simp [Value.ownBlock] at hb; omega)
      obtain ⟨A5, c5, rfl, _, _⟩ := own_slice ho5 (bts_length P)
      have hb5 : Below W4.heap.size W4 W5 := hm5.below (Nat.le_refl _) fun _ h => h.elim
      have HB5 := Lib.hid (HB4.out.trans (hb5.mono HB4.out.size))
      have HC35 := Lib.hid (HC34.out.trans (hb5.mono h34))
      have HC45 := Lib.hid hb5
      have HO5 := Lib.hid ho5
      have HO45 := Lib.hid (hm5.own HO4.out fun _ _ h => h)
      have Hlo4 := Lib.hid (own_lt HO4.out)
      have Hlo5 := Lib.hid (own_lt HO5.out)
      have h45 := hm5.size
      clear ho5 hg5 hm5 hb5 HS4 HB4 HC34
      go_wp2_with fail
      refine (split_ok W5.heap.size A4 a0 P ids c4 cap0 W5 (Sees.of_own HO45.out) ((hsi.below HB5.out).more HB5.out.size) (Nat.le_refl _) HPB.out HBI.out (by omega) (by omega) xs HE.out HF.out).mono ?_
      rintro e W6 ⟨A6, c6, rfl, ⟨vs6, hl6⟩, hb6⟩
      have HB6 := Lib.hid (HB5.out.trans (hb6.mono HB5.out.size))
      have HC36 := Lib.hid (HC35.out.trans (hb6.mono (by omega)))
      have HC46 := Lib.hid (HC45.out.trans (hb6.mono h45))
      have HC56 := Lib.hid hb6
      have HTL := Lib.hid (hl6.tail rfl)
      have h56 := hb6.size
      clear hl6 hb6 HB5 HO45 HC35 HC45
      go_wp2_with fail
      go_loopw [12] (fun j wr => ∃ k : Nat, k ≤ xs.length ∧ j = .int .i64 k ∧ Hid (TailL wr W5.heap.size A6 xs.length c6 k vs6 xs) ∧ Hid (Below W5.heap.size W6 wr)) (fun j _ => xs.length - (intOf j).toNat)
      case atStart => exact ⟨0, Nat.zero_le _, rfl, HTL.out, Below.refl _ _⟩
      case round =>
        clear HTL
        obtain ⟨k, hk, rfl, HT, HM⟩ := hrel
        by_cases hlt : k < xs.length
        · obtain ⟨go, u, rfl, hgo, hu, hcell, hfr, hown⟩ := HT.out.cell hlt hlt
          have HOU := Lib.hid (((Mods.refl No wr).alloc (.cells #[.int .u8 1, .int .u8 2, .int .u8 3] 5)).own hown fun _ _ h => h)
          have hxk : xs[k].length ≤ 2000 := Nat.le_trans (totalS_mem xs _ (List.getElem_mem hlt)) htot
          obtain ⟨AU, cU, rfl, _, _⟩ := own_slice hown (bts_length _)
          obtain ⟨W7, hW7⟩ : ∃ x, x = wr := ⟨_, rfl⟩
          subst hW7
          have hzr : W5.heap.size ≤ W7.heap.size := by have := HM.out.size; omega
          clear hown
          generalize xs[k] = x at *
          go_wp2_with (at_builtin; refine wpList_append_lies _ rfl (.tmp 80) (.tmp 81) 22 rfl W5.heap.size 5 i0 (.int .u8 0) 1 1 Try.underlying22 hi0 hz0 hz1 hz2 rfl (by decide) _ _ _ rfl HOU.out ⟨W7.heap.size, 0, none⟩ 3 3 (bts [1, 2, 3]) rfl rfl ?c0 (bts_one _) (by decide) ?c1 ?c2 ?c3 _ rfl ?_)
          case c0 => exact World.news_of_block (heap_alloc_new W7 _)
          case c1 => unfold maxLen; omega
          case c2 => omega
          case c3 => simp; omega
          intro g cap W8 ho8 hg8 hat8 hlt8
          obtain ⟨hx0, hx1⟩ := HT.out.after hlt hu hg8
          have hmid := HT.out.mid (g := g) (m := x.length + 3) (cap := cap) (zs := (x ++ [1, 2, 3]).map fun n : Nat => (n : Int)) hlt hzr hu (by
            rw [← bts_append] at ho8
            rw [List.map_map]
            exact ho8) hg8 hat8
          have hb8 : Below W5.heap.size W6 W8 := HM.out.trans ((((Below.refl W5.heap.size W7).alloc hzr _).grown hg8 (by simp; omega) fun b hb => (own_lt HOU.out b hb).1))
          have HB8 := Lib.hid (hb8.setCell (p := ⟨go, k, none⟩) hgo (.slice (some ⟨g, 0, none⟩) (x.length + 3) cap))
          have HMid := Lib.hid hmid
          clear ho8 hg8 hat8 hmid hb8 HT HM HOU
          go_wp2_with fail
          go_loopw [13] (fun j wr => ∃ q : Nat, q ≤ x.length + 3 ∧ j = .int .i64 q ∧ Hid (Mid wr W5.heap.size (some ⟨go, 0, none⟩) xs.length c6 k vs6 xs g (x.length + 3) cap) ∧ Hid (Below W5.heap.size W6 wr)) (fun j _ => x.length + 3 - (intOf j).toNat)
          case atStart => exact ⟨0, Nat.zero_le _, rfl, HMid.out, HB8.out⟩
          case round =>
            clear HMid HB8 hx0 hx1
            obtain ⟨q, hq, rfl, HM, HB⟩ := hrel
            obtain ⟨go2, hA2, hcell2⟩ := HM.out.cell hlt
            injection hA2 with hA2
            injection hA2 with hA2
            subst hA2
            by_cases hlq : q < x.length + 3
            · obtain ⟨hgH, y, hc3, hf3, hp3⟩ := HM.out.put hlq
              have HP := Lib.hid hp3
              clear hp3 HM
              go_wp2
              go_roundw
              case rel => exact ⟨q + 1, by omega, by go_num, HP.out _, HB.out.setCell (p := ⟨g, q, none⟩) hgH _⟩
              case measure => simp [intOf]; omega
            · have HT9 := Lib.hid HM.out.tail
              clear HM
              go_wp2
              go_roundw
              case rel => exact ⟨k + 1, by omega, by go_num, HT9.out, HB.out⟩
              case measure => simp [intOf]; omega
        · obtain rfl : k = xs.length := by omega
          obtain ⟨W10, hW10⟩ : ∃ x, x = wr := ⟨_, rfl⟩
          subst hW10
          have HB10 := Lib.hid (HB6.out.trans (HM.out.mono (by omega)))
          have HC310 := Lib.hid (HC36.out.trans (HM.out.mono (by omega)))
          have HC410 := Lib.hid (HC46.out.trans (HM.out.mono (by omega)))
          have HC510 := Lib.hid (HC56.out.trans HM.out)
          have HO410 := Lib.hid ((Mods.of_below (S := No) HC410.out).own HO4.out fun _ _ h => h)
          have HO510 := Lib.hid ((Mods.of_below (S := No) HC510.out).own HO5.out fun _ _ h => h)
          clear HM HT hk hlt HB6 HC36 HC46 HC56 HC410 HC510 HO4 HO5
          go_wp2_with fail
          refine (same_at P P true _ _ W10.heap.size A4 A5 c4 c5 W10 (sameB_self _) rfl rfl (by unfold maxLen; omega) (by unfold maxLen; omega) (Sees.of_own HO410.out) (Sees.of_own HO510.out)).mono ?_
          rintro e W11 ⟨rfl, n11, hW11⟩
          have hm11 : Mods No W10 W11 := by
            rw [← hW11]
            exact (Mods.refl _ _).drewN _
          have hb11 : Below W10.heap.size W10 W11 := hm11.below (Nat.le_refl _) fun _ h => h.elim
          have HB11 := Lib.hid (HB10.out.trans (hb11.mono HB10.out.size))
          have HC311 := Lib.hid (HC310.out.trans (hb11.mono HC310.out.size))
          have HO411 := Lib.hid (OwnB.of (hm11.own HO410.out fun _ _ h => h) rfl)
          have HO511 := Lib.hid (hm11.own HO510.out fun _ _ h => h)
          clear hm11 hb11 hW11 HB10 HC310 HO410 HO510
          go_wp2_with fail
          go_loopw [15] (fun j wr => ∃ q : Nat, q ≤ P.length ∧ j = .int .i64 q ∧ Hid (OwnB wr W3.heap.size A4 P.length c4) ∧ Hid (Mods (OwnOf (.slice A4 P.length c4)) W11 wr)) (fun j _ => P.length - (intOf j).toNat)
          case atStart => exact ⟨0, Nat.zero_le _, rfl, HO411.out, Mods.refl _ _⟩
          case round =>
            clear HO411
            obtain ⟨q, hq, rfl, HO, HM⟩ := hrel
            by_cases hlq : q < P.length
            · obtain ⟨gp, y, rfl, hgp, hcp, hfp, hst⟩ := HO.out.cell hlq
              have HS := Lib.hid hst
              clear hst HO
              go_wp2
              go_roundw
              case rel => exact ⟨q + 1, by omega, by go_num, HS.out _, HM.out.setCell (p := ⟨gp, q, none⟩) (.inl (ownOf_some gp _ _)) _⟩
              case measure => simp [intOf]; omega
            · obtain ⟨W12, hW12⟩ : ∃ x, x = wr := ⟨_, rfl⟩
              subst hW12
              have hS : ∀ b, OwnOf (.slice A4 P.length c4) b → W3.heap.size ≤ b ∧ b < W4.heap.size := Hlo4.out
              have HB12 := Lib.hid (HB11.out.trans (HM.out.below HB11.out.size fun b hb => by have := hS b hb; omega))
              have HC312 := Lib.hid (HC311.out.trans (HM.out.below HC311.out.size fun b hb => (hS b hb).1))
              have HO512 := Lib.hid (HM.out.own HO511.out fun b hb hs => by have := hS b hs; have := Hlo5.out b hb; omega)
              clear HO HM HB11 HC311 HO511 hS
              go_wp2_with fail
              refine (split_ok W12.heap.size A5 a0 P ids c5 cap0 W12 (Sees.of_own HO512.out) ((hsi.below HB12.out).more HB12.out.size) (Nat.le_refl _) HPB.out HBI.out (by omega) (by omega) xs HE.out HF.out).mono ?_
              rintro e W13 ⟨A13, c13, rfl, hl13, hb13⟩
              have HB13 := Lib.hid (HB12.out.trans (hb13.mono HB12.out.size))
              have HC313 := Lib.hid (HC312.out.trans (hb13.mono HC312.out.size))
              have HS13 := Lib.hid hl13.seen
              have hlo := Lst.below ⟨_, HV.out⟩ HC313.out
              have HSO := Lib.hid hlo.seen
              clear hl13 hb13 hlo HB12 HC312 HO512
              go_wp2_with fail
              have hsl := sameL_any W13.heap.size AO a1 xs xs cO cap1 W13 HSO.out ((hsx.below HB13.out).more HB13.out.size) (by omega) (by omega)
              rw [sameL_self] at hsl
              refine hsl.mono ?_
              rintro e W14 ⟨rfl, n14, hW14⟩
              have hb14 : Below W13.heap.size W13 W14 := by
                rw [← hW14]
                exact blw_drewN (Below.refl _ _) _
              have HB14 := Lib.hid (HB13.out.trans (hb14.mono HB13.out.size))
              have HS14 := Lib.hid ((HS13.out.below hb14).more hb14.size)
              clear hsl hb14 hW14 HS13 HSO HB13 HC313
              go_wp2_with fail
              have hsl := sameL_any W14.heap.size A13 a1 xs xs c13 cap1 W14 HS14.out ((hsx.below HB14.out).more HB14.out.size) (by omega) (by omega)
              rw [sameL_self] at hsl
              refine hsl.mono ?_
              rintro e W15 ⟨rfl, n15, hW15⟩
              have HB15 : Hid (Below w.heap.size w W15) := by
                rw [← hW15]
                exact blw_drewN HB14.out _
              clear hsl hW15 HS14 HB14
              go_wp2
              go_ret
              exact ⟨rfl, HB15.out⟩

end Go.Proofs.Ytgipdebkikldaaa
