/-
  Split: the contents in memory of their own, or the first error.
-/
import Derived.Test.YtgipdebkikldaaaSecRead
import Derived.Test.YtgipdebkikldaaaSecLst
import Derived.Test.YtgipdebkikldaaaAppend
namespace Go.Proofs.Ytgipdebkikldaaa
open Go.RowKit
set_option linter.unusedVariables false

/-- Part of the way through Split, with an error or without. -/
def SplT (ids l : List Nat) (k i : Nat) (er : Int) (xs : List (List Nat)) : Prop :=
  (er = 0 → SplitAt ids l k i xs) ∧ (er ≠ 0 → er = (splitE ids l : Nat))
theorem SplT.zero (ids l : List Nat) : SplT ids l 0 0 0 [] := ⟨fun _ => SplitAt.zero ids l, fun h => absurd rfl h⟩
theorem SplT.step {ids l : List Nat} {k i i' : Nat} {er er' : Int} {xs : List (List Nat)} {x : List Nat} (h : SplT ids l k i er xs) (hk : k < ids.length) (hr : SecR l i er ids[k] i' er' x) : SplT ids l (k + 1) i' er' (xs ++ [x]) := by
  by_cases h0 : er = 0
  · obtain ⟨h1, h2⟩ := hr.2 h0
    refine ⟨fun h3 => ?_, fun h3 => ?_⟩
    · obtain ⟨h4, h5⟩ := h2 h3
      subst h4
      subst h5
      exact (h.1 h0).step hk (by
        have : (oneS ids[k] (l.drop i)).1 = 0 := by omega
        rw [← this])
    · rw [h1]
      exact congrArg Int.ofNat ((h.1 h0).bad hk rfl (by omega)).symm
  · have h1 := hr.1 h0
    rw [h1]
    exact ⟨fun h3 => absurd h3 h0, h.2⟩
theorem SplT.last {ids l : List Nat} {k i : Nat} {er : Int} {xs : List (List Nat)} (h : SplT ids l k i er xs) (hk : ids.length ≤ k) : endS l.length i er = (splitE ids l : Nat) ∧ (splitE ids l = 0 → (splitF ids l).2.1 = xs) := by
  unfold endS
  by_cases h0 : er = 0
  · have hs := h.1 h0
    by_cases hi : i < l.length
    · rw [if_pos ⟨h0, hi⟩, hs.long hk hi]
      exact ⟨rfl, fun h => by cases h⟩
    · rw [if_neg fun h => hi h.2, h0, (hs.fit hk (by omega)).1]
      exact ⟨rfl, fun _ => (hs.fit hk (by omega)).2⟩
  · rw [if_neg fun h => h0 h.1]
    refine ⟨h.2 h0, fun h1 => ?_⟩
    have := h.2 h0
    rw [h1] at this
    exact absurd this h0

/-- What Split returns. -/
def SplitP (w : World) (ids l : List Nat) (e : Ending) (w' : World) : Prop :=
  Below w.heap.size w w' ∧ ((splitE ids l = 0 ∧ ∃ v, e = .returned (.tuple #[v, .int .i64 0]) ∧ Lst w' w.heap.size v (splitF ids l).2.1) ∨
    (splitE ids l ≠ 0 ∧ e = .returned (.tuple #[.slice none 0 0, .int .i64 (splitE ids l : Nat)])))

set_option maxRecDepth 100000 in
set_option maxHeartbeats 2000000 in
theorem split_any (B : Nat) (A A' : Option Addr) (l ids : List Nat) (c c' : Nat) (w : World) (hs : Sees w B A (bts l)) (hi : Sees w B A' (bts ids)) (hB : B ≤ w.heap.size) (hby : Byt l) (hbi : Byt ids) (hm : l.length ≤ 1000000) (hn : ids.length ≤ 1000) :
    Calls Try.prog 9 #[.slice A l.length c, .slice A' ids.length c'] w (SplitP w ids l) := by
  obtain ⟨i0, hi0, hz0, hz1, hz2⟩ := info_parts infoSl
  have HBI := Lib.hid hbi
  have HN := Lib.hid (new_any A l B c w hs hB hby (by omega))
  clear hs hby hbi
  go_enter Try.func9, Try.ntmps9
  go_wp2_with fail
  refine HN.out.mono ?_
  rintro e W1 ⟨p, A1, c1, rfl, hp, hc1, hb1⟩
  have HC1 := Lib.hid hc1
  have HB1 := Lib.hid hb1
  have hpl := hc1.row.lt
  clear hc1 hb1 HN
  go_wp2_with fail
  go_loopw [7, 14] (fun s j wr => ∃ (k i : Nat) (er : Int) (v : Value) (vs : List Value) (xs : List (List Nat)), k ≤ ids.length ∧ v = s ∧ j = .int .i64 k ∧ xs.length = k ∧ Hid (Cur wr w.heap.size p l i er A1 c1) ∧ Hid (LstV wr W1.heap.size v vs xs) ∧ Hid (Below w.heap.size w wr) ∧ W1.heap.size ≤ wr.heap.size ∧ Hid (SplT ids l k i er xs)) (fun _ j _ => ids.length - (intOf j).toNat)
  case atStart => exact ⟨0, 0, 0, _, [], [], Nat.zero_le _, rfl, rfl, rfl, HC1.out, LstV.nil _ _, HB1.out, Nat.le_refl _, SplT.zero ids l⟩
  case round =>
    clear HC1 HB1
    obtain ⟨k, i, er, v, vs, xs, hk, rfl, rfl, hxl, HC, HV, HB, hz, HT⟩ := hrel
    by_cases hlt : k < ids.length
    · have hib := (hi.more hB).below HB.out
      obtain ⟨b, o, rfl, _, hc⟩ := hib (bts_ne hlt)
      have hcell : wr.cell? ⟨b, o + k, none⟩ = some (.int .u8 (ids[k] : Int)) := hc k _ (by simp [bts, hlt])
      have hx : ids[k] < 256 := HBI.out _ (List.getElem_mem hlt)
      have HS : Hid (∀ i' er' x, SecR l i er ids[k] i' er' x → SplT ids l (k + 1) i' er' (xs ++ [x])) := fun i' er' x h => HT.out.step hlt h
      clear hc hib hi HT
      generalize ids[k] = id at *
      go_wp2_with fail
      refine (read_section HC.out id hx (by omega)).mono ?_
      rintro e W2 ⟨x, A2, c2, i', er', rfl, hm2, hc2, ho2, hr2⟩
      have HC2 := Lib.hid hc2
      have HM2 := Lib.hid hm2
      have HO2 := Lib.hid ho2
      have HT2 := Lib.hid (HS.out _ _ _ hr2)
      clear hm2 hc2 ho2 hr2 HC HS
      have hoa : (W2.alloc (.cells #[.slice A2 x.length c2] 22)).ownsRow W1.heap.size 22 1 v vs.length vs :=
        (HM2.out.alloc (.cells #[.slice A2 x.length c2] 22)).own HV.out.outer fun g hg hs => by
          have := own_lt HV.out.outer g hg
          unfold Is at hs
          omega
      have HOA := Lib.hid hoa
      have hvl : vs.length ≤ 1000 := by rw [HV.out.len]; omega
      clear hoa
      go_wp2_with (at_builtin; refine wpList_append_own _ rfl (.tmp 18) (.tmp 22) 23 rfl W1.heap.size 22 i0 (.slice none 0 0) 1 24 Try.underlying23 hi0 hz0 hz1 hz2 rfl (by decide) _ _ _ rfl HOA.out ⟨W2.heap.size, 0, none⟩ 1 1 [.slice A2 x.length c2] rfl rfl ?c0 ?c1 ?c2 ?c3 ?c4 ?_)
      case c0 => exact cell_one_new W2 _ _
      case c1 =>
        intro u hu
        rw [List.mem_singleton.1 hu]
        rfl
      case c2 => unfold maxLen; omega
      case c3 => omega
      case c4 => have := HM2.out.size; simp; omega
      intro v3 W3 ho3 hg3 _
      have HV3 := Lib.hid (HV.out.snoc HM2.out (fun k hk => by unfold Is at hk; omega) hz HO2.out _ ho3 hg3)
      have hm3 : Mods (fun k => W1.heap.size ≤ k) W2 W3 := ((Mods.refl _ W2).alloc _).grown hg3 fun k hk => .inl (own_lt HV.out.outer k hk).1
      have HC3 := Lib.hid (HC2.out.mods hm3 fun k hk => .inr (by omega))
      have hz1 := HB.out.size
      have HB3 := Lib.hid ((HB.out.trans (HM2.out.below hz1 fun k hk => by unfold Is at hk; omega)).trans (hm3.below (B := w.heap.size) (by have := HM2.out.size; omega) fun k hk => by omega))
      have hz3 : W1.heap.size ≤ W3.heap.size := by have := HM2.out.size; have := hm3.size; omega
      clear ho3 hg3 hm3 HOA HO2 HM2 HC2 HV HB
      go_wp2
      go_roundw
      case rel => exact ⟨k + 1, i', er', v3, _, _, by omega, rfl, by go_num, by simp [hxl], HC3.out, HV3.out, HB3.out, hz3, HT2.out⟩
      case measure => simp [intOf]; omega
    · obtain rfl : k = ids.length := by omega
      obtain ⟨hE, hL⟩ := HT.out.last (Nat.le_refl _)
      have HL := Lib.hid hL
      obtain ⟨W4, hW4⟩ : ∃ x, x = wr := ⟨_, rfl⟩
      subst hW4
      clear hi hL HT
      go_wp2_with fail
      refine (end_any HC.out).mono ?_
      rintro e W5 ⟨rfl, hm5, hc5⟩
      rw [hE] at hc5
      have HC5 := Lib.hid hc5
      have HV5 := Lib.hid (HV.out.mods hm5 fun k h1 h2 hs => by unfold Is at hs; omega)
      have hz1 := HB.out.size
      have HB5 := Lib.hid (HB.out.trans (hm5.below hz1 fun k hk => by unfold Is at hk; omega))
      clear hm5 hc5 HC HV HB hE
      by_cases h0 : splitE ids l = 0
      · have g0 : (((splitE ids l : Nat) : Int) != 0) = false := by rw [h0]; rfl
        have HX := Lib.hid (HL.out h0)
        go_wp2_with fail
        refine (err_any HC5.out).mono ?_
        rintro e W6 ⟨rfl, rfl⟩
        go_wp2
        go_ret2
        refine ⟨HB5.out, .inl ⟨h0, v, rfl, ?_⟩⟩
        rw [HX.out]
        exact ⟨vs, HV5.out.rebase (by omega)⟩
      · have g0 : (((splitE ids l : Nat) : Int) != 0) = true := by simp; omega
        go_wp2_with fail
        refine (err_any HC5.out).mono ?_
        rintro e W6 ⟨rfl, rfl⟩
        go_wp2_with fail
        refine (err_any HC5.out).mono ?_
        rintro e W6 ⟨rfl, rfl⟩
        go_wp2
        go_ret2
        exact ⟨HB5.out, .inr ⟨h0, rfl⟩⟩

end Go.Proofs.Ytgipdebkikldaaa
