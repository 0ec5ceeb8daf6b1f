/-
  The walk of the statement that a damaged packed form is rejected with the right error.
-/
import Derived.Test.YtgipdebkikldaaaSecAwake
import Derived.Test.YtgipdebkikldaaaSecIn
import Derived.Test.YtgipdebkikldaaaVarAdd
namespace Go.Proofs.Ytgipdebkikldaaa
open Go.RowKit
set_option linter.unusedVariables false

theorem u16_of_wf {x : Int} (h : (Lit.int .u16 x).wf = true) : 0 ≤ x ∧ x ≤ 65535 := by
  simp [Lit.wf, IntKind.min, IntKind.max, IntKind.signed, IntKind.bits] at h
  omega
theorem split_badN (B : Nat) (A A' : Option Addr) (l ids : List Nat) (n m c c' : Nat) (w : World) (hs : Sees w B A (bts l)) (hi : Sees w B A' (bts ids)) (hB : B ≤ w.heap.size) (hby : Byt l) (hbi : Byt ids) (hn : l.length = n) (hnm : ids.length = m) (hm : n ≤ 1000000) (hm2 : m ≤ 1000) (E : Nat) (hE : splitE ids l = E) (h0 : E ≠ 0) :
    Calls Try.prog 9 #[.slice A n c, .slice A' m c'] w fun e w' => e = .returned (.tuple #[.slice none 0 0, .int .i64 E]) ∧ Below w.heap.size w w' := by
  subst hn hnm
  exact split_bad B A A' l ids c c' w hs hi hB hby hbi hm hm2 E hE h0
theorem sizeS_pos : ∀ xs : List (List Nat), 0 < xs.length → 0 < sizeS xs
  | [], h => by simp at h
  | x :: xs, _ => by rw [sizeS]; omega
theorem own_at {w : World} {base n c : Nat} {e : TypeId} {A : Option Addr} {xs : List Value} (h : w.ownsRow base e 1 (.slice A n c) n xs) (hn : 0 < n) : ∃ g, A = some ⟨g, 0, none⟩ ∧ base ≤ g ∧ g < w.heap.size := by
  obtain ⟨g, cap, hv, h1, h2⟩ := h.form hn
  injection hv with h3
  exact ⟨g, h3, h1, h2⟩

theorem byt_snoc {l : List Nat} {y : Nat} (h : ∀ c ∈ l, c < 256) (hy : y < 256) : Byt (l ++ [y]) := fun c hc => by
  rcases List.mem_append.1 hc with h1 | h1
  · exact h c h1
  · rw [List.mem_singleton.1 h1]
    exact hy

set_option maxRecDepth 100000 in
set_option maxHeartbeats 1000000 in
theorem SectionDamage_walk (a0 : Option Addr) (len0 cap0 : Nat) (z0 : List Int) (a1 : Option Addr) (len1 cap1 : Nat) (a2 : Int) (a3 : Int) (a4 : Int) (w : World) (w0 : IsRow .u8 w a0 len0 cap0 z0) (w1 : IsLists w a1 len1 cap1) (w2 : (Lit.int .u16 a2).wf = true) (w3 : (Lit.int .u8 a3).wf = true) (w4 : (Lit.int .u8 a4).wf = true) :
    Calls Try.prog 5 #[.slice a0 len0 cap0, .slice a1 len1 cap1, .int .u16 a2, .int .u8 a3, .int .u8 a4] w fun e w' => e = .returned (.bool true) ∧ Below w.heap.size w w' := by
  obtain ⟨ids, rfl, hbi, hsi, hlc0, hcm0⟩ := w0.bytes
  obtain ⟨xs, rfl, hsx, hbx, hlc1, hcm1⟩ := w1
  obtain ⟨u20, u21⟩ := u16_of_wf w2
  obtain ⟨u30, u31⟩ := u8_of_wf w3
  obtain ⟨u40, u41⟩ := u8_of_wf w4
  clear w0 w2 w3 w4
  obtain ⟨cut, rfl⟩ := Int.eq_ofNat_of_zero_le u20
  obtain ⟨more, rfl⟩ := Int.eq_ofNat_of_zero_le u30
  obtain ⟨att, rfl⟩ := Int.eq_ofNat_of_zero_le u40
  have u31' : more < 256 := by omega
  obtain ⟨i0, hi0, hz0, hz1, hz2⟩ := info_parts infoU8
  by_cases l1 : ids.length ≤ 100
  case neg =>
    unfold maxLen at hcm0 hcm1
    go_enter Try.func5, Try.ntmps5
    go_wp2_with fail
    refine (awake_any _).mono ?_
    rintro e W ⟨rfl, hb⟩
    go_wp2_with fail
    refine (awake_any _).mono ?_
    rintro e W2 ⟨rfl, hb2⟩
    go_wp2_with fail
    go_ret
    exact ⟨rfl, hb.trans (hb2.mono hb.size)⟩
  have HBI := Lib.hid hbi
  have HBX := Lib.hid hbx
  clear hbi hbx
  by_cases hlen : ids.length = xs.length ∧ 0 < ids.length
  case neg =>
    have HLG : ids.length ≠ xs.length ∨ (ids.length = xs.length ∧ ids.length = 0) := by omega
    have hx1 := hlc1
    unfold maxLen at hcm0 hcm1
    clear hlen
    rcases HLG with h1 | ⟨h1, h2⟩
    · have e2 : ((ids.length : Int) != (xs.length : Int)) = true := by simp; omega
      clear h1
      go_enter Try.func5, Try.ntmps5
      go_wp2_with fail
      refine (awake_any _).mono ?_
      rintro e W ⟨rfl, hb⟩
      go_wp2_with fail
      refine (few_any w.heap.size a1 xs cap1 W (hsx.below hb) (by unfold maxLen; omega)).mono ?_
      rintro e W1 ⟨bb, rfl, hF, n1, hW1⟩
      have hb1 : Below w.heap.size w W1 := by
        rw [← hW1]
        exact blw_drewN hb _
      clear hW1 hF
      cases bb
      all_goals
        go_wp2_with fail
        refine (awake_any _).mono ?_
        rintro e W2 ⟨rfl, hb2⟩
        go_wp2_with fail
        go_ret
        exact ⟨rfl, hb1.trans (hb2.mono hb1.size)⟩
    · have hxz : xs.length = 0 := by omega
      have HX0 := Lib.hid hxz
      have e2 : ((ids.length : Int) != (xs.length : Int)) = false := by rw [h1]; simp
      have e3 : ((ids.length : Int) == 0) = true := by simp [h2]
      clear h1 h2 hxz
      go_enter Try.func5, Try.ntmps5
      go_wp2_with fail
      refine (awake_any _).mono ?_
      rintro e W ⟨rfl, hb⟩
      go_wp2_with fail
      refine (few_any w.heap.size a1 xs cap1 W (hsx.below hb) (by unfold maxLen; omega)).mono ?_
      rintro e W1 ⟨bb, rfl, hF, n1, hW1⟩
      have hb1 : Below w.heap.size w W1 := by
        rw [← hW1]
        exact blw_drewN hb _
      clear hW1 hF
      cases bb
      all_goals
        go_wp2_with fail
        refine (awake_any _).mono ?_
        rintro e W2 ⟨rfl, hb2⟩
        go_wp2_with fail
        go_ret
        exact ⟨rfl, hb1.trans (hb2.mono hb1.size)⟩
  obtain ⟨hlen, hpos⟩ := hlen
  have e2 : ((ids.length : Int) != (xs.length : Int)) = false := by rw [hlen]; simp
  have e3 : ((ids.length : Int) == 0) = false := beq_eq_false_iff_ne.2 (by omega)
  have hxl : xs.length ≤ 100 := by omega
  have hxp : 0 < xs.length := by omega
  have HL := Lib.hid hlen
  clear hlen
  go_enter Try.func5, Try.ntmps5
  go_wp2_with fail
  refine (awake_any _).mono ?_
  rintro e W ⟨rfl, hb⟩
  have HB := Lib.hid hb
  clear hb
  go_wp2_with fail
  refine (few_any w.heap.size a1 xs cap1 W (hsx.below HB.out) (by omega)).mono ?_
  rintro e W1 ⟨bb, rfl, hF, n1, hW1⟩
  have HB1 : Hid (Below w.heap.size w W1) := by
    rw [← hW1]
    exact blw_drewN HB.out _
  clear hW1 HB
  cases bb
  · clear hF
    go_wp2_with fail
    refine (awake_any _).mono ?_
    rintro e W2 ⟨rfl, hb2⟩
    go_wp2_with fail
    go_ret
    exact ⟨rfl, HB1.out.trans (hb2.mono HB1.out.size)⟩
  obtain ⟨hx100, htot⟩ := hF rfl
  clear hF
  have hsz := sizeS_le xs
  have hxb : ∀ x ∈ xs, x.length < 18446744073709551616 := fun x hx => by have := totalS_mem xs x hx; omega
  have hps : 0 < (packS ids xs).length ∧ (packS ids xs).length ≤ 3100 := by rw [packS_size ids xs HL.out]; have := sizeS_pos xs hxp; omega
  obtain ⟨hps0, hps1⟩ := hps
  have HPB := Lib.hid (packS_byt ids xs HBI.out HBX.out hxb)
  have HCUT : Hid (∀ k, k < (packS ids xs).length → splitE ids ((packS ids xs).take k) = 1) := fun k hk => splitE_cut ids xs k HL.out hxb hk
  have HLONG : Hid (∀ y, splitE ids (packS ids xs ++ [y]) = 2) := fun y => splitE_long ids xs y HL.out hxb
  have HOTH : Hid (∀ (i y : Nat) (hi : i < ids.length), ids[i] ≠ y → splitE (ids.set i y) (packS ids xs) = 7) := fun i y hi hy => splitE_other ids xs i y hi HL.out hxb hy
  clear hxb
  go_wp2_with fail
  refine (rpack_any w.heap.size a0 a1 ids xs cap0 cap1 W1 (hsi.below HB1.out) (hsx.below HB1.out) HB1.out.size HL.out HBI.out (by omega) (by omega) (by omega)).mono ?_
  rintro e W2 ⟨A2, c2, rfl, ho2, hb2⟩
  have HB2 := Lib.hid (HB1.out.trans (hb2.mono HB1.out.size))
  obtain ⟨g2, rfl, hg2, hg2'⟩ := own_at ho2 hps0
  obtain ⟨hlc2, hcm2⟩ := own_cap ho2
  have HO2 := Lib.hid ho2
  clear ho2 hb2 HB1
  generalize packS ids xs = P at *
  obtain ⟨k, hkr, hkl⟩ : ∃ k : Nat, (cut : Int) % (P.length : Int) = (k : Int) ∧ k < P.length := ⟨cut % P.length, by simp, Nat.mod_lt _ hps0⟩
  obtain ⟨i, hir, hil⟩ : ∃ i : Nat, (att : Int) % (ids.length : Int) = (i : Int) ∧ i < ids.length := ⟨att % ids.length, by simp, Nat.mod_lt _ hpos⟩
  have hsp : Sees W2 W2.heap.size (some ⟨g2, 0, none⟩) (bts P) := Sees.of_own HO2.out
  have hst : Sees W2 W2.heap.size (some ⟨g2, 0, none⟩) (bts (P.take k)) := by have := hsp.take (k := k); unfold bts at *; rwa [List.map_take]
  have HSP := Lib.hid hsp
  have HST := Lib.hid hst
  have htk : (P.take k).length = k := by rw [List.length_take]; omega
  have HTK := Lib.hid htk
  clear hsp hst htk
  go_wp2_with fail
  refine (split_badN W2.heap.size _ a0 (P.take k) ids k _ _ cap0 W2 HST.out ((hsi.below HB2.out).more HB2.out.size) (Nat.le_refl _) (fun c hc => HPB.out c (List.mem_of_mem_take hc)) HBI.out HTK.out rfl (by omega) (by omega) 1 (HCUT.out k hkl) (by decide)).mono ?_
  rintro e W3 ⟨rfl, hb3⟩
  have HB3 := Lib.hid (HB2.out.trans (hb3.mono HB2.out.size))
  have HSP3 := Lib.hid ((HSP.out.below hb3).more hb3.size)
  clear hb3 HST HTK HCUT HSP HB2
  go_wp2_with fail
  refine (add_any _ _ P [more] _ _ (W3.alloc (.cells #[.int .u8 more] 5)) ((HSP3.out.alloc (Nat.le_refl _) _).more (by simp)) ((lit_sees W3 #[.int .u8 more] 5 [more] rfl).more (by simp)) (by simp; omega)).mono ?_
  rintro e W4 ⟨A4, c4, rfl, ho4, hb4⟩
  have hb34 : Below W3.heap.size W3 W4 := ((Below.refl _ _).alloc (Nat.le_refl _) _).trans (hb4.mono (by simp))
  have HB4 := Lib.hid (HB3.out.trans (hb34.mono HB3.out.size))
  have HO4 := Lib.hid (show W4.ownsRow (W3.alloc (.cells #[.int .u8 more] 5)).heap.size 5 1 (.slice A4 (P.length + 1) c4) (P.length + 1) (bts (P ++ [more])) by
    rw [List.length_append] at ho4
    exact ho4)
  have HSP4 := Lib.hid ((HSP3.out.below hb34).more hb34.size)
  clear hb34 hb4 ho4 HSP3 HB3
  go_wp2_with fail
  refine (split_badN W4.heap.size A4 a0 (P ++ [more]) ids (P.length + 1) _ _ cap0 W4 (Sees.of_own HO4.out) ((hsi.below HB4.out).more HB4.out.size) (Nat.le_refl _) (byt_snoc HPB.out u31') HBI.out (by simp) rfl (by omega) (by omega) 2 (HLONG.out more) (by decide)).mono ?_
  rintro e W5 ⟨rfl, hb5⟩
  have HB5 := Lib.hid (HB4.out.trans (hb5.mono HB4.out.size))
  have HSP5 := Lib.hid ((HSP4.out.below hb5).more hb5.size)
  clear hb5 HSP4 HB4 HO4 HLONG
  have hi5 := hsi.below HB5.out
  have hz5 := HB5.out.size
  go_wp2_with (at_builtin; refine wpList_append_sees _ rfl (.tmp 71) (.tmp 72) 22 rfl W5.heap.size 5 i0 (.int .u8 0) 1 Try.underlying22 hi0 hz0 hz1 hz2 rfl _ _ _ rfl (World.ownsRow_made W5 #[] 0 (Nat.le_refl _) (by decide) rfl) w.heap.size _ _ _ (bts ids) rfl (hi5.alloc hz5 _) (bts_length ids) (bts_one ids) ?c1 ?c2 ?c3 ?_)
  case c1 => unfold maxLen; omega
  case c2 => omega
  case c3 => simp
  intro v6 W6 ho6 hg6
  have hb56 : Below W5.heap.size W5 W6 := ((Below.refl _ _).alloc (Nat.le_refl _) _).grown hg6 (by simp) (fun k hk => by simp [Value.ownBlock] at hk; omega)
  obtain ⟨g6, c6, rfl, hg6a, hg6b⟩ := ho6.form hpos
  have HB6 := Lib.hid (HB5.out.trans (hb56.mono HB5.out.size))
  have HSP6 := Lib.hid (HSP5.out.below hb56)
  have hcell : W6.cell? ⟨g6, i, none⟩ = some (.int .u8 (ids[i] : Int)) := (ho6.cellAt i (by omega)).trans (by simp [bts, hil])
  have hfr := ho6.frozenAt i
  have HS := Lib.hid (fun z : Int => ho6.stored i (.int .u8 z))
  have hx : ids[i] < 256 := HBI.out _ (List.getElem_mem hil)
  have HOT := Lib.hid (HOTH.out i ((ids[i] + 1) % 256) hil (by omega))
  have HBS := Lib.hid (show Byt (ids.set i ((ids[i] + 1) % 256)) from fun c hc => by
    rcases List.mem_or_eq_of_mem_set hc with h | h
    · exact HBI.out c h
    · omega)
  clear ho6 hg6 hb56 HSP5 HB5 hi5 HOTH
  generalize ids[i] = y at *
  have hy7 : (bts ids).set i (Value.int .u8 (((y : Int) + 1) % 256)) = bts (ids.set i ((y + 1) % 256)) := by
    rw [← bts_set]
    simp
  have ho7 := (HS.out (((y : Int) + 1) % 256)).1
  rw [hy7] at ho7
  have hb7 : Below W5.heap.size W6 (W6.setCell ⟨g6, i, none⟩ (.int .u8 (((y : Int) + 1) % 256))) := (Below.refl _ _).setCell (p := ⟨g6, i, none⟩) hg6a _
  have HSP7 := Lib.hid (HSP6.out.below hb7)
  have HO7 := Lib.hid ho7
  have HB7 := Lib.hid (HB6.out.trans (hb7.mono hz5))
  clear ho7 hb7 HS HB6 HSP6 hy7
  go_wp2_with fail
  have hz7 := HB7.out.size
  have hlt7 := (own_lt HO7.out g6 rfl).2
  refine (split_badN _ _ _ P (ids.set i ((y + 1) % 256)) _ _ c2 c6 _ (HSP7.out.more (by omega)) (Sees.of_own HO7.out) (Nat.le_refl _) HPB.out HBS.out rfl (by rw [List.length_set]) (by omega) (by omega) 7 HOT.out (by decide)).mono ?_
  rintro e W8 ⟨rfl, hb8⟩
  have HB8 := Lib.hid (HB7.out.trans (hb8.mono hz7))
  clear hb8 HB7 HO7 HSP7
  go_wp2
  go_ret
  exact ⟨rfl, HB8.out⟩

end Go.Proofs.Ytgipdebkikldaaa
