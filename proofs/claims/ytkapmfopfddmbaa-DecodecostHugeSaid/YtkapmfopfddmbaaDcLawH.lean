/-
  The walk of the statement on a header that announces too much (made by wip/lab/gendclh.py).
-/
import Derived.Test.YtkapmfopfddmbaaDcAwk
import Derived.Test.YtkapmfopfddmbaaVarAdd
import Derived.Test.YtkapmfopfddmbaaPk3
import Derived.Test.YtkapmfopfddmbaaPk1
namespace Go.Proofs.Ytkapmfopfddmbaa
open Go.RowKit Go.Deep
set_option linter.unusedVariables false
set_option linter.unusedSimpArgs false

/-- Bytes of one's own. -/
structure OW21 (w : World) (L : List Nat) (n : Nat) (A : Option Addr) (c : Nat) (W : World) : Prop where
  own : W.ownsRow w.heap.size 5 1 (.slice A n c) n (bts L)
  len : L.length = n

theorem OW21.below {w W W' : World} {L : List Nat} {n : Nat} {A : Option Addr} {c : Nat} (h : OW21 w L n A c W) (hb : Below W.heap.size W W') : OW21 w L n A c W' := ⟨(Mods.of_below (S := No) hb).own h.own fun _ _ h => h, h.len⟩

theorem OW21.see {w W : World} {L : List Nat} {n : Nat} {A : Option Addr} {c : Nat} (h : OW21 w L n A c W) : Sees W W.heap.size A (bts L) := Sees.of_own h.own

theorem OW21.mk' {w W : World} {L : List Nat} {n : Nat} {v : Value} (ho : W.ownsRow w.heap.size 5 1 v n (bts L)) (hl : L.length = n) : ∃ A c, v = .slice A n c ∧ n ≤ c ∧ c ≤ maxLen ∧ OW21 w L n A c W := by
  obtain ⟨A, c, rfl, h1, h2⟩ := own_slice ho (by rw [bts_length]; exact hl)
  exact ⟨A, c, rfl, h1, h2, ho, hl⟩

/-- Another list turns. -/
theorem OW21.apart {w W W' : World} {L L' : List Nat} {n n' : Nat} {A A' : Option Addr} {c c' : Nat} (h : OW21 w L n A c W) (hg : W.grownBy W' (Value.slice A' n' c').ownBlock) (hne : ∀ k, (Value.slice A n c).ownBlock = some k → (Value.slice A' n' c').ownBlock ≠ some k) : OW21 w L n A c W' := by
  have hm : Mods (fun k => (Value.slice A' n' c').ownBlock = some k) W W' := (Mods.refl _ _).grown hg fun k hk => .inl hk
  exact ⟨hm.own h.own fun k hk e => hne k hk e, h.len⟩

set_option maxRecDepth 100000 in
set_option maxHeartbeats 8000000 in
theorem DecodecostHuge_walk (a0 a1 a2 : Int) (a3 : Option Addr) (len0 cap0 : Nat) (z0 : List Int) (w : World) (w0 : (Lit.int .u8 a0).wf = true) (w1 : (Lit.int .u8 a1).wf = true) (w2 : (Lit.int .u64 a2).wf = true) (w3 : IsRow .u8 w a3 len0 cap0 z0) :
    Calls Try.prog 5 #[.int .u8 a0, .int .u8 a1, .int .u64 a2, .slice a3 len0 cap0] w fun e w' => e = .returned (.bool true) ∧ Below w.heap.size w w' := by
  obtain ⟨i0, hi0, hz0, hz1, hz2⟩ := info_parts infoU8
  have AW : Hid (∀ W, Calls Try.prog 7 #[] W fun e w' => e = .returned (.bool true) ∧ Below W.heap.size W w') := fun W => awake21_any W
  obtain ⟨l, rfl, hby, hs, hlc, hcm⟩ := w3.bytes
  clear w3
  have b0 := u8_of_wf w0
  have b1 := u8_of_wf w1
  have b2 := u64_of_wf w2
  unfold InU at b2
  clear w0 w1 w2
  have HS := Lib.hid hs
  have HBY := Lib.hid hby
  clear hs hby
  go_enter Try.func5, Try.ntmps5
  go_wp2_with fail
  refine (AW.out _).mono ?_
  rintro e W1 ⟨rfl, hb1⟩
  by_cases hlong : 500 < l.length
  · go_wp2_with fail
    refine (AW.out _).mono ?_
    rintro e W9 ⟨rfl, hb9⟩
    go_wp2
    go_ret
    exact ⟨rfl, hb1.trans (hb9.mono hb1.size)⟩
  obtain ⟨a, rfl⟩ := Int.eq_ofNat_of_zero_le b0.1
  obtain ⟨r, rfl⟩ := Int.eq_ofNat_of_zero_le b1.1
  obtain ⟨m, rfl⟩ := Int.eq_ofNat_of_zero_le b2.1
  have ha : a < 256 := by omega
  have hr : r < 256 := by omega
  have hm : m < 18446744073709551616 := by omega
  clear b0 b1 b2
  have q0 := putS_le a; have q1 := putS_le r; have q2 := putS_le m
  have B1 := Lib.hid hb1
  have HS1 := Lib.hid ((HS.out.below hb1).more hb1.size)
  have HCH := Lib.hid (costE_huge (a := a) (r := r) (m := m) (rest := l) ha hr hm (by omega) (s := (putS a ++ putS r) ++ putS m ++ l) (by simp))
  have HBX : Hid (Byt (82 :: 67 :: 1 :: (encS 1 ((putS a ++ putS r) ++ putS m ++ l) ++ [2, 0, 3, 0]))) := by
    have h1 : Byt ((putS a ++ putS r) ++ putS m ++ l) := byt_app18 (byt_app18 (byt_app18 (putS_b18 a (by omega)) (putS_b18 r (by omega))) (putS_b18 m hm)) HBY.out
    have h2 : Byt (putS ((putS a ++ putS r) ++ putS m ++ l).length) := putS_b18 _ (by simp only [List.length_append]; omega)
    intro c hc
    unfold encS at hc
    simp only [List.mem_cons, List.mem_append] at hc
    rcases hc with rfl | rfl | rfl | (rfl | h9) | h9
    · decide
    · decide
    · decide
    · decide
    · rcases h9 with h9 | h9
      · exact h2 c h9
      · exact h1 c (by simp only [List.mem_append]; exact h9)
    · simp at h9
      omega
  obtain ⟨P0, hP0⟩ : ∃ P, putS a = P := ⟨_, rfl⟩
  obtain ⟨P1, hP1⟩ : ∃ P, putS r = P := ⟨_, rfl⟩
  obtain ⟨P2, hP2⟩ : ∃ P, putS m = P := ⟨_, rfl⟩
  have K0 : Hid (∀ W, Calls Try.prog 12 #[.int .u64 (a : Int)] W fun e w' => ∃ g c, e = .returned (.slice (some ⟨g, 0, none⟩) P0.length c) ∧ w'.ownsRow W.heap.size 5 1 (.slice (some ⟨g, 0, none⟩) P0.length c) P0.length (bts P0) ∧ Below W.heap.size W w') := fun W => by
    have := rput_any (a : Int) W (by omega) (by omega)
    rw [Int.toNat_natCast] at this
    unfold lenS at this
    rw [hP0] at this
    exact this
  have K1 : Hid (∀ W, Calls Try.prog 12 #[.int .u64 (r : Int)] W fun e w' => ∃ g c, e = .returned (.slice (some ⟨g, 0, none⟩) P1.length c) ∧ w'.ownsRow W.heap.size 5 1 (.slice (some ⟨g, 0, none⟩) P1.length c) P1.length (bts P1) ∧ Below W.heap.size W w') := fun W => by
    have := rput_any (r : Int) W (by omega) (by omega)
    rw [Int.toNat_natCast] at this
    unfold lenS at this
    rw [hP1] at this
    exact this
  have K2 : Hid (∀ W, Calls Try.prog 12 #[.int .u64 (m : Int)] W fun e w' => ∃ g c, e = .returned (.slice (some ⟨g, 0, none⟩) P2.length c) ∧ w'.ownsRow W.heap.size 5 1 (.slice (some ⟨g, 0, none⟩) P2.length c) P2.length (bts P2) ∧ Below W.heap.size W w') := fun W => by
    have := rput_any (m : Int) W (by omega) (by omega)
    rw [Int.toNat_natCast] at this
    unfold lenS at this
    rw [hP2] at this
    exact this
  rw [hP0, hP1, hP2] at HCH HBX
  rw [hP0] at q0
  rw [hP1] at q1
  rw [hP2] at q2
  clear hP0 hP1 hP2 hb1 HS1 HBY
  go_wp2_with fail
  refine (K0.out _).mono ?_
  rintro e W2 ⟨g2, d2, rfl, ho2, hb2⟩
  have B2 := Lib.hid (B1.out.trans (hb2.mono B1.out.size))
  have HO2 := Lib.hid (Sees.of_own ho2)
  clear K0 B1 ho2 hb2
  go_wp2_with fail
  refine (K1.out _).mono ?_
  rintro e W3 ⟨g3, d3, rfl, ho3, hb3⟩
  have B3 := Lib.hid (B2.out.trans (hb3.mono B2.out.size))
  have HO3 := Lib.hid ((HO2.out.below hb3).more hb3.size)
  have CA := Lib.hid (add_any (some ⟨g2, 0, none⟩) (some ⟨g3, 0, none⟩) P0 P1 d2 d3 W3 HO3.out (Sees.of_own ho3) (by omega))
  clear K1 B2 HO2 HO3 ho3 hb3
  go_wp2_with fail
  refine CA.out.mono ?_
  rintro e W4 ⟨A4, d4, rfl, ho4, hb4⟩
  obtain ⟨L1, hL1⟩ : ∃ L, P0 ++ P1 = L := ⟨_, rfl⟩
  have hl1 : L1.length ≤ 20 := by rw [← hL1, List.length_append]; omega
  rw [hL1] at ho4 HCH HBX ⊢
  have B4 := Lib.hid (B3.out.trans (hb4.mono B3.out.size))
  have HO4 := Lib.hid ho4
  have hz34 := hb4.size
  have HW3 : Hid (w.heap.size ≤ W3.heap.size) := B3.out.size
  clear CA B3 ho4 hb4 hL1 q0 q1
  go_wp2_with fail
  refine (K2.out _).mono ?_
  rintro e W5 ⟨g5, d5, rfl, ho5, hb5⟩
  have B5 := Lib.hid (B4.out.trans (hb5.mono B4.out.size))
  have HO5 := Lib.hid ((Mods.of_below (S := No) hb5).own HO4.out fun _ _ h => h)
  have HP5 := Lib.hid (Sees.of_own ho5)
  have hz45 := hb5.size
  have hwz := B5.out.size
  clear K2 B4 HO4 ho5 hb5
  go_wp2_with (at_builtin; refine wpList_append_sees _ rfl (.tmp 27) (.tmp 29) 22 rfl W3.heap.size 5 i0 (.int .u8 0) 1 Try.underlying22 hi0 hz0 hz1 hz2 rfl _ _ _ rfl HO5.out W5.heap.size _ _ _ (bts P2) rfl HP5.out (bts_length _) (bts_one _) ?c1 ?c2 ?c3 ?_)
  case c1 => unfold maxLen; omega
  case c2 => omega
  case c3 => omega
  intro v6 W6 ho6 hg6
  rw [← bts_append] at ho6
  have hb6 : Below W3.heap.size W5 W6 := (Below.refl W3.heap.size W5).grown hg6 (by omega) (fun k hk => (ownS_lt HO5.out k hk).1)
  have hw3 : w.heap.size ≤ W3.heap.size := HW3.out
  have B6 := Lib.hid (B5.out.trans (hb6.mono hw3))
  obtain ⟨L2, hL2⟩ : ∃ L, L1 ++ P2 = L := ⟨_, rfl⟩
  obtain ⟨n2, hn2⟩ : ∃ n, L1.length + P2.length = n := ⟨_, rfl⟩
  have HN2 : Hid (L2.length = n2) := by show _ = _; rw [← hL2, ← hn2, List.length_append]
  have hn2' : n2 ≤ 30 := by omega
  rw [hL2, hn2] at ho6
  rw [hL2] at HCH HBX
  obtain ⟨A6, d6, rfl, _, _⟩ := own_slice ho6 (by rw [bts_length]; exact HN2.out)
  have HO6 := Lib.hid ho6
  have hz56 := hb6.size
  clear B5 HO5 HP5 ho6 hg6 hb6 hL2 hn2 hl1 q2
  go_wp2_with (at_builtin; refine wpList_append_sees _ rfl (.tmp 30) (.tmp 31) 22 rfl W3.heap.size 5 i0 (.int .u8 0) 1 Try.underlying22 hi0 hz0 hz1 hz2 rfl _ _ _ rfl HO6.out w.heap.size _ _ _ (bts l) rfl (HS.out.below B6.out) (bts_length _) (bts_one _) ?c1 ?c2 ?c3 ?_)
  case c1 => unfold maxLen; omega
  case c2 => omega
  case c3 => omega
  intro v7 W7 ho7 hg7
  rw [← bts_append] at ho7
  have hb7 : Below W3.heap.size W6 W7 := (Below.refl W3.heap.size W6).grown hg7 (by omega) (fun k hk => (ownS_lt HO6.out k hk).1)
  have B7 := Lib.hid (B6.out.trans (hb7.mono HW3.out))
  obtain ⟨L3, hL3⟩ : ∃ L, L2 ++ l = L := ⟨_, rfl⟩
  obtain ⟨n3, hn3⟩ : ∃ n, n2 + l.length = n := ⟨_, rfl⟩
  have HN3 : Hid (L3.length = n3) := by show _ = _; rw [← hL3, ← hn3, List.length_append, HN2.out]
  have hn3' : n3 ≤ 530 := by omega
  rw [hL3, hn3] at ho7
  rw [hL3] at HCH HBX
  obtain ⟨A7, d7, rfl, _, _⟩ := own_slice ho7 (by rw [bts_length]; exact HN3.out)
  have HO7 := Lib.hid (Sees.of_own ho7)
  clear B6 HO6 ho7 hg7 hb7 hL3 HN2 hn2'
  obtain ⟨PL, hPL⟩ : ∃ P, putS n3 = P := ⟨_, rfl⟩
  have q3 := putS_le n3
  have KL : Hid (∀ W, Calls Try.prog 12 #[.int .u64 (n3 : Int)] W fun e w' => ∃ g c, e = .returned (.slice (some ⟨g, 0, none⟩) PL.length c) ∧ w'.ownsRow W.heap.size 5 1 (.slice (some ⟨g, 0, none⟩) PL.length c) PL.length (bts PL) ∧ Below W.heap.size W w') := fun W => by
    have := rput_any (n3 : Int) W (by omega) (by omega)
    rw [Int.toNat_natCast] at this
    unfold lenS at this
    rw [hPL] at this
    exact this
  rw [hPL] at q3
  have HE : Hid (82 :: 67 :: 1 :: (encS 1 L3 ++ [2, 0, 3, 0]) = (([82, 67, 1, 1] ++ PL) ++ L3) ++ [2, 0, 3, 0]) := by
    show _ = _
    unfold encS
    rw [HN3.out, hPL]
    simp
  clear hPL hn3
  have hb8 : Below W7.heap.size W7 (W7.alloc (.cells #[.int .u8 82, .int .u8 67, .int .u8 1, .int .u8 1] 5)) := (Below.refl W7.heap.size W7).alloc (Nat.le_refl _) _
  have HH8 := Lib.hid (Row.new W7 5 #[.int .u8 82, .int .u8 67, .int .u8 1, .int .u8 1])
  have HO8 := Lib.hid (HO7.out.below hb8)
  have B8 := Lib.hid (B7.out.trans (hb8.mono B7.out.size))
  have hw7 := B7.out.size
  have hz78 := hb8.size
  go_wp2_with fail
  clear HO7 B7 hb8
  generalize (W7.alloc (.cells #[.int .u8 82, .int .u8 67, .int .u8 1, .int .u8 1] 5)) = W8 at *
  obtain ⟨hx, hhx⟩ : ∃ hx, W7.heap.size = hx := ⟨_, rfl⟩
  rw [hhx] at HH8 HO8 hw7 hz78 ⊢
  clear hhx
  refine (KL.out _).mono ?_
  rintro e W9 ⟨g9, d9, rfl, ho9, hb9⟩
  have HH9 := Lib.hid (HH8.out.below hb9 HH8.out.lt)
  have HO9 := Lib.hid (HO8.out.below (hb9.mono hz78))
  have B9 := Lib.hid (B8.out.trans (hb9.mono B8.out.size))
  have HP9 := Lib.hid (Sees.of_own ho9)
  have hz89 := hb9.size
  have HD9 : Hid (W9.ownsRow hx 5 1 (.slice (some ⟨hx, 0, none⟩) 4 4) 4 (bts [82, 67, 1, 1])) := ⟨rfl, .inr ⟨hx, 4, _, rfl, Nat.le_refl _, HH9.out, by decide, by decide, rfl, rfl⟩⟩
  clear KL HH8 HO8 B8 ho9 hb9 HH9
  go_wp2_with (at_builtin; refine wpList_append_sees _ rfl (.tmp 33) (.tmp 37) 22 rfl hx 5 i0 (.int .u8 0) 1 Try.underlying22 hi0 hz0 hz1 hz2 rfl _ _ _ rfl HD9.out W9.heap.size _ _ _ (bts PL) rfl HP9.out (bts_length _) (bts_one _) ?c1 ?c2 ?c3 ?_)
  case c1 => unfold maxLen; omega
  case c2 => omega
  case c3 => omega
  intro v10 W10 ho10 hg10
  rw [← bts_append] at ho10
  have hb10 : Below hx W9 W10 := (Below.refl hx W9).grown hg10 (by omega) (fun k hk => (ownS_lt HD9.out k hk).1)
  have B10 := Lib.hid (B9.out.trans (hb10.mono hw7))
  have HO10 := Lib.hid (HO9.out.below hb10)
  obtain ⟨L4, hL4⟩ : ∃ L, [82, 67, 1, 1] ++ PL = L := ⟨_, rfl⟩
  obtain ⟨n4, hn4⟩ : ∃ n, 4 + PL.length = n := ⟨_, rfl⟩
  have HN4 : Hid (L4.length = n4) := by show _ = _; rw [← hL4, ← hn4, List.length_append]; rfl
  have hn4' : n4 ≤ 14 := by omega
  have hz910 := hb10.size
  rw [hL4, hn4] at ho10
  rw [hL4] at HE
  obtain ⟨A10, d10, rfl, _, _⟩ := own_slice ho10 (by rw [bts_length]; exact HN4.out)
  have HD10 := Lib.hid ho10
  clear B9 HO9 HP9 HD9 ho10 hg10 hb10 hL4 hn4 q3
  go_wp2_with (at_builtin; refine wpList_append_sees _ rfl (.tmp 39) (.tmp 40) 22 rfl hx 5 i0 (.int .u8 0) 1 Try.underlying22 hi0 hz0 hz1 hz2 rfl _ _ _ rfl HD10.out hx _ _ _ (bts L3) rfl HO10.out (by rw [bts_length]; exact HN3.out) (bts_one _) ?c1 ?c2 ?c3 ?_)
  case c1 => unfold maxLen; omega
  case c2 => omega
  case c3 => omega
  intro v11 W11 ho11 hg11
  rw [← bts_append] at ho11
  have hb11 : Below hx W10 W11 := (Below.refl hx W10).grown hg11 (by omega) (fun k hk => (ownS_lt HD10.out k hk).1)
  have B11 := Lib.hid (B10.out.trans (hb11.mono hw7))
  obtain ⟨L5, hL5⟩ : ∃ L, L4 ++ L3 = L := ⟨_, rfl⟩
  obtain ⟨n5, hn5⟩ : ∃ n, n4 + n3 = n := ⟨_, rfl⟩
  have HN5 : Hid (L5.length = n5) := by show _ = _; rw [← hL5, ← hn5, List.length_append, HN4.out, HN3.out]
  have hn5' : n5 ≤ 544 := by omega
  have hz1011 := hb11.size
  rw [hL5, hn5] at ho11
  rw [hL5] at HE
  obtain ⟨A11, d11, rfl, _, _⟩ := own_slice ho11 (by rw [bts_length]; exact HN5.out)
  have HD11 := Lib.hid ho11
  clear B10 HO10 HD10 ho11 hg11 hb11 hL5 hn5
  have HD12 := Lib.hid (((Mods.refl No W11).alloc (.cells #[.int .u8 2, .int .u8 0, .int .u8 3, .int .u8 0] 5)).own HD11.out fun _ _ h => h)
  have HT12 : Hid (Sees (W11.alloc (.cells #[.int .u8 2, .int .u8 0, .int .u8 3, .int .u8 0] 5)) (W11.heap.size + 1) (some ⟨W11.heap.size, 0, none⟩) (bts [2, 0, 3, 0])) := fun _ => ⟨W11.heap.size, 0, rfl, by omega, fun i u hu => by
    rw [(Row.new W11 5 #[.int .u8 2, .int .u8 0, .int .u8 3, .int .u8 0]).cell (0 + i), ← hu, Nat.zero_add, List.getElem?_toArray]
    rfl⟩
  have B12 := Lib.hid (B11.out.alloc B11.out.size (.cells #[.int .u8 2, .int .u8 0, .int .u8 3, .int .u8 0] 5))
  go_wp2_with (at_builtin; refine wpList_append_sees _ rfl (.tmp 41) (.tmp 42) 22 rfl hx 5 i0 (.int .u8 0) 1 Try.underlying22 hi0 hz0 hz1 hz2 rfl _ _ _ rfl HD12.out (W11.heap.size + 1) _ _ _ (bts [2, 0, 3, 0]) rfl HT12.out (bts_length _) (bts_one _) ?c1 ?c2 ?c3 ?_)
  case c1 => unfold maxLen; omega
  case c2 => omega
  case c3 => simp; omega
  intro v13 W13 ho13 hg13
  rw [← bts_append] at ho13
  have hb13 : Below hx (W11.alloc (.cells #[.int .u8 2, .int .u8 0, .int .u8 3, .int .u8 0] 5)) W13 := (Below.refl hx _).grown hg13 (by simp; omega) (fun k hk => (ownS_lt HD12.out k hk).1)
  have B13 := Lib.hid (B12.out.trans (hb13.mono hw7))
  obtain ⟨L6, hL6⟩ : ∃ L, L5 ++ [2, 0, 3, 0] = L := ⟨_, rfl⟩
  obtain ⟨n6, hn6⟩ : ∃ n, n5 + 4 = n := ⟨_, rfl⟩
  have HN6 : Hid (L6.length = n6) := by show _ = _; rw [← hL6, ← hn6, List.length_append, HN5.out]; rfl
  have hn6' : n6 ≤ 548 := by omega
  rw [hL6, hn6] at ho13
  rw [hL6] at HE
  obtain ⟨A13, d13, rfl, hl13, hm13⟩ := own_slice ho13 (by rw [bts_length]; exact HN6.out)
  rw [HE.out] at HCH HBX
  obtain ⟨⟨b, i, p, y⟩, hc⟩ : ∃ c, costE L6 = c := ⟨_, rfl⟩
  rw [hc] at HCH
  obtain ⟨hp0, hb0, hi0⟩ := HCH.out
  dsimp only at hp0 hb0 hi0
  have HB0 := Lib.hid hb0
  have HI0 := Lib.hid hi0
  clear hb0 hi0
  have C1 : Hid (Calls Try.prog 8 #[.slice A13 n6 d13] W13 (OfP W13 L6)) := by
    have := pof21_any A13 L6 d13 W13 (Sees.of_own ho13) HBX.out (by rw [HN6.out]; omega) (by rw [HN6.out]; exact hl13) hm13
    rw [HN6.out] at this
    exact this
  unfold OfP at C1
  rw [hc] at C1
  dsimp only at C1
  clear hc HCH HBX HE HN6 HD12 HT12 B11 B12 ho13 hg13 hb13 hL6 hn6 HN3 HN4 HN5 HD11
  subst hp0
  go_wp2_with fail
  refine C1.out.mono ?_
  rintro e W14 ⟨rfl, hb⟩
  have B14 := Lib.hid (B13.out.trans (hb.mono B13.out.size))
  clear C1 B13 hb
  go_upto_region 8 with fail
  have B15 := Lib.hid (B14.out.alloc B14.out.size (.cells #[.int .i64 b, .int .i64 i, .int .i64 0, .int .i64 (y : Int)] 25))
  have HC15 := Lib.hid (Row.new W14 25 #[.int .i64 b, .int .i64 i, .int .i64 0, .int .i64 (y : Int)])
  clear B14
  generalize (W14.alloc (.cells #[.int .i64 b, .int .i64 i, .int .i64 0, .int .i64 (y : Int)] 25)) = W15 at *
  obtain ⟨x, hx2⟩ : ∃ x, W14.heap.size = x := ⟨_, rfl⟩
  rw [hx2] at HC15 ⊢
  clear hx2
  have q0 := HC15.out.k0; have q1 := HC15.out.k1; have q2 := HC15.out.k2; have q3 := HC15.out.k3
  by_cases h1 : r < a
  · have hbz : b = 0 := by rw [HB0.out, if_pos (.inl h1)]
    have hiz : i = 0 := HI0.out (.inl h1)
    subst hbz hiz
    clear HB0 HI0
    go_wp2
    go_ret
    exact ⟨rfl, B15.out⟩
  by_cases h2 : l.length / 3 < m
  · have hbz : b = 0 := by rw [HB0.out, if_pos (.inr h2)]
    have hiz : i = 0 := HI0.out (.inr h2)
    subst hbz hiz
    clear HB0 HI0
    go_wp2
    go_ret
    exact ⟨rfl, B15.out⟩
  · have hbz : b = (m : Int) := by rw [HB0.out, if_neg (fun h => h.elim h1 h2)]
    subst hbz
    have hm9 : m ≤ 200 := by omega
    clear HB0 HI0
    go_wp2
    go_ret
    exact ⟨rfl, B15.out⟩

end Go.Proofs.Ytkapmfopfddmbaa
