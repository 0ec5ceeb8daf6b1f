/-
  The fixed examples that every statement of layer 3 checks first: they come out true, and nothing that was there turns.
-/
import Derived.Test.YtgipdebkikldaaaSecSplit
import Derived.Test.YtgipdebkikldaaaSecPack
import Derived.Test.YtgipdebkikldaaaSecSize
namespace Go.Proofs.Ytgipdebkikldaaa
open Go.RowKit
set_option linter.unusedVariables false

section
variable {w : World}
theorem split_bad (B : Nat) (A A' : Option Addr) (l ids : List Nat) (c c' : Nat) (w : World) (hs : Sees w B A (bts l)) (hi : Sees w B A' (bts ids)) (hB : B ≤ w.heap.size) (hby : Byt l) (hbi : Byt ids) (hm : l.length ≤ 1000000) (hn : ids.length ≤ 1000) (E : Nat) (hE : splitE ids l = E) (h0 : E ≠ 0) :
    Calls Try.prog 9 #[.slice A l.length c, .slice A' ids.length c'] w fun e w' => e = .returned (.tuple #[.slice none 0 0, .int .i64 E]) ∧ Below w.heap.size w w' := by
  refine (split_any B A A' l ids c c' w hs hi hB hby hbi hm hn).mono ?_
  rintro e w' ⟨hb, ⟨h1, _⟩ | ⟨h1, h2⟩⟩
  · exact absurd (hE.symm.trans h1) h0
  · rw [hE] at h2
    exact ⟨h2, hb⟩
theorem split_ok (B : Nat) (A A' : Option Addr) (l ids : List Nat) (c c' : Nat) (w : World) (hs : Sees w B A (bts l)) (hi : Sees w B A' (bts ids)) (hB : B ≤ w.heap.size) (hby : Byt l) (hbi : Byt ids) (hm : l.length ≤ 1000000) (hn : ids.length ≤ 1000) (xs : List (List Nat)) (hE : splitE ids l = 0) (hx : (splitF ids l).2.1 = xs) :
    Calls Try.prog 9 #[.slice A l.length c, .slice A' ids.length c'] w fun e w' => ∃ A' c', e = .returned (.tuple #[.slice A' xs.length c', .int .i64 0]) ∧ Lst w' w.heap.size (.slice A' xs.length c') xs ∧ Below w.heap.size w w' := by
  refine (split_any B A A' l ids c c' w hs hi hB hby hbi hm hn).mono ?_
  rintro e w' ⟨hb, ⟨h1, v, h2, h3⟩ | ⟨h1, h2⟩⟩
  · rw [hx] at h3
    obtain ⟨A2, c2, rfl, _, _, _⟩ := h3.sees
    exact ⟨A2, c2, h2, h3, hb⟩
  · exact absurd hE h1
theorem Lst.seen {w : World} {base : Nat} {A : Option Addr} {n c : Nat} {xs : List (List Nat)} (h : Lst w base (.slice A n c) xs) : SeesL w w.heap.size A xs := by
  obtain ⟨A', c', hv, _, _, hs⟩ := h.sees
  injection hv with h1
  rw [h1]
  exact hs

theorem lit_sees (w : World) (cs : Array Value) (e : TypeId) (l : List Nat) (h : cs.toList = bts l) : Sees (w.alloc (.cells cs e)) (w.heap.size + 1) (some ⟨w.heap.size, 0, none⟩) (bts l) := fun _ => by
  refine ⟨w.heap.size, 0, rfl, by omega, fun i u hu => ?_⟩
  rw [cell_of_row _ w.heap.size (0 + i) cs e (0, 0) (heap_alloc_new w _), ← hu, ← h, Nat.zero_add]
  simp
theorem litL_sees (w : World) (A : Option Addr) (B c : Nat) (e : TypeId) (l : List Nat) (hs : Sees w B A (bts l)) (hB : B ≤ w.heap.size) (hc : l.length ≤ c) (hm : c ≤ maxLen) : SeesL (w.alloc (.cells #[.slice A l.length c] e)) (w.heap.size + 1) (some ⟨w.heap.size, 0, none⟩) [l] := by
  refine ⟨[.slice A l.length c], fun _ => ⟨w.heap.size, 0, rfl, by omega, fun i u hu => ?_⟩, rfl, fun i x hx => ?_⟩
  · rw [cell_of_row _ w.heap.size (0 + i) _ e (0, 0) (heap_alloc_new w _), ← hu, Nat.zero_add]
    simp
  · cases i with
    | zero =>
      injection hx with hx
      subst hx
      exact ⟨A, c, rfl, hc, hm, (hs.alloc hB _).more (by omega)⟩
    | succ i => simp at hx

/-- Split of two literals. -/
theorem splitLit_bad (w : World) (l ids : List Nat) (n m : Nat) (cs ds : Array Value) (g1 g2 : Nat) (h1 : g1 = w.heap.size) (h2 : g2 = w.heap.size + 1) (hl : l.length = n) (hi : ids.length = m) (hc : cs.toList = bts l) (hd : ds.toList = bts ids) (hb : Byt l) (hbi : Byt ids) (hm : n ≤ 100) (hm2 : m ≤ 100) (E : Nat) (hE : splitE ids l = E) (h0 : E ≠ 0) :
    Calls Try.prog 9 #[.slice (some ⟨g1, 0, none⟩) n n, .slice (some ⟨g2, 0, none⟩) m m] ((w.alloc (.cells cs 5)).alloc (.cells ds 5)) fun e w' => e = .returned (.tuple #[.slice none 0 0, .int .i64 E]) ∧ Below w.heap.size w w' := by
  subst hl hi h1 h2
  have s1 := ((lit_sees w cs 5 l hc).alloc (by simp) (.cells ds 5)).more (B' := w.heap.size + 2) (by omega)
  have s2 := (lit_sees (w.alloc (.cells cs 5)) ds 5 ids hd)
  simp only [World.size_alloc] at s2
  refine (split_bad (w.heap.size + 2) _ _ l ids l.length ids.length _ s1 s2 (by simp) hb hbi (by omega) (by omega) E hE h0).mono ?_
  rintro e w' ⟨h3, h4⟩
  exact ⟨h3, (((Below.refl w.heap.size w).alloc (Nat.le_refl _) _).alloc (by simp) _).trans (h4.mono (by simp; omega))⟩
theorem splitLit_ok (w : World) (l ids : List Nat) (n m : Nat) (cs ds : Array Value) (g1 g2 : Nat) (h1 : g1 = w.heap.size) (h2 : g2 = w.heap.size + 1) (hl : l.length = n) (hi : ids.length = m) (hc : cs.toList = bts l) (hd : ds.toList = bts ids) (hb : Byt l) (hbi : Byt ids) (hm : n ≤ 100) (hm2 : m ≤ 100) (xs : List (List Nat)) (hE : splitE ids l = 0) (hx : (splitF ids l).2.1 = xs) :
    Calls Try.prog 9 #[.slice (some ⟨g1, 0, none⟩) n n, .slice (some ⟨g2, 0, none⟩) m m] ((w.alloc (.cells cs 5)).alloc (.cells ds 5)) fun e w' => ∃ A' c', e = .returned (.tuple #[.slice A' xs.length c', .int .i64 0]) ∧ Lst w' w.heap.size (.slice A' xs.length c') xs ∧ Below w.heap.size w w' := by
  subst hl hi h1 h2
  have s1 := ((lit_sees w cs 5 l hc).alloc (by simp) (.cells ds 5)).more (B' := w.heap.size + 2) (by omega)
  have s2 := (lit_sees (w.alloc (.cells cs 5)) ds 5 ids hd)
  simp only [World.size_alloc] at s2
  refine (split_ok (w.heap.size + 2) _ _ l ids l.length ids.length _ s1 s2 (by simp) hb hbi (by omega) (by omega) xs hE hx).mono ?_
  rintro e w' ⟨A', c', h3, h5, h4⟩
  exact ⟨A', c', h3, h5.rebase (by simp; omega), (((Below.refl w.heap.size w).alloc (Nat.le_refl _) _).alloc (by simp) _).trans (h4.mono (by simp; omega))⟩
theorem packLit (w : World) (ids l p : List Nat) (n k : Nat) (cs ds : Array Value) (g1 g2 g3 : Nat) (h1 : g1 = w.heap.size) (h2 : g2 = w.heap.size + 1) (h3 : g3 = w.heap.size + 2) (hi : ids.length = 1) (hl : l.length = n) (hd : ds.toList = bts ids) (hc : cs.toList = bts l) (hbi : Byt ids) (hn : n ≤ 100) (hp : packS ids [l] = p) (hk : p.length = k) :
    Calls Try.prog 12 #[.slice (some ⟨g1, 0, none⟩) 1 1, .slice (some ⟨g3, 0, none⟩) 1 1] (((w.alloc (.cells ds 5)).alloc (.cells cs 5)).alloc (.cells #[.slice (some ⟨g2, 0, none⟩) n n] 22)) fun e w' => ∃ A' c', e = .returned (.tuple #[.slice A' k c', .int .i64 0]) ∧ w'.ownsRow w.heap.size 5 1 (.slice A' k c') k (bts p) ∧ Below w.heap.size w w' := by
  subst hl h1 h2 h3 hp hk
  have s1 := (((lit_sees w ds 5 ids hd).alloc (by simp) (.cells cs 5)).alloc (by simp) (.cells #[.slice (some ⟨w.heap.size + 1, 0, none⟩) l.length l.length] 22)).more (B' := w.heap.size + 3) (by omega)
  have s2 := (lit_sees (w.alloc (.cells ds 5)) cs 5 l hc)
  have s3 := litL_sees _ _ _ l.length 22 l s2 (by simp) (Nat.le_refl _) (by unfold maxLen; omega)
  simp only [World.size_alloc] at s3
  have := pack_any (w.heap.size + 3) _ _ ids [l] 1 1 _ s1 s3 (by simp) (by rw [hi]; rfl) hbi (by simp) (by have := putS_le l.length; simp only [sizeS]; unfold lenS; omega) (by simp only [totalS]; omega)
  rw [hi] at this
  refine this.mono ?_
  rintro e w' ⟨A', c', h3, h5, h4⟩
  exact ⟨A', c', h3, own_base h5 (by simp; omega), ((((Below.refl w.heap.size w).alloc (Nat.le_refl _) _).alloc (by simp) _).alloc (by simp; omega) _).trans (h4.mono (by simp; omega))⟩
end

set_option maxRecDepth 100000 in
set_option maxHeartbeats 2000000 in
theorem awake_any (w : World) : Calls Try.prog 7 #[] w fun e w' => e = .returned (.bool true) ∧ Below w.heap.size w w' := by
  go_enter Try.func7, Try.ntmps7
  go_wp2_with fail
  refine (packLit w [5] [1, 2] [5, 2, 1, 2] 2 4 _ _ _ _ _ rfl (by first | rfl | simp) (by first | rfl | simp) rfl rfl rfl rfl (by unfold Byt; decide) (by decide) (by decide) rfl).mono ?_
  rintro e W1 ⟨A1, c1, rfl, ho1, hb1⟩
  have HO1 := Lib.hid ho1
  have HB1 := Lib.hid hb1
  clear ho1 hb1
  go_wp2_with fail
  refine (splitLit_bad W1 [5, 2, 1] [5] 3 1 _ _ _ _ rfl (by first | rfl | simp) rfl rfl rfl rfl (by unfold Byt; decide) (by unfold Byt; decide) (by decide) (by decide) 1 (by decide) (by decide)).mono ?_
  rintro e W2 ⟨rfl, hb2⟩
  have HB2 := Lib.hid hb2
  clear hb2
  go_wp2_with fail
  refine (splitLit_bad W2 [5, 2, 1] [6] 3 1 _ _ _ _ rfl (by first | rfl | simp) rfl rfl rfl rfl (by unfold Byt; decide) (by unfold Byt; decide) (by decide) (by decide) 7 (by decide) (by decide)).mono ?_
  rintro e W3 ⟨rfl, hb3⟩
  have HB3 := Lib.hid hb3
  clear hb3
  go_wp2_with fail
  refine (splitLit_ok W3 [5, 2, 1, 2] [5] 4 1 _ _ _ _ rfl (by first | rfl | simp) rfl rfl rfl rfl (by unfold Byt; decide) (by unfold Byt; decide) (by decide) (by decide) [[1, 2]] (by decide) (by decide)).mono ?_
  rintro e W4 ⟨A4, c4, rfl, hl4, hb4⟩
  have HL4 := Lib.hid hl4
  have HB4 := Lib.hid hb4
  clear hl4 hb4
  go_wp2_with fail
  refine (splitLit_bad W4 [5, 0, 9] [5] 3 1 _ _ _ _ rfl (by first | rfl | simp) rfl rfl rfl rfl (by unfold Byt; decide) (by unfold Byt; decide) (by decide) (by decide) 2 (by decide) (by decide)).mono ?_
  rintro e W5 ⟨rfl, hb5⟩
  have HB5 := Lib.hid hb5
  clear hb5
  go_wp2_with fail
  refine (pack_bad 2 1 _ _ _ _ _ (by decide)).mono ?_
  rintro e W6 ⟨rfl, hW6⟩
  have HA3 := Lib.hid (HB2.out.trans (HB3.out.mono HB2.out.size))
  have HA4 := Lib.hid (HA3.out.trans (HB4.out.mono HA3.out.size))
  have HA5 := Lib.hid (HA4.out.trans (HB5.out.mono HA4.out.size))
  have hb6 : Below W5.heap.size W5 W6 := by
    rw [← hW6]
    exact ((Below.refl _ _).alloc (Nat.le_refl _) _).alloc (by simp) _
  have HA6 := Lib.hid (HA5.out.trans (hb6.mono HA5.out.size))
  have HC6 := Lib.hid (HB5.out.trans (hb6.mono HB5.out.size))
  have HX1 := Lib.hid ((Sees.of_own HO1.out).below HA6.out)
  have HX4 := Lib.hid (HL4.out.seen.below HC6.out)
  have HBB := Lib.hid (HB1.out.trans (HA6.out.mono HB1.out.size))
  have h16 := HA6.out.size
  have h46 := HC6.out.size
  clear hW6 hb6 HA3 HA4 HA5 HA6 HC6 HB2 HB3 HB4 HB5 HB1 HO1 HL4
  go_wp2_with fail
  refine (same_at [5, 2, 1, 2] [5, 2, 1, 2] true 4 4 (W6.heap.size + 1) _ _ _ _ _ (sameB_self _) rfl rfl (by decide) (by decide) ((HX1.out.alloc h16 _).more (by omega)) (lit_sees W6 _ _ [5, 2, 1, 2] rfl)).mono ?_
  rintro e W7 ⟨rfl, n7, hW7⟩
  have hb7 : Below W6.heap.size W6 W7 := by
    rw [← hW7]
    exact blw_drewN ((Below.refl _ _).alloc (Nat.le_refl _) _) _
  have HX7 := Lib.hid ((HX4.out.more h46).below hb7)
  have HB7 := Lib.hid (HBB.out.trans (hb7.mono HBB.out.size))
  have h67 := hb7.size
  clear hb7 hW7 HX1 HX4 HBB
  go_wp2_with fail
  have s2 := lit_sees W7 #[.int .u8 1, .int .u8 2] 5 [1, 2] rfl
  have s3 := litL_sees _ _ _ 2 22 [1, 2] s2 (by simp) (by decide) (by decide)
  simp only [World.size_alloc, List.length_cons, List.length_nil, Nat.zero_add, Nat.reduceAdd] at s3
  have HX8 := Lib.hid (((HX7.out.more h67).alloc (Nat.le_refl _) (.cells #[.int .u8 1, .int .u8 2] 5)).alloc (by simp) (.cells #[.slice (some ⟨W7.heap.size, 0, none⟩) 2 2] 22))
  have HS3 := Lib.hid s3
  clear s2 s3 HX7
  have hsl := sameL_any (W7.heap.size + 2) A4 _ [[1, 2]] [[1, 2]] c4 1 _ (HX8.out.more (by omega)) HS3.out (by decide) (by decide)
  rw [sameL_self] at hsl
  refine hsl.mono ?_
  rintro e W8 ⟨rfl, n8, hW8⟩
  have hb8 : Below W7.heap.size W7 W8 := by
    rw [← hW8]
    exact blw_drewN (((Below.refl _ _).alloc (Nat.le_refl _) _).alloc (by simp) _) _
  have HB8 := Lib.hid (HB7.out.trans (hb8.mono HB7.out.size))
  clear hb8 hW8 hsl HX8 HS3 HB7
  go_wp2_with fail
  have s2 := lit_sees W8 #[.int .u8 1, .int .u8 2] 5 [1, 2] rfl
  have s3 := litL_sees _ _ _ 2 22 [1, 2] s2 (by simp) (by decide) (by decide)
  simp only [World.size_alloc, List.length_cons, List.length_nil, Nat.zero_add, Nat.reduceAdd] at s3
  have hsz := size_any _ _ [[1, 2]] 1 _ s3 (by decide) (by decide)
  refine hsz.mono ?_
  rintro e W9 ⟨rfl, rfl⟩
  have HB9 := Lib.hid ((HB8.out.alloc HB8.out.size (.cells #[.int .u8 1, .int .u8 2] 5)).alloc (by have := HB8.out.size; simp; omega) (.cells #[.slice (some ⟨W8.heap.size, 0, none⟩) 2 2] 22))
  clear hsz s2 s3
  have e4 : (((sizeS [[1, 2]] : Nat) : Int) == 4) = true := by decide
  go_wp2
  go_ret
  exact ⟨rfl, HB9.out⟩

end Go.Proofs.Ytgipdebkikldaaa
