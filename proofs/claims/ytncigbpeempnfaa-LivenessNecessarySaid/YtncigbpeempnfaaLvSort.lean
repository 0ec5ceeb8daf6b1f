/-
  The library's slices.Sort at a list of integers of one's own (shelf.py SEAT 'lays[0-9A-Za-z]*'); sorted: a set's registers in ascending order.
-/
import Derived.Test.YtncigbpeempnfaaLvSet
import Derived.Test.YtncigbpeempnfaaShelf
import Derived.Sort.OwnSortedInts
namespace Go.Proofs.Ytncigbpeempnfaa
open Go.RowKit
set_option linter.unusedVariables false

/-- A list of integers of one's own. -/
structure IL0 (w : World) (v : Value) (l : List Int) (W : World) : Prop where
  own : W.ownsRow w.heap.size 3 1 v l.length (ints l)
  blw : Below w.heap.size w W

section
variable {w W W' : World} {v v' : Value} {l : List Int}

theorem IL0.next (h : IL0 w v l W) (hb : Below W.heap.size W W') : IL0 w v l W' := ⟨(Mods.of_below (S := No) hb).ownS h.own fun _ _ hs => hs.elim, h.blw.trans (hb.mono h.blw.size)⟩

theorem IL0.lt (h : IL0 w v l W) {g : Nat} (hg : v.ownBlock = some g) : g < W.heap.size := (ownS_lt h.own g hg).2

end

def sortI (l : List Int) : List Int := l.mergeSort fun x y => decide (x ≤ y)

theorem sortI_len (l : List Int) : (sortI l).length = l.length := by simp [sortI]

theorem sortI_regL {S : Int → Bool} {ss : List Int} {n : Nat} (h : ss.Perm (regL S n)) : sortI ss = regL S n := by
  refine regL_of_perm ((List.mergeSort_perm ss _).trans h) ?_
  have := List.pairwise_mergeSort (le := fun x y : Int => decide (x ≤ y)) (fun a b c h1 h2 => by simp only [decide_eq_true_eq] at *; omega) (fun a b => by simp only [Bool.or_eq_true, decide_eq_true_eq]; omega) ss
  exact this.imp fun h => by simpa using h

set_option maxRecDepth 100000 in
theorem sort_il (g : Nat) (c : Nat) (ss : List Int) (w W : World) (h : IL0 w (.slice (some ⟨g, 0, none⟩) ss.length c) ss W) (hl : ss.length ≤ 100000) :
    Calls Try.prog 46 #[.slice (some ⟨g, 0, none⟩) ss.length c] W fun e w' => e = .returned (.tuple #[]) ∧ IL0 w (.slice (some ⟨g, 0, none⟩) ss.length c) (sortI ss) w' := by
  rcases h.own.2 with ⟨e, _⟩ | ⟨g', cap, cur, e, hg, hh, h1, h2, h3, h4⟩
  · cases e
  · injection e with e1 _ e3
    injection e1 with e1
    injection e1 with e1
    subst e1 e3
    have hH : Go.Sort.Holds (Value.int .i64) W g 0 ss.toArray := Go.holds_of_blockI hh (by simpa [ints] using h4)
    refine (Any.slices_Sort_int Try.lays189 g 0 c ss W hH (Array.getElem?_eq_some_iff.1 hh).1 (by omega)).mono ?_
    rintro e w' ⟨rfl, n, os, rfl⟩
    have ho := Go.ownsRow_sortedI (n := n) (os := os) (sortI_len ss) hg hh h1 h2 h3
    refine ⟨rfl, ?_, ?_⟩
    · rw [sortI_len]; exact ho
    · exact h.blw.trans ((Below.refl _ W).grown (Go.grownBy_sortedI _) h.blw.size fun k hk => by injection hk with hk; omega)

set_option maxRecDepth 100000 in
theorem sort_any (A : Option Addr) (m c : Nat) (ss : List Int) (w W : World) (h : IL0 w (.slice A m c) ss W) (hm : ss.length = m) (hl : m ≤ 100000) :
    Calls Try.prog 46 #[.slice A m c] W fun e w' => e = .returned (.tuple #[]) ∧ IL0 w (.slice A m c) (sortI ss) w' := by
  subst hm
  rcases h.own.2 with ⟨e, h0⟩ | ⟨g', cap, cur, e, _⟩
  · injection e with e1 e2 e3
    obtain rfl : ss = [] := List.eq_nil_of_length_eq_zero e2
    subst e1 e3
    refine (Any.slices_Sort_int_none Try.lays189 none 0 W).mono ?_
    rintro e w' ⟨rfl, rfl⟩
    exact ⟨rfl, by rw [show sortI ([] : List Int) = [] by simp [sortI]]; exact h⟩
  · injection e with e1 _ e3
    subst e1
    exact sort_il g' c ss w W h hl

theorem int_oneT (a : Int) : ∀ u ∈ (#[Value.int .i64 a] : Array Value).toList, u.oneCell' = true := fun u hu => by
  simp only [List.mem_cons, List.not_mem_nil, or_false] at hu
  subst hu
  rfl

set_option maxRecDepth 100000 in
set_option maxHeartbeats 4000000 in
theorem keys_own (b n N : Nat) (S : Int → Bool) (w : World) (h : SV w b n S) (hS : ∀ v, S v = true → 0 ≤ v ∧ v < N) (hN : N ≤ 100000) :
    Calls Try.prog 36 #[.map (some b)] w fun e w' => ∃ A c, e = .returned (.slice A (regL S N).length c) ∧ IL0 w (.slice A (regL S N).length c) (regL S N) w' := by
  obtain ⟨i0, hi0, hz0, hz1, hz2⟩ := info_parts infoInt23
  have hlen := regL_len S N
  have HS := Lib.hid hS
  have hb := h.lt
  clear hS
  go_enter Try.func36, Try.ntmps36
  go_wp2_with (first
    | (at_len; refine wpList_sv_len setK w rfl _ rfl b n S rfl h N HS.out ?_)
    | (at_make; refine wpList_make_own _ rfl _ _ 28 rfl w.heap.size 3 i0 (.int .i64 0) 1 Try.underlying28 hi0 hz0 hz1 _ _ _ (regL S N).length rfl rfl rfl ?b2 ?b3 (Nat.le_refl _) ?_))
  case b2 => rw [hz2]; omega
  case b3 => unfold maxLen; omega
  intro W1 ho1 hg1
  have hm1 : Mods No w W1 := (Mods.refl _ _).grown hg1 fun k hk => by cases hk
  have h1 := h.mods hm1 (fun h => h)
  have HO1 := Lib.hid (show IL0 w (.slice (some ⟨w.heap.size, 0, none⟩) 0 (regL S N).length) [] W1 from ⟨ho1, hm1.below (Nat.le_refl _) fun _ h => h.elim⟩)
  clear ho1 hg1 hm1 h
  go_wp2_with (at_range; refine wpList_sv_range setK W1 rfl _ rfl b n S rfl h1 ?_; intro W2 hr2 hm2 hs2)
  go_frame
  have HO2 := Lib.hid (HO1.out.next (hm2.below (Nat.le_refl _) fun _ h => h.elim))
  have hrs : W1.heap.size ≠ w.heap.size := by have := HO1.out.lt (g := w.heap.size) rfl; omega
  obtain ⟨r, hr⟩ : ∃ r, W1.heap.size = r := ⟨_, rfl⟩
  rw [hr] at hr2 hrs ⊢
  have HR2 := Lib.hid hr2
  have hwr : w.heap.size ≤ r := by have := HO1.out.blw.size; omega
  clear HO1 h1 hm2 hs2 hr2 hr
  go_loopw [3] (fun v wr => ∃ (ss : List Int) (L : Int → Bool), Hid (IL0 w v ss wr) ∧ Hid (SetR wr Try.prog 3 (plainElem Try.prog 4) (.lit (.bool true)) b r n S L) ∧ Hid (Coll S L ss)) (fun _ wr => wr.rangeLeft b r)
  case atStart => exact ⟨[], S, HO2.out, HR2.out, Coll.start S⟩
  case round =>
    clear HO2 HR2
    obtain ⟨ss, L, HO, HR, HC⟩ := hrel
    obtain ⟨Av, cv, rfl, _, _⟩ := ownS_slice HO.out.own
    go_wp2_with (at_next; refine wpList_sv_next setK wr rfl _ rfl b r n S L rfl HR.out ?_ ?_)
    · intro h0
      have HP := Lib.hid (HC.out.perm h0 HS.out)
      clear h0
      have HSO := Lib.hid (fun W (h : IL0 w (.slice Av ss.length cv) ss W) => sort_any Av ss.length cv ss w W h rfl (by have := HC.out.len HS.out; omega))
      go_wp2_with (go_at_call 46; refine (HSO.out wr HO.out).mono ?_; rintro e w4 ⟨rfl, h4⟩; have H4 := Lib.hid h4; clear h4)
      go_ret
      have hk := sortI_regL HP.out
      have h4 := H4.out
      rw [hk] at h4
      exact ⟨Av, cv, by rw [HP.out.length_eq]; rfl, by rw [← HP.out.length_eq]; exact h4⟩
    · intro x W3 hwf hL hSx hr3 hlt hm3 hs3 hen
      have HE := Lib.hid hr3
      have ho3 := hm3.ownS HO.out.own fun k hk hs => HR.out.apart HO.out.own (by rw [hk, hs])
      have hap := hr3.apart ho3
      have hav := hr3.owns.apart ho3
      have hb3 : Below w.heap.size w W3 := HO.out.blw.trans (hm3.below (by have := HO.out.blw.size; exact this) fun k hk => by unfold Is at hk; subst hk; exact hwr)
      have HC3 := Lib.hid (HC.out.step hSx hL)
      have hsl := hm3.size
      have hpl : ss.length ≤ N := HC.out.len HS.out
      have hown2 := ((Mods.refl No W3).alloc (.cells #[.int .i64 x] 3)).ownS ho3 fun _ _ h => h
      have hnew := sees_new W3 #[.int .i64 x] 3
      clear hs3 hr3
      go_wp2_with (at_builtin; refine wpList_append_any _ rfl (.tmp 14) (.tmp 16) 28 rfl _ 3 i0 (.int .i64 0) 1 8 Try.underlying28 hi0 hz0 hz1 hz2 rfl (by decide) _ _ _ rfl hown2 (W3.heap.size + 1) _ 1 1 _ rfl hnew rfl (int_oneT _) ?c1 ?c2 ?c3 ?_)
      case c1 => unfold maxLen; omega
      case c2 => omega
      case c3 => have := HO.out.blw.size; simp; omega
      intro v5 W5 ho5 hg5 hb5
      obtain ⟨A5, c5, hv5, _, _⟩ := ownS_slice ho5
      subst hv5
      have hM5 : Mods (fun k => (Value.slice Av ss.length cv).ownBlock = some k) W3 W5 := ((Mods.refl _ W3).alloc _).grown hg5 fun k hk => .inl hk
      obtain ⟨hr5, hl5⟩ := HE.out.mods hM5 hav hap
      have HR5 := Lib.hid hr5
      have HO5 : Hid (IL0 w (.slice A5 (ss.length + 1) c5) (ss ++ [x]) W5) := by
        refine ⟨?_, hb3.trans (hM5.below hb3.size fun k hk => (ownS_lt ho3 k hk).1)⟩
        rw [List.length_append, List.length_singleton, show ints (ss ++ [x]) = ints ss ++ [.int .i64 x] by simp [ints]]
        exact ho5
      clear hr5 ho5 hg5 hb5 hM5 hnew hown2
      go_wp2_with fail
      go_roundw
      case rel => exact ⟨_, _, HO5.out, HR5.out, HC3.out⟩
      case measure => omega

set_option maxRecDepth 100000 in
set_option maxHeartbeats 4000000 in
theorem keys_nil (w : World) :
    Calls Try.prog 36 #[.map none] w fun e w' => ∃ A c, e = .returned (.slice A 0 c) ∧ IL0 w (.slice A 0 c) [] w' := by
  obtain ⟨i0, hi0, hz0, hz1, hz2⟩ := info_parts infoInt23
  go_enter Try.func36, Try.ntmps36
  go_wp2_with (first
    | (at_len; refine wpList_nil_len w rfl _ rfl rfl ?_)
    | (at_make; refine wpList_make_own _ rfl _ _ 28 rfl w.heap.size 3 i0 (.int .i64 0) 1 Try.underlying28 hi0 hz0 hz1 _ _ _ 0 rfl rfl rfl ?b2 ?b3 (Nat.le_refl _) ?_))
  case b2 => rw [hz2]; omega
  case b3 => unfold maxLen; omega
  intro W1 ho1 hg1
  have hm1 : Mods No w W1 := (Mods.refl _ _).grown hg1 fun k hk => by cases hk
  have HO1 := Lib.hid (show IL0 w (.slice (some ⟨w.heap.size, 0, none⟩) 0 0) [] W1 from ⟨ho1, hm1.below (Nat.le_refl _) fun _ h => h.elim⟩)
  clear ho1 hg1 hm1
  go_wp2_with (at_range; refine wpList_nil_range W1 rfl _ rfl rfl ?_)
  go_frame
  have hr := heap_alloc_new W1 (.mapIter none 0 #[] 0)
  have HO2 := Lib.hid (HO1.out.next ((Below.refl _ _).alloc (Nat.le_refl _) (.mapIter none 0 #[] 0)))
  clear HO1
  go_loopw [3] (fun v wr => v = .slice (some ⟨w.heap.size, 0, none⟩) 0 0 ∧ wr = W1.alloc (.mapIter none 0 #[] 0)) (fun _ _ => 0)
  case atStart => exact ⟨rfl, rfl⟩
  case round =>
    obtain ⟨rfl, rfl⟩ := hrel
    have HSO := Lib.hid (sort_any (some ⟨w.heap.size, 0, none⟩) 0 0 [] w _ HO2.out rfl (by omega))
    go_wp2_with (first
      | (at_next; refine wpList_nil_next _ rfl _ rfl W1.heap.size rfl hr ?_)
      | (go_at_call 46; refine (HSO.out).mono ?_; rintro e w4 ⟨rfl, h4⟩; have H4 := Lib.hid h4; clear h4))
    go_ret
    exact ⟨_, _, rfl, by have := H4.out; rwa [show sortI ([] : List Int) = [] by simp [sortI]] at this⟩

/-- sorted, whatever the set. -/
theorem sorted_any (v : Value) (N : Nat) (S : Int → Bool) (w : World) (h : MS23 w v N S) (hN : N ≤ 100000) :
    Calls Try.prog 36 #[v] w fun e w' => ∃ A c, e = .returned (.slice A (regL S N).length c) ∧ IL0 w (.slice A (regL S N).length c) (regL S N) w' := by
  rcases h.val with ⟨rfl, h0⟩ | ⟨b, rfl, hb⟩
  · have e : regL S N = [] := by
      rw [List.eq_nil_iff_forall_not_mem]
      intro z hz
      have := ((regL_mem S z N).1 hz).2.2
      rw [h0] at this
      cases this
    rw [e]
    exact keys_nil w
  · exact keys_own b N N S w hb h.bnd hN

end Go.Proofs.Ytncigbpeempnfaa
