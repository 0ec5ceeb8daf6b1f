/-
  The library's Clone and SortFunc at lists of pairs, with the program's comparison.
-/
import Derived.Test.YtgnlglmhcojaiaaPsOwn
import Derived.Test.YtgnlglmhcojaiaaShelf
import Derived.Shelf.SlSortCmp.NoneTotal
namespace Go.Proofs.Ytgnlglmhcojaiaa
open Go.RowKit
set_option linter.unusedVariables false

set_option maxRecDepth 100000 in
set_option maxHeartbeats 1000000 in
theorem pclone_any (B : Nat) (A : Option Addr) (l : List Pr) (c : Nat) (w : World) (hs : Sees w B A (prs l)) (hB : B ≤ w.heap.size) (hm : l.length ≤ 1000000) :
    Calls Try.prog 28 #[.slice A l.length c] w fun e w' => ∃ v, e = .returned v ∧ PL w v l w' := by
  rcases A with _ | ad
  · obtain rfl : l = [] := by
      rcases l with _ | ⟨x, r⟩
      · rfl
      · obtain ⟨b, o, h, _⟩ := hs (by simp [prs])
        cases h
    have q22 : ∀ (w : World) (n c n' c' : Nat), (binOp .eql 22 (.slice none n c) (.slice none n' c')).run Try.prog w = .ok (.bool true) w := fun w n c n' c' => Lib.run_eql_slice_nil w _ _ _ n c n' c' Try.underlying22
    clear hs hm
    go_enter Try.func28, Try.ntmps28
    go_wp2
    go_ret
    exact ⟨_, rfl, PL.nil _⟩
  · have q22 : ∀ (w : World) (n c n' c' : Nat), (binOp .eql 22 (.slice (some ad) n c) (.slice none n' c')).run Try.prog w = .ok (.bool false) w := fun w n c n' c' => Lib.run_eql_slice_nil w _ _ _ n c n' c' Try.underlying22
    obtain ⟨i0, hi0, hz0, hz1, hz2⟩ := info_pr
    have hs1 := hs.alloc hB (.cells #[] 25)
    clear hs
    go_enter Try.func28, Try.ntmps28
    go_wp2_with (at_builtin; refine wpList_append_any _ rfl (.tmp 5) (.tmp 6) 22 rfl w.heap.size 25 i0 (.agg #[.int .i64 0, .int .i64 0]) 2 16 Try.underlying22 hi0 hz0 hz1 hz2 rfl (by decide) _ _ _ rfl (own_empty w 25 2) B _ _ _ (prs l) rfl hs1 (prs_length _) (prs_one _) ?c1 ?c2 ?c3 ?_)
    case c1 => unfold maxLen; omega
    case c2 => omega
    case c3 => simp
    intro v1 W1 ho1 hg1 _
    have hb1 : Below w.heap.size w W1 := ((Below.refl _ _).alloc (Nat.le_refl _) _).grown hg1 (by simp) (fun k hk => by simp [Value.ownBlock] at hk; omega)
    have HP : Hid (PL w v1 l W1) := ⟨by simpa using ho1, hb1⟩
    clear ho1 hg1 hb1
    go_wp2
    go_ret
    exact ⟨_, rfl, HP.out⟩

/-- A pair's cells, as the library's contract wants them. -/
def encP (p : Pr) : List Value := [.int .i64 p.1, .int .i64 p.2]

theorem flat_prs (l : List Pr) : (Go.Sort.flatK encP 2 l.toArray).toList = prs l := by
  apply List.ext_getElem?
  intro t
  by_cases ht : t < l.length * 2
  · have h1 : (Go.Sort.flatK encP 2 l.toArray).toList[t]? = some ((encP (l.toArray[t / 2]!))[t % 2]!) := by
      have := Go.Sort.get_flatK encP 2 l.toArray t (by simpa using ht)
      rw [← this, getElem!_pos _ t (by simpa using ht), Array.getElem?_toList, Array.getElem?_eq_getElem]
    have hi : t / 2 < l.length := by omega
    obtain ⟨g1, g2⟩ := prs_get hi
    have e0 : l.toArray[t / 2]! = l[t / 2] := by rw [getElem!_pos _ _ (by simpa using hi)]; simp
    rw [h1, e0]
    rcases Nat.mod_two_eq_zero_or_one t with h | h
    · rw [show t / 2 * 2 = t by omega] at g1
      rw [h, g1]
      rfl
    · rw [show t / 2 * 2 + 1 = t by omega] at g2
      rw [h, g2]
      rfl
  · rw [List.getElem?_eq_none (by simp; omega), List.getElem?_eq_none (by rw [prs_length]; omega)]

theorem ltOf_cmp (x y : Pr) : ltOf cmpP x y = ltP x y := cmpP_lt x y

theorem swo_cmp : Go.Sort.SWO (ltOf cmpP) where
  irrefl x := by rw [ltOf_cmp]; exact ltP_irrefl x
  trans x y z h k := by rw [ltOf_cmp] at *; exact ltP_trans h k
  ntrans x y z h k := by rw [ltOf_cmp] at *; exact ltP_ntrans h k

/-- The sorted list. -/
def sortP (l : List Pr) : List Pr := l.mergeSort fun x y => !ltP y x

theorem sortP_len (l : List Pr) : (sortP l).length = l.length := List.length_mergeSort l
theorem mem_sortP {l : List Pr} {q : Pr} : q ∈ sortP l ↔ q ∈ l := List.mem_mergeSort
theorem sortP_asc (l : List Pr) : (sortP l).Pairwise fun x y => ltP y x = false := by
  have := List.pairwise_mergeSort (le := fun x y : Pr => !ltP y x) (fun a b c h k => by simp at *; exact ltP_ntrans k h) (fun a b => by
    rcases Bool.eq_false_or_eq_true (ltP b a) with h | h
    · simp [ltP_asymm h]
    · simp [h]) l
  exact this.imp fun h => by simpa using h

/-- What the sort leaves: the own list holds the new pairs. -/
theorem PL.sorted {w W : World} {g c m : Nat} {l l' : List Pr} {os : Array Obj} (h : PL w (.slice (some ⟨g, 0, none⟩) l.length c) l W) (hl : l'.length = l.length) :
    PL w (.slice (some ⟨g, 0, none⟩) l.length c) l' (sortWorldK encP 2 W g 0 m l'.toArray os) := by
  have hgl := ownS_lt h.own g rfl
  obtain ⟨ho1, ho2⟩ := h.own
  have hb := h.blw
  refine ⟨⟨by rw [prs_length, hl], ?_⟩, ?_⟩
  · rcases ho2 with ⟨h0, _⟩ | ⟨g', cap, cur, hv, hg', hh, h1, h2, h3, h4⟩
    · cases h0
    · injection hv with e1 e2 e3
      injection e1 with e1
      injection e1 with e1 _
      subst e1
      subst e3
      refine .inr ⟨g, c, Go.Sort.putCells id 0 (Go.Sort.flatK encP 2 l'.toArray) cur, by rw [hl], hg', ?_, by rw [hl]; exact h1, h2, by simpa [Go.Sort.putCells] using h3, ?_⟩
      · have hlt : g < W.heap.size := hgl.2
        simp only [sortWorldK, Go.Sort.putRowK, Go.Sort.putRow, Go.Sort.mapBlock, Go.Sort.grow, Go.Sort.ahead]
        rw [Array.getElem?_append_left (by simpa using hlt)]
        simp [Array.getElem?_modify, hh, Go.Sort.onCells]
      · have hc : l'.length * 2 ≤ cur.size := by omega
        apply List.ext_getElem?
        intro t
        rw [List.getElem?_take, ← flat_prs]
        by_cases ht : t < l'.length * 2
        · rw [if_pos ht]
          have h5 : t < cur.size := by omega
          simp only [Go.Sort.putCells, Array.getElem?_toList, Array.getElem?_mapIdx, Array.getElem?_eq_getElem h5, Option.map_some]
          rw [if_pos ⟨Nat.zero_le _, by simpa using ht⟩, getElem!_pos _ _ (by simpa using ht), Array.getElem?_eq_getElem (by simpa using ht)]
          simp
        · rw [if_neg ht, List.getElem?_eq_none (by simp; omega)]
  · refine hb.trans ⟨rfl, rfl, rfl, ?_, fun k hk => ?_⟩
    · simp [sortWorldK, Go.Sort.putRowK, Go.Sort.putRow, Go.Sort.mapBlock, Go.Sort.grow, Go.Sort.ahead]
    · have hkg : g ≠ k := by omega
      have hkl : k < W.heap.size := by have := hb.size; omega
      simp only [sortWorldK, Go.Sort.putRowK, Go.Sort.putRow, Go.Sort.mapBlock, Go.Sort.grow, Go.Sort.ahead]
      rw [Array.getElem?_append_left (by simpa using hkl)]
      simp [Array.getElem?_modify, hkg]

theorem PL.holds {w W : World} {g c : Nat} {l : List Pr} (h : PL w (.slice (some ⟨g, 0, none⟩) l.length c) l W) : Go.Sort.HoldsK encP 2 W g 0 l.toArray := by
  intro t ht
  have ht2 : t < l.length * 2 := by simpa using ht
  have hF := flat_prs l
  have hc := h.own.cells (g := g) rfl t (id (Go.Sort.flatK encP 2 l.toArray)[t]!) (by
    rw [← hF, Array.getElem?_toList, Array.getElem?_eq_getElem ht, getElem!_pos (Go.Sort.flatK encP 2 l.toArray) t ht]
    rfl)
  have hfr : W.frozen? ⟨g, 0 + t, none⟩ = false := by
    rcases h.own.2 with ⟨h0, _⟩ | ⟨g', cap, cur, hv, hg', hh, _⟩
    · cases h0
    · injection hv with e1 e2 e3
      injection e1 with e1
      injection e1 with e1 _
      subst e1
      exact Row.frozen (T := 25) (cs := cur) hh _
  refine ⟨?_, hfr⟩
  simpa [Addr.add_lit] using hc

set_option maxRecDepth 100000 in
theorem psort_any {w W : World} {A : Option Addr} {l : List Pr} {c : Nat} (h : PL w (.slice A l.length c) l W) (hm : l.length ≤ 1000000) :
    Calls Try.prog 29 #[.slice A l.length c, .func (.func 30) #[] #[]] W fun e w' => e = .returned (.tuple #[]) ∧ PL w (.slice A l.length c) (sortP l) w' := by
  rcases Nat.eq_zero_or_pos l.length with h0 | h0
  · obtain rfl := List.eq_nil_of_length_eq_zero h0
    have := AnyF.slices_SortFunc_none Try.laysSort A c (.func (.func 30) #[] #[]) W
    refine Calls.mono this ?_
    rintro e w' ⟨rfl, rfl⟩
    exact ⟨rfl, by rw [show sortP [] = [] from List.mergeSort_nil]; exact h⟩
  · have hA : ∃ g, A = some ⟨g, 0, none⟩ := by
      rcases h.own.2 with ⟨e, _⟩ | ⟨g', cap, cur, hv, _⟩
      · injection e with _ e2 _
        omega
      · injection hv with e1 _ _
        exact ⟨g', e1⟩
    obtain ⟨g, rfl⟩ := hA
    have hc := AnyQ.slices_SortFunc_total Try.laysSort 2 Try.isAgg25 Try.sizeOf25 encP (fun _ => rfl) (fun x v hv => by simp [encP] at hv; rcases hv with rfl | rfl <;> rfl) cmpP swo_cmp 30 #[] g 0 c l.toArray W
      (fun args w => enters_of Try.func30 (by kernel_rfl) rfl args w) (fun _ _ _ _ x y => compare_any x y _) h.holds (ownS_lt h.own g rfl).2 (by simp; omega) (fun x y h1 h2 => by rw [ltOf_cmp] at *; exact ltP_total h1 h2)
    simp only [ltOf_cmp] at hc
    have hc2 : Calls Try.prog 29 #[.slice (some ⟨g, 0, none⟩) l.length c, .func (.func 30) #[] #[]] W fun e w' => e = .returned (.tuple #[]) ∧ ∃ n os, w' = sortWorldK encP 2 W g 0 n (l.mergeSort fun x y => !ltP y x).toArray os := hc
    refine hc2.mono ?_
    rintro e w' ⟨rfl, n, os, rfl⟩
    exact ⟨rfl, h.sorted (sortP_len l)⟩

end Go.Proofs.Ytgnlglmhcojaiaa
