/-
  The library's Compact at a sorted list of pairs; the program's Make.
-/
import Derived.Test.YtgnlglmhcojaiaaPsSort
import Derived.Lib.SliceRun
namespace Go.Proofs.Ytgnlglmhcojaiaa
open Go.RowKit
set_option linter.unusedVariables false

def Asc (s : List Pr) : Prop := s.Pairwise fun x y => ltP y x = false

theorem Asc.le {s : List Pr} (h : Asc s) {i j : Nat} (hij : i ≤ j) (hj : j < s.length) : ltP s[j] (s[i]'(by omega)) = false := by
  rcases Nat.lt_or_ge i j with h1 | h1
  · exact List.pairwise_iff_getElem.1 h i j (by omega) hj h1
  · obtain rfl : i = j := by omega
    exact ltP_irrefl _

theorem asc_short {s : List Pr} (h : s.length < 2) : Srt s := by
  rcases s with _ | ⟨x, _ | ⟨y, r⟩⟩
  · exact Srt.nil
  · exact List.pairwise_singleton _ _
  · simp at h; omega

/-- All before place j are at most what stands at j - 1. -/
theorem Asc.take_le {s : List Pr} (h : Asc s) {j : Nat} (hj : j < s.length) {q : Pr} (hq : q ∈ s.take (j + 1)) : ltP s[j] q = false := by
  obtain ⟨i, hi, e⟩ := List.getElem_of_mem hq
  rw [List.getElem_take] at e
  rw [← e]
  rw [List.length_take] at hi
  exact h.le (by omega) hj

theorem Srt.take_next {s : List Pr} (h : Asc s) {k : Nat} (hk : k + 1 < s.length) (hs : Srt (s.take (k + 1))) (hne : ¬ s[k + 1] = s[k]) : Srt (s.take (k + 2)) := by
  rw [List.take_succ_eq_append_getElem hk]
  exact Srt.snoc hs fun y hy => ltP_le_lt (h.take_le (by omega) hy) (ltP_of_le (h.le (by omega) hk) fun e => hne e.symm)

/-- What the inner loop of Compact knows: k pairs are written, those before place j + 1 are seen. -/
structure CP (s xs : List Pr) (k j : Nat) : Prop where
  len : xs.length = s.length
  kj : k ≤ j
  js : j < s.length
  srt : Srt (xs.take k)
  mem : ∀ q, q ∈ xs.take k ↔ q ∈ s.take (j + 1)
  rest : xs.drop j = s.drop j

section
variable {s xs : List Pr} {k j : Nat}
theorem CP.start (h : Asc s) (hk : k + 1 < s.length) (hs : Srt (s.take (k + 1))) (he : s[k + 1] = s[k]) : CP s s (k + 1) (k + 1) where
  len := rfl
  kj := Nat.le_refl _
  js := hk
  srt := hs
  mem q := by
    rw [mem_take_succ hk, he]
    constructor
    · exact .inl
    · rintro (h | rfl)
      · exact h
      · exact List.mem_take_iff_getElem.2 ⟨k, by omega, rfl⟩
  rest := rfl
theorem CP.got (h : CP s xs k j) {i : Nat} (hji : j ≤ i) (hi : i < s.length) : xs[i]'(by rw [h.len]; exact hi) = s[i] := by
  have h1 : (xs.drop j)[i - j]? = (s.drop j)[i - j]? := by rw [h.rest]
  rw [List.getElem?_drop, List.getElem?_drop, show j + (i - j) = i by omega, List.getElem?_eq_getElem hi, List.getElem?_eq_getElem (by rw [h.len]; exact hi)] at h1
  simpa using h1
theorem CP.same (h : CP s xs k j) (hj : j + 1 < s.length) (he : s[j + 1] = s[j]) : CP s xs k (j + 1) where
  len := h.len
  kj := by have := h.kj; omega
  js := hj
  srt := h.srt
  mem q := by
    rw [mem_take_succ hj, he, h.mem]
    constructor
    · exact .inl
    · rintro (h | rfl)
      · exact h
      · exact List.mem_take_iff_getElem.2 ⟨j, by omega, rfl⟩
  rest := by
    have := congrArg (List.drop 1) h.rest
    simpa [List.drop_drop] using this
theorem CP.next (h : CP s xs k j) (ha : Asc s) (hj : j + 1 < s.length) (he : ¬ s[j + 1] = s[j]) : CP s (xs.set k s[j + 1]) (k + 1) (j + 1) := by
  have hkj := h.kj
  have hkl : k < xs.length := by rw [h.len]; omega
  have e1 : (xs.set k s[j + 1]).take (k + 1) = xs.take k ++ [s[j + 1]] := by
    rw [List.take_succ_eq_append_getElem (by simpa using hkl)]
    rw [List.take_set, List.set_eq_of_length_le (by rw [List.length_take]; omega)]
    simp
  exact {
    len := by rw [List.length_set]; exact h.len
    kj := by omega
    js := hj
    srt := by
      rw [e1]
      exact Srt.snoc h.srt fun y hy => ltP_le_lt (ha.take_le h.js ((h.mem y).1 hy)) (ltP_of_le (ha.le (by omega) hj) fun e => he e.symm)
    mem := fun q => by rw [e1, List.mem_append, List.mem_singleton, h.mem, mem_take_succ hj]
    rest := by
      have := congrArg (List.drop 1) h.rest
      rw [List.drop_drop, List.drop_drop] at this
      rw [List.drop_set, if_pos (by omega)]
      exact this }
theorem CP.end_ (h : CP s xs k j) (hj : s.length ≤ j + 1) : xs.take k = mkP s := mkP_eq h.srt fun q => by rw [h.mem, List.take_of_length_le hj]
end

theorem prs_set (l : List Pr) (k : Nat) (y1 y2 : Int) (hk : k < l.length) : ((prs l).set (k * 2) (.int .i64 y1)).set (k * 2 + 1) (.int .i64 y2) = prs (l.set k (y1, y2)) := by
  induction l generalizing k with
  | nil => simp at hk
  | cons x r ih =>
    rcases k with _ | k
    · simp [prs]
    · have := ih k (by simpa using hk)
      rw [show (k + 1) * 2 = k * 2 + 1 + 1 by omega]
      simp only [prs, List.flatMap_cons, List.cons_append, List.nil_append, List.set_cons_succ] at *
      rw [this]

/-- A pair stored into a list of one's own. -/
theorem PL.put {w W : World} {g c n : Nat} {l : List Pr} (h : PL w (.slice (some ⟨g, 0, none⟩) n c) l W) (hn : l.length = n) {k : Nat} (hk : k < l.length) (y1 y2 : Int) :
    PL w (.slice (some ⟨g, 0, none⟩) n c) (l.set k (y1, y2)) ((W.setCell ⟨g, k * 2, none⟩ (.int .i64 y1)).setCell ⟨g, k * 2 + 1, none⟩ (.int .i64 y2)) := by
  subst hn
  have hg := (ownS_lt h.own g rfl).1
  have h1 := ownS_put h.own (g := g) rfl (j := k * 2) (by rw [prs_length]; omega) (.int .i64 y1)
  have h2 := ownS_put h1 (g := g) rfl (j := k * 2 + 1) (by rw [List.length_set, prs_length]; omega) (.int .i64 y2)
  rw [prs_set l k y1 y2 hk] at h2
  exact ⟨by rw [List.length_set]; exact h2, (h.blw.setCell (p := ⟨g, _, none⟩) hg _).setCell (p := ⟨g, _, none⟩) hg _⟩

theorem own_fr {w W : World} {g c n : Nat} {l : List Pr} (h : PL w (.slice (some ⟨g, 0, none⟩) n c) l W) (i : Nat) : W.frozen? ⟨g, i, none⟩ = false := by
  rcases h.own.2 with ⟨h0, _⟩ | ⟨g', cap, cur, hv, hg', hh, _⟩
  · cases h0
  · injection hv with e1 e2 e3
    injection e1 with e1
    injection e1 with e1 _
    subst e1
    exact Row.frozen (T := 25) (cs := cur) hh _

theorem setCells_row {g : Nat} {T : TypeId} : ∀ (vs : List Value) (o : Nat) (W : World) (cur : Array Value), Row W g T cur → ∃ cur', Row (W.setCells g o vs) g T cur' ∧ cur'.size = cur.size ∧ ∀ i, i < o → cur'[i]? = cur[i]?
  | [], o, W, cur, h => ⟨cur, h, rfl, fun _ _ => rfl⟩
  | v :: r, o, W, cur, h => by
    obtain ⟨c2, h1, h2, h3⟩ := setCells_row r (o + 1) _ _ (h.put o v)
    refine ⟨c2, h1, by simpa using h2, fun i hi => ?_⟩
    rw [h3 i (by omega), Array.getElem?_setIfInBounds]
    simp [show ¬ o = i by omega]
theorem setCells_below {w : World} {g B : Nat} : ∀ (vs : List Value) (o : Nat) (W : World), Below B w W → B ≤ g → Below B w (W.setCells g o vs)
  | [], _, _, h, _ => h
  | v :: r, o, W, h, hg => setCells_below r (o + 1) _ (h.setCell (p := ⟨g, o, none⟩) hg v) hg

/-- The rest is cleared, the front kept. -/
theorem PL.cut {w W : World} {g c n : Nat} {l : List Pr} (h : PL w (.slice (some ⟨g, 0, none⟩) n c) l W) (hn : l.length = n) {k : Nat} (hk : k ≤ l.length) (vs : List Value) :
    PL w (.slice (some ⟨g, 0, none⟩) k c) (l.take k) (W.setCells g (k * 2) vs) := by
  subst hn
  have hg := (ownS_lt h.own g rfl).1
  have hlk : (l.take k).length = k := by rw [List.length_take]; omega
  refine ⟨?_, setCells_below _ _ _ h.blw hg⟩
  refine ⟨by rw [prs_length], ?_⟩
  rcases h.own.2 with ⟨h0, _⟩ | ⟨g', cap, cur, hv, hg', hh, h1, h2, h3, h4⟩
  · cases h0
  · injection hv with e1 e2 e3
    injection e1 with e1
    injection e1 with e1 _
    subst e1
    subst e3
    obtain ⟨c2, r1, r2, r3⟩ := setCells_row (T := 25) vs (k * 2) W cur hh
    refine .inr ⟨g, c, c2, by rw [hlk], hg', r1, by omega, h2, by rw [r2]; exact h3, ?_⟩
    rw [hlk, ← prs_take, ← h4, List.take_take, show min (k * 2) (l.length * 2) = k * 2 by omega]
    apply List.ext_getElem?
    intro t
    rw [List.getElem?_take, List.getElem?_take]
    split
    · rename_i ht
      simpa using r3 t ht
    · rfl

theorem clear_pr {W : World} {w : World} {g c n : Nat} {l : List Pr} (h : PL w (.slice (some ⟨g, 0, none⟩) n c) l W) (hn : l.length = n) {k m : Nat} (hk : k + m = l.length) (hm : 0 < m) (c' : Nat) :
    ∃ vs, ∀ ty, (Builtin.clear_ #[22] ty #[.slice (some ⟨g, k * 2, none⟩) m c']).run Try.prog W = .ok (.tuple #[]) (W.setCells g (k * 2) vs) := by
  subst hn
  refine ⟨(Builtin.zeroCells (Value.agg #[.int .i64 0, .int .i64 0]).cells m).toList, fun ty => ?_⟩
  have hz : ∀ W, (zeroValue 25).run Try.prog W = .ok (.agg #[.int .i64 0, .int .i64 0]) W := Try.zeroValue25
  have hsz : (Builtin.zeroCells (Value.agg #[.int .i64 0, .int .i64 0]).cells m).toList.length = m * 2 := by simp [Builtin.zeroCells, Value.cells]
  have hone : ∀ v ∈ (Builtin.zeroCells (Value.agg #[.int .i64 0, .int .i64 0]).cells m).toList, v.oneCell' = true := by
    intro v hv
    simp only [Builtin.zeroCells, Array.toList_map, List.mem_map] at hv
    obtain ⟨i, _, rfl⟩ := hv
    have : i % 2 = 0 ∨ i % 2 = 1 := by omega
    rcases this with h | h <;> simp [Value.cells, h] <;> rfl
  have hcell : ∀ j, j < m * 2 → (W.cell? ⟨g, k * 2 + 0 + j, none⟩).isSome = true ∧ W.frozen? ⟨g, k * 2 + 0 + j, none⟩ = false := by
    intro j hj
    rcases h.own.2 with ⟨h0, _⟩ | ⟨g', cap, cur, hv, hg', hh, h1, h2, h3, h4⟩
    · cases h0
    · injection hv with e1 e2 e3
      injection e1 with e1
      injection e1 with e1 _
      subst e1
      subst e3
      have hr : Row W g 25 cur := hh
      refine ⟨?_, hr.frozen _⟩
      rw [hr.cell, Array.getElem?_eq_getElem (by omega)]
      rfl
  have hst := run_storeCells_cells (P := Try.prog) g (k * 2) (Builtin.zeroCells (Value.agg #[.int .i64 0, .int .i64 0]).cells m).toList 0 W (fun j hj => (hcell j (by omega)).1) (fun j hj => (hcell j (by omega)).2) hone
  simp only [Nat.add_zero] at hst
  obtain ⟨m', rfl⟩ : ∃ z, m = z + 1 := ⟨m - 1, by omega⟩
  have hu := run_underlying (P := Try.prog) Try.underlying22
  simp [Builtin.clear_, hu, hz, hst]

set_option maxRecDepth 100000 in
set_option maxHeartbeats 8000000 in
theorem pcompact_any {w W : World} {A : Option Addr} {s : List Pr} {c : Nat} (h : PL w (.slice A s.length c) s W) (ha : Asc s) (hm : s.length ≤ 1000000) :
    Calls Try.prog 31 #[.slice A s.length c] W fun e w' => ∃ v, e = .returned v ∧ PL w v (mkP s) w' := by
  have mixed : Try.prog.follows .mixedOrders = true := by kernel_rfl
  have hG := guard_pr
  by_cases h2 : s.length < 2
  · have hz : (s.length : Int) < 2 := by omega
    have HE := Lib.hid (mkP_self (asc_short h2))
    have HP := Lib.hid h
    clear h ha h2
    go_enter Try.func31, Try.ntmps31
    go_wp2
    go_ret
    rw [HE.out]
    exact ⟨_, rfl, HP.out⟩
  · have hz : ¬ (s.length : Int) < 2 := by omega
    have hA : ∃ g, A = some ⟨g, 0, none⟩ := by
      rcases h.own.2 with ⟨e, _⟩ | ⟨g', cap, cur, hv, _⟩
      · injection e with _ e2 _
        omega
      · injection hv with e1 _ _
        exact ⟨g', e1⟩
    obtain ⟨g, rfl⟩ := hA
    obtain ⟨hsc, hcm⟩ : s.length ≤ c ∧ c ≤ maxLen := by
      obtain ⟨A', c', e, h1, h2⟩ := h.slice
      injection e with _ _ e3
      subst e3
      exact ⟨h1, h2⟩
    unfold maxLen at hcm
    have HP := Lib.hid h
    have HA := Lib.hid ha
    have H2 := Lib.hid h2
    clear h ha h2
    go_enter Try.func31, Try.ntmps31
    go_wp2
    go_loopg [3] (s.length - 1) (fun g3 v3 wr => ∃ k : Nat, k + 1 + g3 = s.length ∧ v3 = .int .i64 ((k : Int) + 1) ∧ Hid (Srt (s.take (k + 1))) ∧ Hid (PL w (.slice (some ⟨g, 0, none⟩) s.length c) s wr))
    case atStart => exact ⟨0, by have := H2.out; omega, by go_num, by
      show Srt _
      exact asc_short (by rw [List.length_take]; omega), HP.out⟩
    case round =>
      clear HP
      obtain ⟨k, hg3, rfl, HS, HP⟩ := hrel
      by_cases hlt : k + 1 < s.length
      · have hkz : (k : Int) + 1 < (s.length : Int) := by omega
        have hkz0 : (k : Int) < (s.length : Int) := by omega
        have hwp : IntKind.i64.wrap (k : Int) = (k : Int) := by rw [IntKind.wrap_i64]; omega
        have p0 : (0 : Int) ≤ (k : Int) + 1 := by omega
        have e0 : ((k : Int) + 1).toNat = k + 1 := by omega
        obtain ⟨b, o, eA, _, c0, c1⟩ := sees_pair HP.out.sees (show k < s.length by omega)
        obtain ⟨b', o', eB, _, d0, d1⟩ := sees_pair HP.out.sees hlt
        injection eA with eA
        injection eA with eA1 eA2
        injection eB with eB
        injection eB with eB1 eB2
        subst eA1 eA2 eB1 eB2
        simp only [Nat.zero_add] at c0 c1 d0 d1
        have hq : ∀ W, (binOp .eql 25 (.agg #[.int .i64 s[k + 1].1, .int .i64 s[k + 1].2]) (.agg #[.int .i64 s[k].1, .int .i64 s[k].2])).run Try.prog W = .ok (.bool (decide (s[k + 1] = s[k]))) W := fun W => eq_pr _ _ W
        by_cases hxy : s[k + 1] = s[k]
        · rw [decide_eq_true hxy] at hq
          have HC := Lib.hid (CP.start HA.out hlt HS.out hxy)
          clear hxy
          generalize s[k].1 = x1 at *
          generalize s[k].2 = x2 at *
          generalize s[k + 1].1 = y1 at *
          generalize s[k + 1].2 = y2 at *
          go_wp2_with fail
          go_quiet (fail)
          have HP2 := Lib.hid (HP.out.grew ((Grew.refl wr).drewN nq))
          clear c0 c1 d0 d1 hq HP
          obtain ⟨A2, hite⟩ : ∃ z, (if c = k + 1 then (some ⟨g, 0, none⟩ : Option Addr) else some ⟨g, (k + 1) * 2, none⟩) = z := ⟨_, rfl⟩
          have hA2 : A2 = some ⟨g, (k + 1) * 2, none⟩ := by rw [← hite, if_neg (by omega)]
          go_upto_region 9 with fail
          obtain ⟨q, hqs⟩ : ∃ q, s.length - (k + 1) = q := ⟨_, rfl⟩
          obtain ⟨c2, hcs⟩ : ∃ q, c - (k + 1) = q := ⟨_, rfl⟩
          rw [hqs, hcs]
          have hql : k + 1 + q = s.length := by omega
          clear hite hA2 hqs hcs
          generalize wr.drewN nq = W1 at *
          go_loopg [3, 5] (q - 1) (fun g5 v3 v5 wr => ∃ (kk j : Nat) (xs : List Pr), v3 = .int .i64 kk ∧ v5 = .int .i64 ((j : Int) + 1) ∧ k + 1 + j + 1 + g5 = s.length ∧ Hid (CP s xs kk (k + 1 + j)) ∧ Hid (PL w (.slice (some ⟨g, 0, none⟩) s.length c) xs wr))
          case atStart => exact ⟨k + 1, 0, s, by go_num, by go_num, by omega, HC.out, HP2.out⟩
          case round =>
            clear HC HP2
            obtain ⟨kk, j, xs, rfl, rfl, hg5, HC, HP⟩ := hrel
            have hkj := HC.out.kj
            have hxl := HC.out.len
            by_cases hjl : j + 1 < q
            · have hjz : (j : Int) + 1 < (q : Int) := by omega
              have hjz0 : (j : Int) < (q : Int) := by omega
              have hwj : IntKind.i64.wrap (j : Int) = (j : Int) := by rw [IntKind.wrap_i64]; omega
              have pj : (0 : Int) ≤ (j : Int) + 1 := by omega
              have ej : ((j : Int) + 1).toNat = j + 1 := by omega
              have hj1 : k + 1 + j + 1 < s.length := by omega
              have hj0 : k + 1 + j < s.length := by omega
              have hkl : (kk : Int) < (s.length : Int) := by omega
              obtain ⟨b, o, eA, _, c0, c1⟩ := sees_pair HP.out.sees (show k + 1 + j < xs.length by omega)
              obtain ⟨b', o', eB, _, d0, d1⟩ := sees_pair HP.out.sees (show k + 1 + j + 1 < xs.length by omega)
              obtain ⟨b2, o2, eC, _, f0, f1⟩ := sees_pair HP.out.sees (show kk < xs.length by omega)
              injection eA with eA
              injection eA with eA1 eA2
              injection eB with eB
              injection eB with eB1 eB2
              injection eC with eC
              injection eC with eC1 eC2
              subst eA1 eA2 eB1 eB2 eC1 eC2
              rw [HC.out.got (Nat.le_refl _) hj0, show 0 + (k + 1 + j) * 2 = (k + 1) * 2 + j * 2 by omega] at c0 c1
              rw [HC.out.got (Nat.le_succ _) hj1, show 0 + (k + 1 + j + 1) * 2 = (k + 1) * 2 + (j + 1) * 2 by omega] at d0 d1
              rw [Nat.zero_add] at f0 f1
              have r0 : wr.frozen? ⟨g, kk * 2, none⟩ = false := own_fr HP.out _
              have r1 : wr.frozen? ⟨g, kk * 2 + 1, none⟩ = false := own_fr HP.out _
              have hq : ∀ W, (binOp .neq 25 (.agg #[.int .i64 s[k + 1 + j + 1].1, .int .i64 s[k + 1 + j + 1].2]) (.agg #[.int .i64 s[k + 1 + j].1, .int .i64 s[k + 1 + j].2])).run Try.prog W = .ok (.bool (!decide (s[k + 1 + j + 1] = s[k + 1 + j]))) W := fun W => neq_pr _ _ W
              by_cases hxy : s[k + 1 + j + 1] = s[k + 1 + j]
              · rw [show (!decide (s[k + 1 + j + 1] = s[k + 1 + j])) = false by simp [hxy]] at hq
                have HC2 := Lib.hid (HC.out.same hj1 hxy)
                clear hxy
                generalize s[k + 1 + j].1 = x1 at *
                generalize s[k + 1 + j].2 = x2 at *
                generalize s[k + 1 + j + 1].1 = y1 at *
                generalize s[k + 1 + j + 1].2 = y2 at *
                go_wp2_with fail
                go_quiet (fail)
                go_wp2
                go_roundg (s.length - (k + 1 + j + 2))
                case measure => omega
                case rel => exact ⟨kk, j + 1, xs, rfl, by go_num, by omega, HC2.out, HP.out.grew ((Grew.refl _).drewN _)⟩
              · rw [show (!decide (s[k + 1 + j + 1] = s[k + 1 + j])) = true by simp [hxy]] at hq
                have HC2 := Lib.hid (HC.out.next HA.out hj1 hxy)
                clear hxy
                generalize s[k + 1 + j].1 = x1 at *
                generalize s[k + 1 + j].2 = x2 at *
                generalize s[k + 1 + j + 1] = y at *
                obtain ⟨y1, y2⟩ := y
                dsimp only at d0 d1 hq
                go_wp2_with fail
                go_quiet (fail)
                have HP3 := Lib.hid ((HP.out.grew ((Grew.refl wr).drewN nq)).put hxl (k := kk) (by omega) y1 y2)
                go_wp2
                go_roundg (s.length - (k + 1 + j + 2))
                case measure => omega
                case rel => exact ⟨kk + 1, j + 1, _, by go_num, by go_num, by omega, HC2.out, HP3.out⟩
            · have hjz : ¬ (j : Int) + 1 < (q : Int) := by omega
              have HE := Lib.hid (HC.out.end_ (by omega))
              have hkl : (kk : Int) ≤ (s.length : Int) := by omega
              have hklt : kk < s.length := by omega
              obtain ⟨vs, hcl⟩ := clear_pr HP.out hxl (k := kk) (m := s.length - kk) (by omega) (by omega) (c - kk)
              have hite : (if c = kk then (some ⟨g, 0, none⟩ : Option Addr) else some ⟨g, kk * 2, none⟩) = some ⟨g, kk * 2, none⟩ := if_neg (by omega)
              have HP3 := Lib.hid (HP.out.cut hxl (k := kk) (by omega) vs)
              go_wp2
              go_ret
              rw [← HE.out]
              exact ⟨_, rfl, HP3.out⟩
        · rw [decide_eq_false hxy] at hq
          have HS2 := Lib.hid (Srt.take_next HA.out hlt HS.out hxy)
          clear hxy
          generalize s[k].1 = x1 at *
          generalize s[k].2 = x2 at *
          generalize s[k + 1].1 = y1 at *
          generalize s[k + 1].2 = y2 at *
          go_wp2_with fail
          go_quiet (fail)
          go_wp2
          go_roundg (s.length - (k + 2))
          case measure => omega
          case rel => exact ⟨k + 1, by omega, by go_num, HS2.out, HP.out.grew ((Grew.refl _).drewN _)⟩
      · have hkz : ¬ (k : Int) + 1 < (s.length : Int) := by omega
        have HE : Hid (mkP s = s) := mkP_self (by have := HS.out; rwa [List.take_of_length_le (by omega)] at this)
        go_wp2
        go_ret
        rw [HE.out]
        exact ⟨_, rfl, HP.out⟩

set_option maxRecDepth 100000 in
set_option maxHeartbeats 4000000 in
theorem pmake_any (B : Nat) (A : Option Addr) (l : List Pr) (c : Nat) (w : World) (hs : Sees w B A (prs l)) (hB : B ≤ w.heap.size) (hm : l.length ≤ 1000000) :
    Calls Try.prog 16 #[.slice A l.length c] w fun e w' => ∃ v, e = .returned v ∧ PL w v (mkP l) w' := by
  have C1 := Lib.hid (pclone_any B A l c w hs hB hm)
  have HE : Hid (mkP (sortP l) = mkP l) := mkP_congr fun q => mem_sortP
  clear hs
  go_enter Try.func16, Try.ntmps16
  go_wp2_with fail
  refine C1.out.mono ?_
  rintro e W1 ⟨v, rfl, hP⟩
  obtain ⟨A1, c1, rfl, _, _⟩ := hP.slice
  have C2 := Lib.hid (psort_any hP hm)
  clear hP
  go_wp2_with fail
  refine C2.out.mono ?_
  rintro e W2 ⟨rfl, hP⟩
  have hlen := sortP_len l
  have C3 : Hid (Calls Try.prog 31 #[.slice A1 l.length c1] W2 fun e w' => ∃ v, e = .returned v ∧ PL w v (mkP (sortP l)) w') := by
    have h2 : PL w (.slice A1 (sortP l).length c1) (sortP l) W2 := by rw [hlen]; exact hP
    have := pcompact_any h2 (sortP_asc l) (by rw [hlen]; exact hm)
    rwa [hlen] at this
  clear hP hlen
  go_wp2_with fail
  refine C3.out.mono ?_
  rintro e W3 ⟨v, rfl, hP⟩
  have HP := Lib.hid hP
  clear hP
  go_wp2
  go_ret
  rw [← HE.out]
  exact ⟨_, rfl, HP.out⟩

end Go.Proofs.Ytgnlglmhcojaiaa
