/-
  Union and Add of the program.
-/
import Derived.Test.YtcnkkpnfijihbaaPsMis2
import Derived.Laws.MakeOwn
namespace Go.Proofs.Ytcnkkpnfijihbaa
open Go.RowKit
set_option linter.unusedVariables false

/-- What Union has made of the first k pairs of a and the first j of b. -/
structure UN (a b : List Pr) (k j : Nat) (o : List Pr) : Prop where
  srt : Srt o
  mem : ∀ q, q ∈ o ↔ q ∈ a.take k ∨ q ∈ b.take j
  la : ∀ q ∈ o, ∀ x ∈ a.drop k, ltP q x = true
  lb : ∀ q ∈ o, ∀ y ∈ b.drop j, ltP q y = true
  len : o.length ≤ k + j

theorem UN.start (a b : List Pr) : UN a b 0 0 [] := ⟨Srt.nil, fun q => by simp, fun q h => by simp at h, fun q h => by simp at h, Nat.zero_le _⟩

section
variable {a b o : List Pr} {k j : Nat}
theorem UN.stb (h : UN a b k j o) (ha : Srt a) (hb : Srt b) (hk : k < a.length) (hj : j < b.length) (hlt : ltP b[j] a[k] = true) : UN a b k (j + 1) (o ++ [b[j]]) where
  srt := Srt.snoc h.srt fun y hy => h.lb y hy _ ((drop_head hj).2 (.inl rfl))
  mem q := by rw [List.mem_append, List.mem_singleton, h.mem, mem_take_succ hj, or_assoc]
  la q hq x hx := by
    rcases List.mem_append.1 hq with hq | hq
    · exact h.la q hq x hx
    · rw [List.mem_singleton] at hq
      subst hq
      rcases (drop_head hk).1 hx with e | e
      · rw [e]; exact hlt
      · exact ltP_trans hlt (ha.head_lt hk e)
  lb q hq y hy := by
    rcases List.mem_append.1 hq with hq | hq
    · exact h.lb q hq y ((drop_head hj).2 (.inr hy))
    · rw [List.mem_singleton] at hq
      subst hq
      exact hb.head_lt hj hy
  len := by have := h.len; simp; omega
theorem UN.sta (h : UN a b k j o) (ha : Srt a) (hk : k < a.length) (hlt : ∀ y ∈ b.drop j, ltP a[k] y = true) : UN a b (k + 1) j (o ++ [a[k]]) where
  srt := Srt.snoc h.srt fun y hy => h.la y hy _ ((drop_head hk).2 (.inl rfl))
  mem q := by
    rw [List.mem_append, List.mem_singleton, h.mem, mem_take_succ hk, or_assoc, or_assoc, or_comm (a := q ∈ b.take j)]
  la q hq x hx := by
    rcases List.mem_append.1 hq with hq | hq
    · exact h.la q hq x ((drop_head hk).2 (.inr hx))
    · rw [List.mem_singleton] at hq
      subst hq
      exact ha.head_lt hk hx
  lb q hq y hy := by
    rcases List.mem_append.1 hq with hq | hq
    · exact h.lb q hq y hy
    · rw [List.mem_singleton] at hq
      subst hq
      exact hlt y hy
  len := by have := h.len; simp; omega
theorem UN.stab (h : UN a b k j o) (ha : Srt a) (hb : Srt b) (hk : k < a.length) (hj : j < b.length) (he : b[j] = a[k]) : UN a b (k + 1) (j + 1) (o ++ [a[k]]) where
  srt := Srt.snoc h.srt fun y hy => h.la y hy _ ((drop_head hk).2 (.inl rfl))
  mem q := by
    rw [List.mem_append, List.mem_singleton, h.mem, mem_take_succ hk, mem_take_succ hj, he]
    constructor
    · rintro ((h | h) | h)
      · exact .inl (.inl h)
      · exact .inr (.inl h)
      · exact .inl (.inr h)
    · rintro ((h | h) | (h | h))
      · exact .inl (.inl h)
      · exact .inr h
      · exact .inl (.inr h)
      · exact .inr h
  la q hq x hx := by
    rcases List.mem_append.1 hq with hq | hq
    · exact h.la q hq x ((drop_head hk).2 (.inr hx))
    · rw [List.mem_singleton] at hq
      subst hq
      exact ha.head_lt hk hx
  lb q hq y hy := by
    rcases List.mem_append.1 hq with hq | hq
    · exact h.lb q hq y ((drop_head hj).2 (.inr hy))
    · rw [List.mem_singleton] at hq
      subst hq
      rw [← he]
      exact hb.head_lt hj hy
  len := by have := h.len; simp; omega
theorem UN.end_ (h : UN a b k j o) (hb : Srt b) (hk : a.length ≤ k) : o ++ b.drop j = mkP (a ++ b) := by
  refine mkP_eq ?_ fun q => ?_
  · unfold Srt
    rw [List.pairwise_append]
    exact ⟨h.srt, hb.drop j, h.lb⟩
  · have e := h.mem q
    rw [List.take_of_length_le hk] at e
    have e2 : q ∈ b ↔ q ∈ b.take j ∨ q ∈ b.drop j := by rw [← List.mem_append, List.take_append_drop]
    rw [List.mem_append, List.mem_append, e, e2, or_assoc]
theorem gt_all (hb : Srt b) (hj : j < b.length) {p : Pr} (h1 : ltP b[j] p = false) (h2 : ¬ b[j] = p) : ∀ y ∈ b.drop j, ltP p y = true := fun y hy => by
  have h3 : ltP p b[j] = true := ltP_of_le h1 fun e => h2 e.symm
  rcases (drop_head hj).1 hy with e | e
  · rw [e]; exact h3
  · exact ltP_trans h3 (hb.head_lt hj e)
end

/-- An own list, and beside it a block with the pair at hand. -/
structure PX (w : World) (v : Value) (l : List Pr) (pb : Nat) (x1 x2 : Int) (wr : World) : Prop where
  pl : PL w v l wr
  row : Row wr pb 35 #[.int .i64 x1, .int .i64 x2]
  ne : ∀ k, v.ownBlock = some k → k ≠ pb

section
variable {w wr w' : World} {v v' : Value} {l : List Pr} {pb : Nat} {x1 x2 : Int}
theorem PX.of (h : PL w v l wr) (x1 x2 : Int) : PX w v l wr.heap.size x1 x2 (wr.alloc (prObj x1 x2)) :=
  ⟨h.alloc _, Row.new wr _ _, fun k hk e => by have := (ownS_lt h.own k hk).2; omega⟩
theorem PX.grew (h : PX w v l pb x1 x2 wr) (hg : Grew wr w') : PX w v l pb x1 x2 w' := ⟨h.pl.grew hg, hg.row h.row, h.ne⟩
theorem PX.push (h : PX w v l pb x1 x2 wr) (y1 y2 : Int) {n : Nat} (hn : n = l.length)
    (ho : w'.ownsRow w.heap.size 35 2 v' (n + 1) (prs l ++ prs [(y1, y2)])) (hg : (wr.alloc (prObj y1 y2)).grownBy w' v.ownBlock) (hv : v'.ownBlock = v.ownBlock ∨ v'.ownBlock = some (wr.heap.size + 1)) : PX w v' (l ++ [(y1, y2)]) pb x1 x2 w' := by
  have hlt := h.row.lt
  refine ⟨h.pl.push y1 y2 hn ho hg, ?_, fun k hk e => ?_⟩
  · refine (hg.block pb (by simp; omega) fun e => h.ne pb e.symm rfl).trans (h.row.alloc _)
  · rcases hv with hv | hv
    · exact h.ne k (hv.symm.trans hk) e
    · rw [hv] at hk
      simp at hk
      omega
theorem PX.cells (h : PX w v l pb x1 x2 wr) : wr.cell? ⟨pb, 0, none⟩ = some (.int .i64 x1) ∧ wr.cell? ⟨pb, 1, none⟩ = some (.int .i64 x2) := ⟨h.row.cell 0, h.row.cell 1⟩
end

theorem make_pr (n : Nat) (hn : n ≤ 4000000) : ∃ Z : Array Value, Z.size = n * 2 ∧ ∀ w, (Instr.makeSlice 22 (.int .i64 0) (.int .i64 (n : Int))).run Try.prog w = .ok (.slice (some ⟨w.heap.size, 0, none⟩) 0 n) (w.alloc (.cells Z 35)) := by
  obtain ⟨i, hi, hz, hs, hb⟩ := info_pr
  refine ⟨madeCells (Value.agg #[.int .i64 0, .int .i64 0]).cells (n * i.size), ?_, fun w => ?_⟩
  · rw [size_madeCells, hs]
  · have := run_make (P := Try.prog) w _ _ i _ Try.underlying22 hi hz .i64 .i64 0 n (by decide) (by omega) (by rw [hb]; omega) (by omega)
    simpa using this

theorem PL.make (w : World) {n : Nat} {Z : Array Value} (hZ : Z.size = n * 2) (hn : n ≤ 4000000) : PL w (.slice (some ⟨w.heap.size, 0, none⟩) 0 n) [] (w.alloc (.cells Z 35)) :=
  ⟨⟨by simp [prs], .inr ⟨w.heap.size, n, Z, rfl, Nat.le_refl _, heap_alloc_new w _, Nat.zero_le _, by unfold maxLen; omega, hZ, by simp [prs]⟩⟩, (Below.refl _ _).alloc (Nat.le_refl _) _⟩

set_option maxRecDepth 100000 in
set_option maxHeartbeats 8000000 in
theorem punion_any (B : Nat) (A A' : Option Addr) (a b : List Pr) (c c' : Nat) (w : World) (hs : Sees w B A (prs a)) (hs' : Sees w B A' (prs b)) (hB : B ≤ w.heap.size) (hm : a.length ≤ 1000000) (hm' : b.length ≤ 1000000) (hc : b.length ≤ c') (hcm : c' ≤ maxLen) (hsa : Srt a) (hsb : Srt b) :
    Calls Try.prog 30 #[.slice A a.length c, .slice A' b.length c'] w fun e w' => ∃ v, e = .returned v ∧ PL w v (mkP (a ++ b)) w' := by
  have mixed : Try.prog.follows .mixedOrders = true := by kernel_rfl
  have hG := guard_pr
  obtain ⟨i0, hi0, hz0, hz1, hz2⟩ := info_pr
  obtain ⟨Z, hZ, hmk⟩ := make_pr (a.length + b.length) (by omega)
  rw [Int.natCast_add] at hmk
  have HPZ : Hid (PL w (.slice (some ⟨w.heap.size, 0, none⟩) 0 (a.length + b.length)) [] (w.alloc (.cells Z 35))) := PL.make w hZ (by omega)
  have HSA := Lib.hid hsa
  have HSB := Lib.hid hsb
  have HB0 : Hid (BAt w B b 0 b.length A' c') := ⟨rfl, hc, hcm, hs'⟩
  clear hs' hsa hsb hc hcm hZ
  go_enter Try.func30, Try.ntmps30
  go_wp2
  generalize (w.alloc (.cells Z 35)) = W0 at *
  go_loopg [1, 5, 16] a.length (fun g v1 v5 v16 wr => ∃ (k j n : Nat) (A1 : Option Addr) (c1 : Nat) (o : List Pr), k + g = a.length ∧ v16 = .int .i64 k ∧ v1 = .slice A1 n c1 ∧ Hid (BAt w B b j n A1 c1) ∧ Hid (UN a b k j o) ∧ Hid (PL w v5 o wr))
  case atStart => exact ⟨0, 0, b.length, A', c', [], by omega, by go_num, rfl, HB0.out, UN.start a b, HPZ.out⟩
  case round =>
    clear HB0 HPZ
    obtain ⟨k, j, n, A1, c1, o, hg, rfl, rfl, HBT, HU, HP⟩ := hrel
    by_cases hlt : k < a.length
    · obtain ⟨b1, o1, rfl, hb, hc0, hc1⟩ := sees_pair hs hlt
      have f0 := (HP.out.blw.cell (p := ⟨b1, _, none⟩) (by show b1 < _; omega)).trans hc0
      have f1 := (HP.out.blw.cell (p := ⟨b1, _, none⟩) (by show b1 < _; omega)).trans hc1
      have UB := Lib.hid fun (m : Nat) (o : List Pr) (h : UN a b k m o) (hj : m < b.length) (hl : ltP b[m] a[k] = true) => h.stb HSA.out HSB.out hlt hj hl
      have UA := Lib.hid fun (m : Nat) (o : List Pr) (h : UN a b k m o) (hl : ∀ y ∈ b.drop m, ltP a[k] y = true) => h.sta HSA.out hlt hl
      have UAB := Lib.hid fun (m : Nat) (o : List Pr) (h : UN a b k m o) (hj : m < b.length) (hl : b[m] = a[k]) => h.stab HSA.out HSB.out hlt hj hl
      have hkz : (k : Int) < (a.length : Int) := by omega
      generalize a[k] = x at *
      obtain ⟨x1, x2⟩ := x
      dsimp only at f0 f1
      clear hc0 hc1 hs
      go_upto_region 5 with fail
      have HX := Lib.hid (PX.of HP.out x1 x2)
      clear f0 f1 HP
      generalize (wr.alloc (.cells #[.int .i64 x1, .int .i64 x2] 35)) = W1 at *
      generalize wr.heap.size = pb at *
      go_loopg [1, 5] n (fun g2 v1 v5 wr => ∃ (j n : Nat) (A1 : Option Addr) (c1 : Nat) (o : List Pr), n ≤ g2 ∧ v1 = .slice A1 n c1 ∧ Hid (BAt w B b j n A1 c1) ∧ Hid (UN a b k j o) ∧ Hid (PX w v5 o pb x1 x2 wr))
      case atStart => exact ⟨j, n, A1, c1, o, Nat.le_refl _, rfl, HBT.out, HU.out, HX.out⟩
      case round =>
        clear HBT HU HX
        obtain ⟨j, n, A1, c1, o, hn2, rfl, HBT, HU, HX⟩ := hrel
        have hol : o.length ≤ 2000000 := by have := HU.out.len; have := HBT.out.len; omega
        obtain ⟨p0, p1⟩ := HX.out.cells
        rcases n with _ | n
        · have HU2 := Lib.hid (UA.out j o HU.out fun y hy => by
            have hl := HBT.out.len
            rw [List.drop_of_length_le (by omega)] at hy
            simp at hy)
          go_wp2_with fail
          go_quiet (fail)
          go_upto_region 8 with fail
          have HX2 := Lib.hid (HX.out.grew ((Grew.refl wr).drewN nq))
          clear p0 p1
          generalize wr.drewN nq = W2 at *
          obtain ⟨p0, p1⟩ := HX2.out.cells
          go_wp2_with fail
          go_quiet (fail)
          go_upto_region 10 with fail
          have HX8 := Lib.hid (HX2.out.grew ((Grew.refl W2).drewN nq))
          clear p0 p1
          generalize (W2).drewN nq = W8 at *
          obtain ⟨p0, p1⟩ := HX8.out.cells
          have hown := (HX8.out.pl.alloc (prObj x1 x2)).own
          have hnew := new_sees W8 x1 x2
          go_wp2_with (at_builtin; refine wpList_append_any _ rfl (.tmp 50) (.tmp 52) 22 rfl _ 35 i0 (.agg #[.int .i64 0, .int .i64 0]) 2 16 Try.underlying22 hi0 hz0 hz1 hz2 rfl (by decide) _ _ _ rfl hown (W8.heap.size + 1) _ 1 1 _ rfl hnew rfl (prs_one _) ?c1 ?c2 ?c3 ?_)
          case c1 => have := hol; unfold maxLen; omega
          case c2 => have := hol; omega
          case c3 => have := HX8.out.pl.blw.size; simp; omega
          intro v9 W9 ho2 hg2 hb2
          have HX9 := Lib.hid (HX8.out.push x1 x2 (by first | rfl | simp) ho2 hg2 hb2)
          clear ho2 hg2 hb2 hown hnew
          go_wp2
          go_roundg (a.length - (k + 1))
          case measure => omega
          case rel => exact ⟨k + 1, j, 0, _, c1, o ++ [(x1, x2)], by omega, by go_num, rfl, HBT.out, HU2.out, HX9.out.pl⟩
        · obtain ⟨bb, oo, rfl, hbb, d0, d1⟩ := HBT.out.get (by omega)
          have hjb : j < b.length := by have := HBT.out.len; omega
          have UB2 := Lib.hid fun h => UB.out j o HU.out hjb h
          have UAB2 := Lib.hid fun h => UAB.out j o HU.out hjb h
          have UA2 := Lib.hid fun h1 h2 => UA.out j o HU.out (gt_all HSB.out hjb h1 h2)
          have CF : Hid (∀ W, Below w.heap.size w W → W.cell? ⟨bb, oo, none⟩ = some (.int .i64 b[j].1) ∧ W.cell? ⟨bb, oo + 1, none⟩ = some (.int .i64 b[j].2)) := fun W h => ⟨(h.cell (p := ⟨bb, _, none⟩) (by show bb < _; omega)).trans d0, (h.cell (p := ⟨bb, _, none⟩) (by show bb < _; omega)).trans d1⟩
          clear d0 d1
          generalize b[j] = y at *
          obtain ⟨y1, y2⟩ := y
          dsimp only at CF
          obtain ⟨e0, e1⟩ := CF.out _ HX.out.pl.blw
          have C1 : Hid (∀ n os, Calls Try.prog 35 #[.agg #[.int .i64 y1, .int .i64 y2], .agg #[.int .i64 x1, .int .i64 x2]] (Go.Sort.grow (wr.drewN n) os) fun e w' => e = .returned (.bool (ltP (y1, y2) (x1, x2))) ∧ ∃ q os', w' = Go.Sort.grow ((Go.Sort.grow (wr.drewN n) os).drewN q) os') := fun n os => less_any (y1, y2) (x1, x2) _
          have g0 := fun n os => Go.cell_grown (World.block_lt_of_cell? _ _ e0) e0 n os
          have g1 := fun n os => Go.cell_grown (World.block_lt_of_cell? _ _ e1) e1 n os
          have g2 := fun n os => Go.cell_grown (World.block_lt_of_cell? _ _ p0) p0 n os
          have g3 := fun n os => Go.cell_grown (World.block_lt_of_cell? _ _ p1) p1 n os
          clear e0 e1 p0 p1
          generalize hbl : ltP (y1, y2) (x1, x2) = bl at C1
          have hn0 : (0 : Int) < (n : Int) + 1 := by omega
          cases bl
          · have hq : ∀ W, (binOp .eql 35 (.agg #[.int .i64 y1, .int .i64 y2]) (.agg #[.int .i64 x1, .int .i64 x2])).run Try.prog W = .ok (.bool (decide (((y1, y2) : Pr) = (x1, x2)))) W := fun W => eq_pr (y1, y2) (x1, x2) W
            have UA3 := Lib.hid (UA2.out hbl)
            clear UB2 UA2 hbl
            go_wp2_with fail
            go_quiet_grown (first | (go_at_call 35; refine Calls.grown_of (C1.out _ _)))
            go_upto_region 8 with fail
            have HX2 := Lib.hid (HX.out.grew ⟨nq, osq, rfl⟩)
            clear g0 g1 g2 g3 C1
            generalize Go.Sort.grow (wr.drewN nq) osq = W2 at *
            obtain ⟨p0, p1⟩ := HX2.out.cells
            obtain ⟨e0, e1⟩ := CF.out _ HX2.out.pl.blw
            by_cases hxe : ((y1, y2) : Pr) = (x1, x2)
            · rw [show (decide (((y1, y2) : Pr) = (x1, x2))) = true by simp [hxe]] at hq
              have HU2 := Lib.hid (UAB2.out hxe)
              obtain ⟨A2, hite⟩ : ∃ z, (if c1 = 1 then (some ⟨bb, oo, none⟩ : Option Addr) else some ⟨bb, oo + 2, none⟩) = z := ⟨_, rfl⟩
              have HBT2 := Lib.hid (HBT.out.next hite.symm)
              clear hxe
              go_wp2_with fail
              go_quiet (fail)
              go_upto_region 10 with fail
              have HX8 := Lib.hid (HX2.out.grew ((Grew.refl W2).drewN nq))
              clear p0 p1
              generalize (W2).drewN nq = W8 at *
              obtain ⟨p0, p1⟩ := HX8.out.cells
              have hown := (HX8.out.pl.alloc (prObj x1 x2)).own
              have hnew := new_sees W8 x1 x2
              go_wp2_with (at_builtin; refine wpList_append_any _ rfl (.tmp 50) (.tmp 52) 22 rfl _ 35 i0 (.agg #[.int .i64 0, .int .i64 0]) 2 16 Try.underlying22 hi0 hz0 hz1 hz2 rfl (by decide) _ _ _ rfl hown (W8.heap.size + 1) _ 1 1 _ rfl hnew rfl (prs_one _) ?c1 ?c2 ?c3 ?_)
              case c1 => have := hol; unfold maxLen; omega
              case c2 => have := hol; omega
              case c3 => have := HX8.out.pl.blw.size; simp; omega
              intro v9 W9 ho2 hg2 hb2
              have HX9 := Lib.hid (HX8.out.push x1 x2 (by first | rfl | simp) ho2 hg2 hb2)
              clear ho2 hg2 hb2 hown hnew
              go_wp2
              go_roundg (a.length - (k + 1))
              case measure => omega
              case rel => exact ⟨k + 1, j + 1, n, A2, c1 - 1, o ++ [(x1, x2)], by omega, by go_num, rfl, HBT2.out, HU2.out, HX9.out.pl⟩
            · rw [show (decide (((y1, y2) : Pr) = (x1, x2))) = false by simp [hxe]] at hq
              have HU2 := Lib.hid (UA3.out hxe)
              clear hxe
              go_wp2_with fail
              go_quiet (fail)
              go_upto_region 10 with fail
              have HX8 := Lib.hid (HX2.out.grew ((Grew.refl W2).drewN nq))
              clear p0 p1
              generalize (W2).drewN nq = W8 at *
              obtain ⟨p0, p1⟩ := HX8.out.cells
              have hown := (HX8.out.pl.alloc (prObj x1 x2)).own
              have hnew := new_sees W8 x1 x2
              go_wp2_with (at_builtin; refine wpList_append_any _ rfl (.tmp 50) (.tmp 52) 22 rfl _ 35 i0 (.agg #[.int .i64 0, .int .i64 0]) 2 16 Try.underlying22 hi0 hz0 hz1 hz2 rfl (by decide) _ _ _ rfl hown (W8.heap.size + 1) _ 1 1 _ rfl hnew rfl (prs_one _) ?c1 ?c2 ?c3 ?_)
              case c1 => have := hol; unfold maxLen; omega
              case c2 => have := hol; omega
              case c3 => have := HX8.out.pl.blw.size; simp; omega
              intro v9 W9 ho2 hg2 hb2
              have HX9 := Lib.hid (HX8.out.push x1 x2 (by first | rfl | simp) ho2 hg2 hb2)
              clear ho2 hg2 hb2 hown hnew
              go_wp2
              go_roundg (a.length - (k + 1))
              case measure => omega
              case rel => exact ⟨k + 1, j, n + 1, _, c1, o ++ [(x1, x2)], by omega, by go_num, rfl, HBT.out, HU2.out, HX9.out.pl⟩
          · have HU2 := Lib.hid (UB2.out hbl)
            clear UB2 UA2 hbl
            obtain ⟨A2, hite⟩ : ∃ z, (if c1 = 1 then (some ⟨bb, oo, none⟩ : Option Addr) else some ⟨bb, oo + 2, none⟩) = z := ⟨_, rfl⟩
            have HBT2 := Lib.hid (HBT.out.next hite.symm)
            go_wp2_with fail
            go_quiet_grown (first | (go_at_call 35; refine Calls.grown_of (C1.out _ _)))
            go_upto_region 6 with fail
            have HX2 := Lib.hid (HX.out.grew ⟨nq, osq, rfl⟩)
            clear g0 g1 g2 g3 C1
            generalize Go.Sort.grow (wr.drewN nq) osq = W2 at *
            obtain ⟨e0, e1⟩ := CF.out _ HX2.out.pl.blw
            have hown := (HX2.out.pl.alloc (prObj y1 y2)).own
            have hnew := new_sees W2 y1 y2
            go_wp2_with (at_builtin; refine wpList_append_any _ rfl (.tmp 30) (.tmp 34) 22 rfl _ 35 i0 (.agg #[.int .i64 0, .int .i64 0]) 2 16 Try.underlying22 hi0 hz0 hz1 hz2 rfl (by decide) _ _ _ rfl hown (W2.heap.size + 1) _ 1 1 _ rfl hnew rfl (prs_one _) ?c1 ?c2 ?c3 ?_)
            case c1 => have := hol; unfold maxLen; omega
            case c2 => have := hol; omega
            case c3 => have := HX2.out.pl.blw.size; simp; omega
            intro v3 W3 ho2 hg2 hb2
            have HX3 := Lib.hid (HX2.out.push y1 y2 (by first | rfl | simp) ho2 hg2 hb2)
            clear ho2 hg2 hb2 hown hnew
            go_wp2
            go_roundg n
            case measure => omega
            case rel => exact ⟨j + 1, n, A2, c1 - 1, o ++ [(y1, y2)], Nat.le_refl _, rfl, HBT2.out, HU2.out, HX3.out⟩
    · have HE := Lib.hid (HU.out.end_ HSB.out (by omega))
      have hkz : ¬ (k : Int) < (a.length : Int) := by omega
      have hol : o.length ≤ 2000000 := by have := HU.out.len; have := HBT.out.len; omega
      have hn3 : n ≤ 1000000 := by have := HBT.out.len; omega
      have hown := HP.out.own
      have hr := (HBT.out.see.below (HP.out.blw.mono hB)).more (Nat.le_trans hB HP.out.blw.size)
      have hl : (prs (b.drop j)).length = n * 2 := by rw [prs_length, List.length_drop]; have := HBT.out.len; omega
      clear hs
      go_wp2_with (at_builtin; refine wpList_append_any _ rfl (.tmp 55) (.tmp 56) 22 rfl _ 35 i0 (.agg #[.int .i64 0, .int .i64 0]) 2 16 Try.underlying22 hi0 hz0 hz1 hz2 rfl (by decide) _ _ _ rfl hown wr.heap.size _ n c1 _ rfl hr hl (prs_one _) ?c1 ?c2 ?c3 ?_)
      case c1 => unfold maxLen; omega
      case c2 => omega
      case c3 => exact HP.out.blw.size
      intro v2 W2 ho2 hg2 hb2
      have HP2 : Hid (PL w v2 (o ++ b.drop j) W2) := by
        refine ⟨?_, HP.out.blw.grown hg2 HP.out.blw.size fun k hk => (ownS_lt HP.out.own k hk).1⟩
        rw [prs_append, List.length_append, List.length_drop, show b.length - j = n by have := HBT.out.len; omega]
        exact ho2
      clear hown hr hl ho2 hg2 hb2
      go_wp2
      go_ret
      rw [← HE.out]
      exact ⟨_, rfl, HP2.out⟩

set_option maxRecDepth 100000 in
set_option maxHeartbeats 4000000 in
theorem padd_any (B : Nat) (A : Option Addr) (a : List Pr) (c : Nat) (p : Pr) (w : World) (hs : Sees w B A (prs a)) (hB : B ≤ w.heap.size) (hm : a.length ≤ 1000000) (hsa : Srt a) :
    Calls Try.prog 27 #[.slice A a.length c, .agg #[.int .i64 p.1, .int .i64 p.2]] w fun e w' => ∃ v, e = .returned v ∧ PL w v (mkP (a ++ [p])) w' := by
  obtain ⟨p1, p2⟩ := p
  dsimp only
  have hA := (Row.new w 35 #[.int .i64 p1, .int .i64 p2])
  have hb2 : Below w.heap.size w ((w.alloc (prObj p1 p2)).alloc (prObj p1 p2)) := ((Below.refl w.heap.size w).alloc (Nat.le_refl _) _).alloc (by simp) _
  have C1 : Hid (Calls Try.prog 30 #[.slice A a.length c, .slice (some ⟨w.heap.size + 1, 0, none⟩) 1 1] ((w.alloc (prObj p1 p2)).alloc (prObj p1 p2)) fun e w' => ∃ v, e = .returned v ∧ PL ((w.alloc (prObj p1 p2)).alloc (prObj p1 p2)) v (mkP (a ++ [(p1, p2)])) w') := by
    have h1 : Sees ((w.alloc (prObj p1 p2)).alloc (prObj p1 p2)) (w.heap.size + 2) (some ⟨w.heap.size + 1, 0, none⟩) (prs [(p1, p2)]) := by
      have := new_sees (w.alloc (prObj p1 p2)) p1 p2
      rw [show (w.alloc (prObj p1 p2)).heap.size = w.heap.size + 1 by simp] at this
      exact this
    exact punion_any (w.heap.size + 2) A (some ⟨w.heap.size + 1, 0, none⟩) a [(p1, p2)] c 1 _ ((hs.below (hb2.mono hB)).more (by omega)) h1 (by simp) hm (by simp) (by simp) (by unfold maxLen; omega) hsa (List.pairwise_singleton _ _)
  have HB2 := Lib.hid hb2
  clear hs hb2
  have a0 := hA.cell 0
  have a1 := hA.cell 1
  simp only [List.getElem?_toArray, List.getElem?_cons_zero, List.getElem?_cons_succ] at a0 a1
  clear hA
  go_enter Try.func27, Try.ntmps27
  go_wp2_with fail
  refine C1.out.mono ?_
  rintro e W1 ⟨v, rfl, hP⟩
  have HP : Hid (PL w v (mkP (a ++ [(p1, p2)])) W1) := hP.base HB2.out
  clear hP
  go_wp2
  go_ret
  exact ⟨_, rfl, HP.out⟩

end Go.Proofs.Ytcnkkpnfijihbaa
