/-
  The value of a location: pointers to registers and slots; the program's and the reference's Read.
-/
import Derived.Test.YtcimjghejclknaaExMem
import Derived.Test.YtcimjghejclknaaPk1
import Derived.Deep.QuietTactic
import Derived.BigQuiet
namespace Go.Proofs.Ytcimjghejclknaa
open Go.RowKit
set_option linter.unusedVariables false

/-- A world that has drawn. -/
def Drawn (a w : World) : Prop := ∃ n, a.drewN n = w
theorem Drawn.refl (a : World) : Drawn a a := ⟨0, rfl⟩
theorem Drawn.drew {a w : World} (h : Drawn a w) : Drawn a w.drew := by
  obtain ⟨n, rfl⟩ := h
  exact ⟨n + 1, by rw [← World.drewN_drewN]; rfl⟩
theorem Drawn.drewN {a w : World} (h : Drawn a w) (m : Nat) : Drawn a (w.drewN m) := by
  obtain ⟨n, rfl⟩ := h
  exact ⟨n + m, by rw [World.drewN_drewN]⟩
theorem Drawn.cell {a w : World} (h : Drawn a w) (p : Addr) : w.cell? p = a.cell? p := by
  obtain ⟨n, rfl⟩ := h
  rfl
theorem Drawn.frozen {a w : World} (h : Drawn a w) (p : Addr) : w.frozen? p = a.frozen? p := by
  obtain ⟨n, rfl⟩ := h
  rfl
theorem Drawn.below {a w : World} (h : Drawn a w) (B : Nat) : Below B a w := by
  obtain ⟨n, rfl⟩ := h
  exact blw_drewN (Below.refl _ _) n
theorem quietS {P : Program} {f : FuncId} {args : Array Value} {w : World} {n : Nat} {v : Value} (h : Calls P f args (w.drewN n) fun e w' => e = .returned v ∧ w.drewN n = w') : Calls P f args (w.drewN n) fun e w'' => e = .returned v ∧ ∃ m, w'' = w.drewN m :=
  Calls.quiet_of_same (h.mono fun _ _ ⟨a, b⟩ => ⟨a, b.symm⟩)
theorem quietN {P : Program} {f : FuncId} {args : Array Value} {w : World} {n : Nat} {v : Value} (h : Calls P f args (w.drewN n) fun e w' => e = .returned v ∧ ∃ m, (w.drewN n).drewN m = w') : Calls P f args (w.drewN n) fun e w'' => e = .returned v ∧ ∃ m, w'' = w.drewN m :=
  Calls.quiet_of (h.mono fun _ _ ⟨a, m, b⟩ => ⟨a, m, b.symm⟩)

set_option maxRecDepth 100000 in
theorem locreg_any (n : Nat) (w : World) (h : n < 1099511627776) :
    Calls Try.prog 53 #[.int .i64 n] w fun e w' => e = .returned (.int .i64 ((2 * n : Nat) : Int)) ∧ w = w' := by
  go_enter Try.func53, Try.ntmps53
  go_wp2
  go_ret
  exact ⟨ret1 (by omega), rfl⟩
theorem locidx_at (l : Int) (k : Nat) (w : World) (h0 : 0 ≤ l) (h : l ≤ 9223372036854775807) (hk : l / 2 = k) :
    Calls Try.prog 38 #[.int .i64 l] w fun e w' => e = .returned (.int .i64 (k : Int)) ∧ w = w' := by
  rw [← hk]
  exact locidx_any l w h0 h

set_option maxRecDepth 100000 in
set_option maxHeartbeats 1000000 in
theorem place_slot (l : Int) (k q g ns sc : Nat) (w : World) (h5 : w.cell? ⟨q, 5, none⟩ = some (.slice (some ⟨g, 0, none⟩) ns sc)) (hl : l = 2 * (k : Int) + 1) (hk : k < ns) (hm : ns ≤ 1000000) :
    Calls Try.prog 28 #[.pointer (some ⟨q, 0, none⟩), .int .i64 l] w fun e w' => e = .returned (.pointer (some ⟨g, k, none⟩)) ∧ ∃ n, w.drewN n = w' := by
  have C1 := Lib.hid fun W => locslot_any l true W (by omega) (by omega) (by rw [decide_eq_true]; omega)
  have C2 := Lib.hid fun W => locidx_at l k W (by omega) (by omega) (by omega)
  have hk2 : (k : Int) < ns := by omega
  clear hl
  go_enter Try.func28, Try.ntmps28
  go_wp2_with fail
  refine (C1.out _).mono ?_
  rintro e W ⟨rfl, rfl⟩
  go_upto_region 2 with fail
  go_quiet (exact quietS (C2.out _))
  go_wp2
  go_ret
  exact ⟨rfl, _, rfl⟩

set_option maxRecDepth 100000 in
set_option maxHeartbeats 1000000 in
theorem place_reg (l : Int) (k q g ns sc : Nat) (w : World) (h4 : w.cell? ⟨q, 4, none⟩ = some (.slice (some ⟨g, 0, none⟩) ns sc)) (hl : l = 2 * (k : Int)) (hk : k < ns) (hm : ns ≤ 1000000) :
    Calls Try.prog 28 #[.pointer (some ⟨q, 0, none⟩), .int .i64 l] w fun e w' => e = .returned (.pointer (some ⟨g, k, none⟩)) ∧ ∃ n, w.drewN n = w' := by
  have C1 := Lib.hid fun W => locslot_any l false W (by omega) (by omega) (by rw [decide_eq_false]; omega)
  have C2 := Lib.hid fun W => locidx_at l k W (by omega) (by omega) (by omega)
  have hk2 : (k : Int) < ns := by omega
  clear hl
  go_enter Try.func28, Try.ntmps28
  go_wp2_with fail
  refine (C1.out _).mono ?_
  rintro e W ⟨rfl, rfl⟩
  go_upto_region 3 with fail
  go_quiet (exact quietS (C2.out _))
  go_wp2
  go_ret
  exact ⟨rfl, _, rfl⟩

set_option maxRecDepth 100000 in
set_option maxHeartbeats 1000000 in
theorem register_any (k q g ns sc : Nat) (w : World) (h4 : w.cell? ⟨q, 4, none⟩ = some (.slice (some ⟨g, 0, none⟩) ns sc)) (hk : k < ns) (hm : ns ≤ 1000000) :
    Calls Try.prog 47 #[.pointer (some ⟨q, 0, none⟩), .int .i64 k] w fun e w' => e = .returned (.pointer (some ⟨g, k, none⟩)) ∧ ∃ n, w.drewN n = w' := by
  have C1 := Lib.hid fun W => locreg_any k W (by omega)
  have C2 := Lib.hid fun (W : World) h => place_reg ((2 * k : Nat) : Int) k q g ns sc W h (by omega) hk hm
  clear hk hm
  go_enter Try.func47, Try.ntmps47
  go_wp2_with fail
  refine (C1.out _).mono ?_
  rintro e W ⟨rfl, rfl⟩
  go_wp2_with fail
  refine (C2.out _ h4).mono ?_
  rintro e W ⟨rfl, n, rfl⟩
  go_wp2
  go_ret
  exact ⟨rfl, _, rfl⟩

/-- The two boxes that Read makes. -/
theorem rbox (w : World) (r : Xn) (RA : Option Addr) (rc : Nat) (SA : Option Addr) (sc : Nat) (TA : Option Addr) (tc : Nat) : Below w.heap.size w ((w.alloc (.cells #[.int .i64 r.st, .int .i64 (r.blk : Int), .int .i64 (r.pos : Int), .int .i64 r.val, .slice RA r.regs.length rc, .slice SA r.slots.length sc, .slice TA r.trace.length tc, .int .i64 (r.steps : Int)] 29)).alloc (.cells #[.int .i64 r.st, .int .i64 (r.blk : Int), .int .i64 (r.pos : Int), .int .i64 r.val, .slice RA r.regs.length rc, .slice SA r.slots.length sc, .slice TA r.trace.length tc, .int .i64 (r.steps : Int), .slice none 0 0] 60)) ∧
    Row ((w.alloc (.cells #[.int .i64 r.st, .int .i64 (r.blk : Int), .int .i64 (r.pos : Int), .int .i64 r.val, .slice RA r.regs.length rc, .slice SA r.slots.length sc, .slice TA r.trace.length tc, .int .i64 (r.steps : Int)] 29)).alloc (.cells #[.int .i64 r.st, .int .i64 (r.blk : Int), .int .i64 (r.pos : Int), .int .i64 r.val, .slice RA r.regs.length rc, .slice SA r.slots.length sc, .slice TA r.trace.length tc, .int .i64 (r.steps : Int), .slice none 0 0] 60)) (w.heap.size + 1) 60 #[.int .i64 r.st, .int .i64 (r.blk : Int), .int .i64 (r.pos : Int), .int .i64 r.val, .slice RA r.regs.length rc, .slice SA r.slots.length sc, .slice TA r.trace.length tc, .int .i64 (r.steps : Int), .slice none 0 0] :=
  ⟨((Below.refl _ w).alloc (Nat.le_refl _) _).alloc (by simp) _, Row.new' (p := w.heap.size + 1) (by simp) _ _⟩

set_option maxRecDepth 100000 in
set_option maxHeartbeats 1000000 in
theorem read_any (r : Xn) (l : Int) (lo : Nat) (RA SA TA : Option Addr) (rc sc tc : Nat) (w : World) (hV : XV w lo RA rc SA sc TA tc r) (hl : LocOk r.regs.length r.slots.length l) (hr : r.regs.length ≤ 1000000) (hs : r.slots.length ≤ 1000000) :
    Calls Try.prog 16 #[.agg #[.int .i64 r.st, .int .i64 (r.blk : Int), .int .i64 (r.pos : Int), .int .i64 r.val, .slice RA r.regs.length rc, .slice SA r.slots.length sc, .slice TA r.trace.length tc, .int .i64 (r.steps : Int)], .int .i64 l] w fun e w' => e = .returned (.int .i64 (rdX r l)) ∧ Below w.heap.size w w' := by
  obtain ⟨hb, hrow⟩ := rbox w r RA rc SA sc TA tc
  have hV1 := hV.below hb
  have h4 := hrow.cell 4; have h5 := hrow.cell 5
  simp only [List.getElem?_toArray, List.getElem?_cons_zero, List.getElem?_cons_succ] at h4 h5
  have HB := Lib.hid hb
  obtain ⟨h0, ⟨h1, h2⟩ | ⟨h1, h2⟩⟩ := hl
  · obtain ⟨k, hk⟩ := Int.eq_ofNat_of_zero_le (show 0 ≤ l / 2 by omega)
    have hkn : k < r.slots.length := by omega
    obtain ⟨g, rfl, hc⟩ := regs_at hV1.slots hkn
    have hrd : rdX r l = rg r.slots (k : Int) := by rw [rdX, if_pos h1, hk]
    rw [hrd]
    have C1 := Lib.hid fun W h => place_slot l k (w.heap.size + 1) g r.slots.length sc W h (by omega) hkn hs
    have HC := Lib.hid (And.intro h5 hc)
    clear h0 h1 h2 hk hkn hrd hb hrow hV hV1 h4 h5 hc hr hs
    generalize rg r.slots (k : Int) = x at *
    go_enter Try.func16, Try.ntmps16
    go_upto_region 2 with fail
    generalize ((w.alloc (.cells #[.int .i64 r.st, .int .i64 (r.blk : Int), .int .i64 (r.pos : Int), .int .i64 r.val, .slice RA r.regs.length rc, .slice (some ⟨g, 0, none⟩) r.slots.length sc, .slice TA r.trace.length tc, .int .i64 (r.steps : Int)] 29)).alloc (.cells #[.int .i64 r.st, .int .i64 (r.blk : Int), .int .i64 (r.pos : Int), .int .i64 r.val, .slice RA r.regs.length rc, .slice (some ⟨g, 0, none⟩) r.slots.length sc, .slice TA r.trace.length tc, .int .i64 (r.steps : Int), .slice none 0 0] 60)) = W0 at *
    go_wp2_with fail
    refine (C1.out _ HC.out.1).mono ?_
    rintro e W ⟨rfl, n, rfl⟩
    have hc := HC.out.2
    go_wp2
    go_ret
    exact ⟨rfl, blw_drewN HB.out n⟩
  · obtain ⟨k, hk⟩ := Int.eq_ofNat_of_zero_le (show 0 ≤ l / 2 by omega)
    have hkn : k < r.regs.length := by omega
    obtain ⟨g, rfl, hc⟩ := regs_at hV1.regs hkn
    have hrd : rdX r l = rg r.regs (k : Int) := by rw [rdX, if_neg (by omega), hk]
    rw [hrd]
    have C1 := Lib.hid fun W h => place_reg l k (w.heap.size + 1) g r.regs.length rc W h (by omega) hkn hr
    have HC := Lib.hid (And.intro h4 hc)
    clear h0 h1 h2 hk hkn hrd hb hrow hV hV1 h4 h5 hc hr hs
    generalize rg r.regs (k : Int) = x at *
    go_enter Try.func16, Try.ntmps16
    go_upto_region 2 with fail
    generalize ((w.alloc (.cells #[.int .i64 r.st, .int .i64 (r.blk : Int), .int .i64 (r.pos : Int), .int .i64 r.val, .slice (some ⟨g, 0, none⟩) r.regs.length rc, .slice SA r.slots.length sc, .slice TA r.trace.length tc, .int .i64 (r.steps : Int)] 29)).alloc (.cells #[.int .i64 r.st, .int .i64 (r.blk : Int), .int .i64 (r.pos : Int), .int .i64 r.val, .slice (some ⟨g, 0, none⟩) r.regs.length rc, .slice SA r.slots.length sc, .slice TA r.trace.length tc, .int .i64 (r.steps : Int), .slice none 0 0] 60)) = W0 at *
    go_wp2_with fail
    refine (C1.out _ HC.out.1).mono ?_
    rintro e W ⟨rfl, n, rfl⟩
    have hc := HC.out.2
    go_wp2
    go_ret
    exact ⟨rfl, blw_drewN HB.out n⟩

set_option maxRecDepth 100000 in
set_option maxHeartbeats 1000000 in
theorem rread_any (r : Xn) (l : Int) (lo : Nat) (RA SA TA : Option Addr) (rc sc tc : Nat) (w : World) (hV : XV w lo RA rc SA sc TA tc r) (hl : LocOk r.regs.length r.slots.length l) (hr : r.regs.length ≤ 1000000) (hs : r.slots.length ≤ 1000000) :
    Calls Try.prog 17 #[.agg #[.int .i64 r.st, .int .i64 (r.blk : Int), .int .i64 (r.pos : Int), .int .i64 r.val, .slice RA r.regs.length rc, .slice SA r.slots.length sc, .slice TA r.trace.length tc, .int .i64 (r.steps : Int)], .int .i64 l] w fun e w' => e = .returned (.int .i64 (rdX r l)) ∧ Below w.heap.size w w' := by
  have hb := (Below.refl _ w).alloc (Nat.le_refl _) (.cells #[.int .i64 r.st, .int .i64 (r.blk : Int), .int .i64 (r.pos : Int), .int .i64 r.val, .slice RA r.regs.length rc, .slice SA r.slots.length sc, .slice TA r.trace.length tc, .int .i64 (r.steps : Int)] 29)
  have hV1 := hV.below hb
  have HB := Lib.hid hb
  obtain ⟨h0, ⟨h1, h2⟩ | ⟨h1, h2⟩⟩ := hl
  · obtain ⟨k, hk⟩ := Int.eq_ofNat_of_zero_le (show 0 ≤ l / 2 by omega)
    have hkn : k < r.slots.length := by omega
    obtain ⟨g, rfl, hc⟩ := regs_at hV.slots hkn
    have hlt := (ownS_lt hV.slots g rfl).2
    have hrd : rdX r l = rg r.slots (k : Int) := by rw [rdX, if_pos h1, hk]
    rw [hrd]
    obtain rfl : l = 2 * (k : Int) + 1 := by omega
    have e1 : (2 * (k : Int) + 1).tmod 2 = 1 := by rw [Int.tmod_eq_emod_of_nonneg (by omega)]; omega
    have e2 : (2 * (k : Int) + 1).tdiv 2 = k := by rw [Int.tdiv_eq_ediv_of_nonneg (by omega)]; omega
    have hk2 : (k : Int) < r.slots.length := by omega
    have hk3 : (k : Int) ≤ 1000000 := by omega
    clear h0 h1 h2 hk hkn hrd hb hV hV1 hr hs
    generalize rg r.slots (k : Int) = x at *
    go_enter Try.func17, Try.ntmps17
    go_wp2
    go_ret
    exact ⟨rfl, HB.out⟩
  · obtain ⟨k, hk⟩ := Int.eq_ofNat_of_zero_le (show 0 ≤ l / 2 by omega)
    have hkn : k < r.regs.length := by omega
    obtain ⟨g, rfl, hc⟩ := regs_at hV.regs hkn
    have hlt := (ownS_lt hV.regs g rfl).2
    have hrd : rdX r l = rg r.regs (k : Int) := by rw [rdX, if_neg (by omega), hk]
    rw [hrd]
    obtain rfl : l = 2 * (k : Int) := by omega
    have e1 : (2 * (k : Int)).tmod 2 = 0 := by rw [Int.tmod_eq_emod_of_nonneg (by omega)]; omega
    have e2 : (2 * (k : Int)).tdiv 2 = k := by rw [Int.tdiv_eq_ediv_of_nonneg (by omega)]; omega
    have hk2 : (k : Int) < r.regs.length := by omega
    have hk3 : (k : Int) ≤ 1000000 := by omega
    clear h0 h1 h2 hk hkn hrd hb hV hV1 hr hs
    generalize rg r.regs (k : Int) = x at *
    go_enter Try.func17, Try.ntmps17
    go_wp2
    go_ret
    exact ⟨rfl, HB.out⟩

end Go.Proofs.Ytcimjghejclknaa
