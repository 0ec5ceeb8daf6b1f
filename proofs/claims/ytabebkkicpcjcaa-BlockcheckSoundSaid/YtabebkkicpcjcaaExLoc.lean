/-
  The value of a location: pointers to registers and slots; the program's and the reference's Read.
-/
import Derived.Test.YtabebkkicpcjcaaExMem
import Derived.Test.YtabebkkicpcjcaaPk1
import Derived.Deep.QuietTactic
import Derived.BigQuiet
namespace Go.Proofs.Ytabebkkicpcjcaa
open Go.RowKit
set_option linter.unusedVariables false

/-- A world that has drawn. -/
def Drawn (a w : World) : Prop := ∃ n, a.drewN n = w
theorem Drawn.refl (a : World) : Drawn a a := ⟨0, rfl⟩
theorem Drawn.drew {a w : World} (h : Drawn a w) : Drawn a w.drew := by
  obtain ⟨n, rfl⟩ := h
  exact ⟨n + 1, by rw [← World.drewN_drewN]; rfl⟩
theorem Drawn.drewN {a w : World} (h : Drawn a w) (m : Nat) : Drawn a (w.drewN m) := by
  obtain ⟨n, rfl⟩ := h
  exact ⟨n + m, by rw [World.drewN_drewN]⟩
theorem Drawn.cell {a w : World} (h : Drawn a w) (p : Addr) : w.cell? p = a.cell? p := by
  obtain ⟨n, rfl⟩ := h
  rfl
theorem Drawn.frozen {a w : World} (h : Drawn a w) (p : Addr) : w.frozen? p = a.frozen? p := by
  obtain ⟨n, rfl⟩ := h
  rfl
theorem Drawn.below {a w : World} (h : Drawn a w) (B : Nat) : Below B a w := by
  obtain ⟨n, rfl⟩ := h
  exact blw_drewN (Below.refl _ _) n
theorem quietS {P : Program} {f : FuncId} {args : Array Value} {w : World} {n : Nat} {v : Value} (h : Calls P f args (w.drewN n) fun e w' => e = .returned v ∧ w.drewN n = w') : Calls P f args (w.drewN n) fun e w'' => e = .returned v ∧ ∃ m, w'' = w.drewN m :=
  Calls.quiet_of_same (h.mono fun _ _ ⟨a, b⟩ => ⟨a, b.symm⟩)
theorem quietN {P : Program} {f : FuncId} {args : Array Value} {w : World} {n : Nat} {v : Value} (h : Calls P f args (w.drewN n) fun e w' => e = .returned v ∧ ∃ m, (w.drewN n).drewN m = w') : Calls P f args (w.drewN n) fun e w'' => e = .returned v ∧ ∃ m, w'' = w.drewN m :=
  Calls.quiet_of (h.mono fun _ _ ⟨a, m, b⟩ => ⟨a, m, b.symm⟩)

set_option maxRecDepth 100000 in
set_option maxHeartbeats 1000000 in
theorem rread_any (r : Xn) (l : Int) (lo : Nat) (RA SA TA : Option Addr) (rc sc tc : Nat) (w : World) (hV : XV w lo RA rc SA sc TA tc r) (hl : LocOk r.regs.length r.slots.length l) (hr : r.regs.length ≤ 1000000) (hs : r.slots.length ≤ 1000000) :
    Calls Try.prog 18 #[.agg #[.int .i64 r.st, .int .i64 (r.blk : Int), .int .i64 (r.pos : Int), .int .i64 r.val, .slice RA r.regs.length rc, .slice SA r.slots.length sc, .slice TA r.trace.length tc, .int .i64 (r.steps : Int)], .int .i64 l] w fun e w' => e = .returned (.int .i64 (rdX r l)) ∧ Below w.heap.size w w' := by
  have hb := (Below.refl _ w).alloc (Nat.le_refl _) (.cells #[.int .i64 r.st, .int .i64 (r.blk : Int), .int .i64 (r.pos : Int), .int .i64 r.val, .slice RA r.regs.length rc, .slice SA r.slots.length sc, .slice TA r.trace.length tc, .int .i64 (r.steps : Int)] 56)
  have hV1 := hV.below hb
  have HB := Lib.hid hb
  obtain ⟨h0, ⟨h1, h2⟩ | ⟨h1, h2⟩⟩ := hl
  · obtain ⟨k, hk⟩ := Int.eq_ofNat_of_zero_le (show 0 ≤ l / 2 by omega)
    have hkn : k < r.slots.length := by omega
    obtain ⟨g, rfl, hc⟩ := regs_at hV.slots hkn
    have hlt := (ownS_lt hV.slots g rfl).2
    have hrd : rdX r l = rg r.slots (k : Int) := by rw [rdX, if_pos h1, hk]
    rw [hrd]
    obtain rfl : l = 2 * (k : Int) + 1 := by omega
    have e1 : (2 * (k : Int) + 1).tmod 2 = 1 := by rw [Int.tmod_eq_emod_of_nonneg (by omega)]; omega
    have e2 : (2 * (k : Int) + 1).tdiv 2 = k := by rw [Int.tdiv_eq_ediv_of_nonneg (by omega)]; omega
    have hk2 : (k : Int) < r.slots.length := by omega
    have hk3 : (k : Int) ≤ 1000000 := by omega
    clear h0 h1 h2 hk hkn hrd hb hV hV1 hr hs
    generalize rg r.slots (k : Int) = x at *
    go_enter Try.func18, Try.ntmps18
    go_wp2
    go_ret
    exact ⟨rfl, HB.out⟩
  · obtain ⟨k, hk⟩ := Int.eq_ofNat_of_zero_le (show 0 ≤ l / 2 by omega)
    have hkn : k < r.regs.length := by omega
    obtain ⟨g, rfl, hc⟩ := regs_at hV.regs hkn
    have hlt := (ownS_lt hV.regs g rfl).2
    have hrd : rdX r l = rg r.regs (k : Int) := by rw [rdX, if_neg (by omega), hk]
    rw [hrd]
    obtain rfl : l = 2 * (k : Int) := by omega
    have e1 : (2 * (k : Int)).tmod 2 = 0 := by rw [Int.tmod_eq_emod_of_nonneg (by omega)]; omega
    have e2 : (2 * (k : Int)).tdiv 2 = k := by rw [Int.tdiv_eq_ediv_of_nonneg (by omega)]; omega
    have hk2 : (k : Int) < r.regs.length := by omega
    have hk3 : (k : Int) ≤ 1000000 := by omega
    clear h0 h1 h2 hk hkn hrd hb hV hV1 hr hs
    generalize rg r.regs (k : Int) = x at *
    go_enter Try.func18, Try.ntmps18
    go_wp2
    go_ret
    exact ⟨rfl, HB.out⟩

end Go.Proofs.Ytabebkkicpcjcaa
