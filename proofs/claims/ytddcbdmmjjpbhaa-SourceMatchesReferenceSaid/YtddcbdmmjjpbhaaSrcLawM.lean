/-
  The walk of the statement that layer 7 returns what the reference returns.
-/
import Derived.Test.YtddcbdmmjjpbhaaSrcAwake
import Derived.Test.YtddcbdmmjjpbhaaSrcFew
import Derived.Test.YtddcbdmmjjpbhaaSrcIn
import Derived.Test.YtddcbdmmjjpbhaaSrcRchk
import Derived.Deep.RegionWith
import Derived.Deep.RegionHeld3
import Derived.Deep.DeepMust
namespace Go.Proofs.Ytddcbdmmjjpbhaa
open Go.RowKit
set_option linter.unusedVariables false

/-- What the statement carries from call to call: its arguments' boxes, and the function's blocks. -/
structure GM (w : World) (x : In) (t : Tm) (args regs : Int) (A : Option Addr) (bs : List Blk) (c : Nat) (W : World) : Prop where
  below : Below w.heap.size w W
  f : Row W w.heap.size 24 #[.int .i64 args, .int .i64 regs, .slice A bs.length c]
  i : Row W (w.heap.size + 1) 26 #[.int .i64 x.op, .int .i64 x.d, .int .i64 x.a, .int .i64 x.b, .int .i64 x.imm]
  t : Row W (w.heap.size + 1 + 1) 28 #[.int .i64 t.kind, .int .i64 t.a, .int .i64 t.to, .int .i64 t.el]
  b : BlksAt W w.heap.size A bs

section
variable {w : World} {x : In} {t : Tm} {args regs : Int} {A : Option Addr} {bs : List Blk} {c : Nat} {W W' : World}
theorem GM.next (h : GM w x t args regs A bs c W) (hb : Below W.heap.size W W') : GM w x t args regs A bs c W' :=
  ⟨h.below.trans (hb.mono h.below.size), h.f.below hb h.f.lt, h.i.below hb h.i.lt, h.t.below hb h.t.lt, h.b.below (hb.mono h.below.size)⟩
theorem GM.drewN (h : GM w x t args regs A bs c W) (n : Nat) : GM w x t args regs A bs c (W.drewN n) := h.next (below_drewN ⟨n, rfl⟩)
theorem GM.drew (h : GM w x t args regs A bs c W) : GM w x t args regs A bs c W.drew := h.drewN 1
/-- The cells that the statement's last line loads. -/
def GM.S (w : World) (x : In) (t : Tm) (args regs : Int) (A : Option Addr) (bs : List Blk) (c : Nat) (W : World) : Prop :=
  GM w x t args regs A bs c W ∧ W.cell? ⟨w.heap.size, 0, none⟩ = some (.int .i64 args) ∧ W.cell? ⟨w.heap.size, 1, none⟩ = some (.int .i64 regs) ∧ W.cell? ⟨w.heap.size, 2, none⟩ = some (.slice A bs.length c) ∧
  W.cell? ⟨w.heap.size + 1, 0, none⟩ = some (.int .i64 x.op) ∧ W.cell? ⟨w.heap.size + 1, 1, none⟩ = some (.int .i64 x.d) ∧ W.cell? ⟨w.heap.size + 1, 2, none⟩ = some (.int .i64 x.a) ∧ W.cell? ⟨w.heap.size + 1, 3, none⟩ = some (.int .i64 x.b) ∧ W.cell? ⟨w.heap.size + 1, 4, none⟩ = some (.int .i64 x.imm) ∧
  W.cell? ⟨w.heap.size + 1 + 1, 0, none⟩ = some (.int .i64 t.kind) ∧ W.cell? ⟨w.heap.size + 1 + 1, 1, none⟩ = some (.int .i64 t.a) ∧ W.cell? ⟨w.heap.size + 1 + 1, 2, none⟩ = some (.int .i64 t.to) ∧ W.cell? ⟨w.heap.size + 1 + 1, 3, none⟩ = some (.int .i64 t.el)
theorem GM.cells (h : GM w x t args regs A bs c W) : GM.S w x t args regs A bs c W :=
  ⟨h, h.f.cell 0, h.f.cell 1, h.f.cell 2, h.i.cell 0, h.i.cell 1, h.i.cell 2, h.i.cell 3, h.i.cell 4, h.t.cell 0, h.t.cell 1, h.t.cell 2, h.t.cell 3⟩
end

set_option maxRecDepth 100000 in
set_option maxHeartbeats 8000000 in
theorem SourceMatchesReference_walk (a0 a1 a2 : Array Value) (a3 a4 : Int) (w : World) (w0 : IsFn w a0) (w1 : IsIn w a1) (w2 : IsTm w a2) (_ : (Lit.int .i64 a3).wf = true) (_ : (Lit.int .i64 a4).wf = true) :
    Calls Try.prog 3 #[.agg a0, .agg a1, .agg a2, .int .i64 a3, .int .i64 a4] w fun e w' => e = .returned (.bool true) ∧ Below w.heap.size w w' := by
  obtain ⟨args, regs, A, bs, c, rfl, _, _, hbl, hbm, hs, _⟩ := w0
  obtain ⟨x, rfl, _⟩ := w1
  obtain ⟨t, rfl, _⟩ := w2
  have hbl2 : bs.length ≤ maxLen := Nat.le_trans hbl hbm
  have hG0 : GM w x t args regs A bs c (((w.alloc (.cells #[.int .i64 args, .int .i64 regs, .slice A bs.length c] 24)).alloc (.cells #[.int .i64 x.op, .int .i64 x.d, .int .i64 x.a, .int .i64 x.b, .int .i64 x.imm] 26)).alloc (.cells #[.int .i64 t.kind, .int .i64 t.a, .int .i64 t.to, .int .i64 t.el] 28)) := {
    below := (((Below.refl w.heap.size w).alloc (Nat.le_refl _) _).alloc (by simp) _).alloc (by simp; omega) _
    f := ((Row.new w _ _).alloc _).alloc _
    i := (Row.new' (p := w.heap.size + 1) (by simp) _ _).alloc _
    t := Row.new' (p := w.heap.size + 1 + 1) (by simp) _ _
    b := ((hs.alloc (Nat.le_refl _) _).alloc (by simp) _).alloc (by simp; omega) _ }
  go_enter Try.func3, Try.ntmps3
  go_wp2_with fail
  refine (awake_any _).mono ?_
  rintro e W1 ⟨rfl, hb⟩
  have hG1 := hG0.next hb
  clear hb hG0 hbl hbm hs
  obtain ⟨_, d0, d1, d2, _⟩ := hG1.cells
  have HG1 := Lib.hid hG1
  clear hG1
  go_wp2_with fail
  refine (rfew_any w.heap.size A bs c args regs _ HG1.out.b HG1.out.below.size hbl2).mono ?_
  rintro e W2 ⟨⟨b, rfl, hf⟩, hb⟩
  have hG := HG1.out.next hb
  clear hb HG1 d0 d1 d2 hbl2
  cases b
  · clear hf
    go_wp2_with fail
    refine (awake_any _).mono ?_
    rintro e W3 ⟨rfl, hb⟩
    have HB3 := Lib.hid (hG.next hb).below
    clear hb hG
    go_wp2
    go_ret
    exact ⟨rfl, HB3.out⟩
  · have HF := Lib.hid (hf rfl)
    clear hf
    have hm : bs.length ≤ 1000 := by have := HF.out.1; omega
    have hn : codeN bs ≤ 1000000 := by have := HF.out.2.2; omega
    have C1 := Lib.hid fun W (h : GM w x t args regs A bs c W) => (check_any w.heap.size A bs c args regs W h.b h.below.size hm hn).mono fun e w' ⟨he, hb⟩ => (⟨he, h.next hb⟩ : e = _ ∧ GM w x t args regs A bs c w')
    have C2 := Lib.hid fun W (h : GM w x t args regs A bs c W) => (rcheck_any w.heap.size A bs c args regs W h.b h.below.size hm hn).mono fun e w' ⟨he, hb⟩ => (⟨he, h.next hb⟩ : e = _ ∧ GM w x t args regs A bs c w')
    have C3 := Lib.hid fun W (h : GM w x t args regs A bs c W) => (instr_any x a3 W).mono fun e w' ⟨he, hb⟩ => (⟨he, h.next hb⟩ : e = _ ∧ GM w x t args regs A bs c w')
    have C4 := Lib.hid fun W (h : GM w x t args regs A bs c W) => (rinstr_any x a3 W).mono fun e w' ⟨he, hb⟩ => (⟨he, h.next hb⟩ : e = _ ∧ GM w x t args regs A bs c w')
    have C5 := Lib.hid fun W (h : GM w x t args regs A bs c W) => (term_any t a3 a4 W).mono fun e w' ⟨he, hb⟩ => (⟨he, h.next hb⟩ : e = _ ∧ GM w x t args regs A bs c w')
    have C6 := Lib.hid fun W (h : GM w x t args regs A bs c W) => (rterm_any t a3 a4 W).mono fun e w' ⟨he, hb⟩ => (⟨he, h.next hb⟩ : e = _ ∧ GM w x t args regs A bs c w')
    have C7 := Lib.hid fun W (h : GM w x t args regs A bs c W) => (code_any w.heap.size A bs c args regs W h.b h.below.size hm hn).mono fun e w' ⟨he, hb⟩ => (⟨he, h.next hb⟩ : e = _ ∧ GM w x t args regs A bs c w')
    have C8 := Lib.hid fun W (h : GM w x t args regs A bs c W) => (rcode_any w.heap.size A bs c args regs W h.b h.below.size hm hn).mono fun e w' ⟨he, hb⟩ => (⟨he, h.next hb⟩ : e = _ ∧ GM w x t args regs A bs c w')
    have C9 := Lib.hid fun W (h : GM w x t args regs A bs c W) => (succ_any t W).mono fun e w' ⟨A1, c1, he, _, _, hs, hb⟩ => (⟨A1, c1, he, h.next hb, hs⟩ : ∃ A1 c1, e = Ending.returned (.slice A1 (succs t).length c1) ∧ GM w x t args regs A bs c w' ∧ Sees w' w'.heap.size A1 (ints (succs t)))
    have C10 := Lib.hid fun W (A1 : Option Addr) (h : GM w x t args regs A bs c W) (h1 : Sees W W.heap.size A1 (ints (succs t))) => (rsucc_any t W).mono fun e w' ⟨A2, c2, he, _, _, hs, hb⟩ => (⟨A2, c2, he, h.next hb, (h1.below hb).more hb.size, hs⟩ : ∃ A2 c2, e = Ending.returned (.slice A2 (succs t).length c2) ∧ GM w x t args regs A bs c w' ∧ Sees w' w'.heap.size A1 (ints (succs t)) ∧ Sees w' w'.heap.size A2 (ints (succs t)))
    have hsl : (succs t).length ≤ 2 := by
      unfold succs
      split
      · simp
      · split <;> simp
    have C11 := Lib.hid fun W (A1 A2 : Option Addr) (c1 c2 : Nat) (h : GM w x t args regs A bs c W) (h1 : Sees W W.heap.size A1 (ints (succs t))) (h2 : Sees W W.heap.size A2 (ints (succs t))) => (numbers_at W.heap.size (succs t) (succs t) _ _ c1 c2 true rfl rfl h1 h2 (by omega) (by omega) (sameI_self _)).mono fun e w' ⟨he, hb⟩ => (⟨he, h.next (below_drewN hb)⟩ : e = _ ∧ GM w x t args regs A bs c w')
    generalize (succs t).length = sl at *
    generalize eF args regs bs = v1 at *
    generalize eI x a3 = v2 at *
    generalize eT t a3 a4 = v3 at *
    generalize codeN bs = v4 at *
    clear hsl hn HF
    go_wp2_with fail
    go_region_held3 (fun w' => GM w x t args regs A bs c w' ∧ w'.cell? ⟨w.heap.size, 0, none⟩ = some (.int .i64 args) ∧ w'.cell? ⟨w.heap.size, 1, none⟩ = some (.int .i64 regs) ∧ w'.cell? ⟨w.heap.size, 2, none⟩ = some (.slice A bs.length c) ∧
        w'.cell? ⟨w.heap.size + 1, 0, none⟩ = some (.int .i64 x.op) ∧ w'.cell? ⟨w.heap.size + 1, 1, none⟩ = some (.int .i64 x.d) ∧ w'.cell? ⟨w.heap.size + 1, 2, none⟩ = some (.int .i64 x.a) ∧ w'.cell? ⟨w.heap.size + 1, 3, none⟩ = some (.int .i64 x.b) ∧ w'.cell? ⟨w.heap.size + 1, 4, none⟩ = some (.int .i64 x.imm) ∧
        w'.cell? ⟨w.heap.size + 1 + 1, 0, none⟩ = some (.int .i64 t.kind) ∧ w'.cell? ⟨w.heap.size + 1 + 1, 1, none⟩ = some (.int .i64 t.a) ∧ w'.cell? ⟨w.heap.size + 1 + 1, 2, none⟩ = some (.int .i64 t.to) ∧ w'.cell? ⟨w.heap.size + 1 + 1, 3, none⟩ = some (.int .i64 t.el)) (first | exact hG.cells | exact hG.drew.cells | exact (hG.drewN _).cells) (first
      | (go_at_call 9; go_must ((with_reducible refine (C1.out _ (by first | exact hG | exact hG.drew | exact hG.drewN _)).mono ?_); rintro e W3 ⟨rfl, hG⟩))
      | (go_at_call 10; go_must ((with_reducible refine (C2.out _ (by first | exact hG | exact hG.drew | exact hG.drewN _)).mono ?_); rintro e W3 ⟨rfl, hG⟩))
      | (go_at_call 11; go_must ((with_reducible refine (C3.out _ (by first | exact hG | exact hG.drew | exact hG.drewN _)).mono ?_); rintro e W3 ⟨rfl, hG⟩))
      | (go_at_call 12; go_must ((with_reducible refine (C4.out _ (by first | exact hG | exact hG.drew | exact hG.drewN _)).mono ?_); rintro e W3 ⟨rfl, hG⟩))
      | (go_at_call 13; go_must ((with_reducible refine (C5.out _ (by first | exact hG | exact hG.drew | exact hG.drewN _)).mono ?_); rintro e W3 ⟨rfl, hG⟩))
      | (go_at_call 14; go_must ((with_reducible refine (C6.out _ (by first | exact hG | exact hG.drew | exact hG.drewN _)).mono ?_); rintro e W3 ⟨rfl, hG⟩))
      | (go_at_call 15; go_must ((with_reducible refine (C7.out _ (by first | exact hG | exact hG.drew | exact hG.drewN _)).mono ?_); rintro e W3 ⟨rfl, hG⟩))
      | (go_at_call 16; go_must ((with_reducible refine (C8.out _ (by first | exact hG | exact hG.drew | exact hG.drewN _)).mono ?_); rintro e W3 ⟨rfl, hG⟩))
      | (go_at_call 18; go_must ((with_reducible refine (C9.out _ (by first | exact hG | exact hG.drew | exact hG.drewN _)).mono ?_); rintro e W3 ⟨A1, c1, rfl, hG, hs1⟩))
      | (go_at_call 19; go_must ((with_reducible refine (C10.out _ A1 (by first | exact hG | exact hG.drew | exact hG.drewN _) (by first | exact hs1 | exact hs1.drew | exact hs1.drewN _)).mono ?_); rintro e W3 ⟨A2, c2, rfl, hG, hs1, hs2⟩))
      | (go_at_call 17; go_must ((with_reducible refine (C11.out _ A1 A2 c1 c2 (by first | exact hG | exact hG.drew | exact hG.drewN _) (by first | exact hs1 | exact hs1.drew | exact hs1.drewN _) (by first | exact hs2 | exact hs2.drew | exact hs2.drewN _)).mono ?_); rintro e W3 ⟨rfl, hG⟩))
      )
    go_wp2
    go_ret
    exact ⟨rfl, hG.below⟩

end Go.Proofs.Ytddcbdmmjjpbhaa
