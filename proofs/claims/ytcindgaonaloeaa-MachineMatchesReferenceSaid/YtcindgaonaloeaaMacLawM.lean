/-
  The walk of the statement that layer 8 returns what the reference returns.
-/
import Derived.Test.YtcindgaonaloeaaMacAwake
import Derived.Test.YtcindgaonaloeaaMacFew
import Derived.Test.YtcindgaonaloeaaMacIn
import Derived.Test.YtcindgaonaloeaaMacRchk
namespace Go.Proofs.Ytcindgaonaloeaa
open Go.RowKit
set_option linter.unusedVariables false

/-- What the statement carries from call to call: its arguments' boxes, and the function's blocks. -/
structure GM (w : World) (x : Mi) (args regs slots : Int) (A : Option Addr) (bs : List MBlk) (c : Nat) (W : World) : Prop where
  below : Below w.heap.size w W
  f : Row W w.heap.size 24 #[.int .i64 args, .int .i64 regs, .int .i64 slots, .slice A bs.length c]
  i : Row W (w.heap.size + 1) 27 #[.int .i64 x.op, .int .i64 x.d, .int .i64 x.a, .int .i64 x.b, .int .i64 x.imm, .int .i64 x.dst, .int .i64 x.src]
  b : MBlksAt W w.heap.size A bs
section
variable {w : World} {x : Mi} {args regs slots : Int} {A : Option Addr} {bs : List MBlk} {c : Nat} {W W' : World}
theorem GM.next (h : GM w x args regs slots A bs c W) (hb : Below W.heap.size W W') : GM w x args regs slots A bs c W' :=
  ⟨h.below.trans (hb.mono h.below.size), h.f.below hb h.f.lt, h.i.below hb h.i.lt, h.b.below (hb.mono h.below.size)⟩
theorem GM.drewN (h : GM w x args regs slots A bs c W) (n : Nat) : GM w x args regs slots A bs c (W.drewN n) := h.next (blw_drew W n)
theorem GM.drew (h : GM w x args regs slots A bs c W) : GM w x args regs slots A bs c W.drew := h.drewN 1
/-- The cells that the statement's last line loads. -/
def GM.S (w : World) (x : Mi) (args regs slots : Int) (A : Option Addr) (bs : List MBlk) (c : Nat) (W : World) : Prop :=
  GM w x args regs slots A bs c W ∧ W.cell? ⟨w.heap.size, 0, none⟩ = some (.int .i64 args) ∧ W.cell? ⟨w.heap.size, 1, none⟩ = some (.int .i64 regs) ∧ W.cell? ⟨w.heap.size, 2, none⟩ = some (.int .i64 slots) ∧ W.cell? ⟨w.heap.size, 3, none⟩ = some (.slice A bs.length c) ∧
  W.cell? ⟨w.heap.size + 1, 0, none⟩ = some (.int .i64 x.op) ∧ W.cell? ⟨w.heap.size + 1, 1, none⟩ = some (.int .i64 x.d) ∧ W.cell? ⟨w.heap.size + 1, 2, none⟩ = some (.int .i64 x.a) ∧ W.cell? ⟨w.heap.size + 1, 3, none⟩ = some (.int .i64 x.b) ∧ W.cell? ⟨w.heap.size + 1, 4, none⟩ = some (.int .i64 x.imm) ∧ W.cell? ⟨w.heap.size + 1, 5, none⟩ = some (.int .i64 x.dst) ∧ W.cell? ⟨w.heap.size + 1, 6, none⟩ = some (.int .i64 x.src)
theorem GM.cells (h : GM w x args regs slots A bs c W) : GM.S w x args regs slots A bs c W :=
  ⟨h, h.f.cell 0, h.f.cell 1, h.f.cell 2, h.f.cell 3, h.i.cell 0, h.i.cell 1, h.i.cell 2, h.i.cell 3, h.i.cell 4, h.i.cell 5, h.i.cell 6⟩
/-- The first block's code, as the statement loads it. -/
def GM.T (w : World) (x : Mi) (args regs slots : Int) (A : Option Addr) (bs : List MBlk) (c : Nat) (b o : Nat) (A1 : Option Addr) (y : MBlk) (c1 : Nat) (W : World) : Prop :=
  GM w x args regs slots A bs c W ∧ W.cell? ⟨w.heap.size, 3, none⟩ = some (.slice A bs.length c) ∧ W.cell? ⟨b, o, none⟩ = some (.slice A1 y.code.length c1) ∧ MisAt W w.heap.size A1 y.code
theorem GM.first (h : GM w x args regs slots A bs c W) (h0 : 0 < bs.length) : ∃ b o A1 c1, A = some ⟨b, o, none⟩ ∧ b < w.heap.size ∧ c1 ≤ maxLen ∧ bs[0].code.length ≤ c1 ∧ GM.T w x args regs slots A bs c b o A1 bs[0] c1 W := by
  obtain ⟨b, o, e, hb, hat⟩ := h.b.at_ h0
  obtain ⟨A1, c1, h1, h2, h3, h4⟩ := hat.code
  rw [Nat.zero_mul, Nat.add_zero] at h1
  exact ⟨b, o, A1, c1, e, hb, h3, h2, h, h.f.cell 3, h1, h4⟩
theorem GM.tnext {b o c1 : Nat} {A1 : Option Addr} {y : MBlk} (h : GM.T w x args regs slots A bs c b o A1 y c1 W) (hb : b < w.heap.size) (hw : Below W.heap.size W W') : GM.T w x args regs slots A bs c b o A1 y c1 W' :=
  ⟨h.1.next hw, (h.1.next hw).f.cell 3, (hw.cell (p := ⟨b, o, none⟩) (Nat.lt_of_lt_of_le hb h.1.below.size)).trans h.2.2.1, h.2.2.2.below (hw.mono h.1.below.size)⟩
theorem GM.tdrewN {b o c1 : Nat} {A1 : Option Addr} {y : MBlk} (hb : b < w.heap.size) (n : Nat) (h : GM.T w x args regs slots A bs c b o A1 y c1 W) : GM.T w x args regs slots A bs c b o A1 y c1 (W.drewN n) := GM.tnext h hb (blw_drew _ n)
theorem GM.tdrew {b o c1 : Nat} {A1 : Option Addr} {y : MBlk} (hb : b < w.heap.size) (h : GM.T w x args regs slots A bs c b o A1 y c1 W) : GM.T w x args regs slots A bs c b o A1 y c1 W.drew := GM.tdrewN hb 1 h
theorem moves_gt {b o c1 : Nat} {A1 : Option Addr} {y : MBlk} (hb : b < w.heap.size) (hl : y.code.length ≤ 1000000) (W : World) (h : GM.T w x args regs slots A bs c b o A1 y c1 W) :
    Calls Try.prog 9 #[.slice A1 y.code.length c1] W fun e w' => e = .returned (.int .i64 (mvs y.code : Nat)) ∧ GM.T w x args regs slots A bs c b o A1 y c1 w' :=
  (moves_any w.heap.size A1 y.code c1 W h.2.2.2 h.1.below.size hl).mono fun e w' ⟨he, hw⟩ => ⟨he, GM.tnext h hb hw⟩
theorem rmoves_gt {b o c1 : Nat} {A1 : Option Addr} {y : MBlk} (hb : b < w.heap.size) (hl : y.code.length ≤ 1000000) (W : World) (h : GM.T w x args regs slots A bs c b o A1 y c1 W) :
    Calls Try.prog 10 #[.slice A1 y.code.length c1] W fun e w' => e = .returned (.int .i64 (mvs y.code : Nat)) ∧ GM.T w x args regs slots A bs c b o A1 y c1 w' :=
  (rmoves_any w.heap.size A1 y.code c1 W h.2.2.2 hl).mono fun e w' ⟨he, hw⟩ => ⟨he, GM.tnext h hb (hw ▸ Below.refl _ _)⟩
end

set_option maxRecDepth 100000 in
set_option maxHeartbeats 8000000 in
theorem MachineMatchesReference_walk (a0 a1 : Array Value) (a2 a3 : Int) (w : World) (w0 : IsMFn w a0) (w1 : IsMi w a1) (_ : (Lit.int .i64 a2).wf = true) (_ : (Lit.int .i64 a3).wf = true) :
    Calls Try.prog 3 #[.agg a0, .agg a1, .int .i64 a2, .int .i64 a3] w fun e w' => e = .returned (.bool true) ∧ Below w.heap.size w w' := by
  obtain ⟨args, regs, slots, A, bs, c, rfl, _, _, _, hbl, hbm, hs, _⟩ := w0
  obtain ⟨x, rfl, hx⟩ := w1
  have hbl2 : bs.length ≤ maxLen := Nat.le_trans hbl hbm
  have HOK := Lib.hid hx.ok
  have hG0 : GM w x args regs slots A bs c ((w.alloc (.cells #[.int .i64 args, .int .i64 regs, .int .i64 slots, .slice A bs.length c] 24)).alloc (.cells #[.int .i64 x.op, .int .i64 x.d, .int .i64 x.a, .int .i64 x.b, .int .i64 x.imm, .int .i64 x.dst, .int .i64 x.src] 27)) := {
    below := ((Below.refl w.heap.size w).alloc (Nat.le_refl _) _).alloc (by simp) _
    f := (Row.new w _ _).alloc _
    i := Row.new' (p := w.heap.size + 1) (by simp) _ _
    b := (hs.alloc (Nat.le_refl _) _).alloc (by simp) _ }
  clear hx
  go_enter Try.func3, Try.ntmps3
  go_wp2_with fail
  refine (awake_any _).mono ?_
  rintro e W1 ⟨rfl, hb⟩
  have hG1 := hG0.next hb
  clear hb hG0 hbl hbm hs
  obtain ⟨_, d0, d1, d2, d3, _⟩ := hG1.cells
  have HG1 := Lib.hid hG1
  clear hG1
  go_wp2_with fail
  refine (rmfew_any w.heap.size A bs c args regs slots _ HG1.out.b HG1.out.below.size hbl2).mono ?_
  rintro e W2 ⟨⟨b, rfl, hf⟩, hb⟩
  have hG := HG1.out.next hb
  clear hb HG1 d0 d1 d2 d3 hbl2
  cases b
  · clear hf
    go_wp2_with fail
    refine (awake_any _).mono ?_
    rintro e W3 ⟨rfl, hb⟩
    have HB3 := Lib.hid (hG.next hb).below
    clear hb hG
    go_wp2
    go_ret
    exact ⟨rfl, HB3.out⟩
  · have HF := Lib.hid (hf rfl)
    clear hf
    have hm : bs.length ≤ 1000 := by have := HF.out.1; omega
    have hn : mcodeN bs ≤ 1000000 := by have := HF.out.2.2.2; omega
    have d3 := hG.f.cell 3
    simp only [List.getElem?_toArray, List.getElem?_cons_zero, List.getElem?_cons_succ] at d3
    have hlz : w.heap.size < W2.heap.size := hG.f.lt
    have HG := Lib.hid hG
    clear hG
    go_upto_if 21 with fail
    go_cut [9] from 18 (fun s9 wx => s9 = .int .i64 0 ∧ Hid (GM w x args regs slots A bs c wx))
    case first =>
      rcases Nat.eq_zero_or_pos bs.length with h0 | h0
      · have h0' : ¬ (0 : Int) < bs.length := by omega
        clear h0
        go_wp2
        go_meet
        case rel => exact ⟨rfl, HG.out⟩
      · have h0' : (0 : Int) < bs.length := by omega
        obtain ⟨b, o, A1, c1, rfl, hb, hc1, hc2, hT⟩ := HG.out.first h0
        have hyl : bs[0].code.length ≤ 1000000 := by have := mcodeN_mem bs 0 h0; omega
        have C1 := Lib.hid (moves_gt (x := x) (w := w) (args := args) (regs := regs) (slots := slots) (A := some ⟨b, o, none⟩) (bs := bs) (c := c) (b := b) (o := o) (A1 := A1) (y := bs[0]) (c1 := c1) hb hyl)
        have C2 := Lib.hid (rmoves_gt (x := x) (w := w) (args := args) (regs := regs) (slots := slots) (A := some ⟨b, o, none⟩) (bs := bs) (c := c) (b := b) (o := o) (A1 := A1) (y := bs[0]) (c1 := c1) hb hyl)
        have hq : mvs bs[0].code ≤ 1000000 := by have := mvs_le bs[0].code; omega
        generalize mvs bs[0].code = q at *
        have hlb : b < W2.heap.size := by omega
        clear HG d3
        have hG := hT
        have HC1 := Lib.hid hT.2.2.1
        have d0 := hT.2.2.1
        have d3 := hT.2.1
        clear hT hyl
        generalize bs[0] = y at *
        go_wp2_with fail
        go_region_held3 (fun w' => GM.T w x args regs slots (some ⟨b, o, none⟩) bs c b o A1 y c1 w' ∧ w'.cell? ⟨w.heap.size, 3, none⟩ = some (.slice (some ⟨b, o, none⟩) bs.length c) ∧ w'.cell? ⟨b, o, none⟩ = some (.slice A1 y.code.length c1)) (first | exact ⟨hG, hG.2.1, hG.2.2.1⟩ | exact ⟨GM.tdrew hb hG, hG.2.1, hG.2.2.1⟩ | exact ⟨GM.tdrewN hb _ hG, hG.2.1, hG.2.2.1⟩) (first
          | (go_at_call 9; go_must ((with_reducible refine (C1.out _ (by first | exact hG | exact GM.tdrew hb hG | exact GM.tdrewN hb _ hG)).mono ?_); rintro e W3 ⟨rfl, hG⟩))
          | (go_at_call 10; go_must ((with_reducible refine (C2.out _ (by first | exact hG | exact GM.tdrew hb hG | exact GM.tdrewN hb _ hG)).mono ?_); rintro e W3 ⟨rfl, hG⟩))
          )
        have HG := Lib.hid hG.1
        clear hG d0 d3
        go_wp2
        go_meet
        case rel => exact ⟨rfl, HG.out⟩
    case rest =>
      obtain ⟨rfl, HG2⟩ := hcut
      clear HG d3
      have hG := HG2.out
      have C1 := Lib.hid fun W (h : GM w x args regs slots A bs c W) => (mcheck_any w.heap.size A bs c args regs slots W h.b h.below.size hm hn).mono fun e w' ⟨he, hb⟩ => (⟨he, h.next hb⟩ : e = _ ∧ GM w x args regs slots A bs c w')
      have C2 := Lib.hid fun W (h : GM w x args regs slots A bs c W) => (rmcheck_any w.heap.size A bs c args regs slots W h.b h.below.size hm hn).mono fun e w' ⟨he, hb⟩ => (⟨he, h.next hb⟩ : e = _ ∧ GM w x args regs slots A bs c w')
      have C3 := Lib.hid fun W (h : GM w x args regs slots A bs c W) => (minstr_any x a2 a3 W HOK.out).mono fun e w' ⟨he, hb⟩ => (⟨he, h.next hb⟩ : e = _ ∧ GM w x args regs slots A bs c w')
      have C4 := Lib.hid fun W (h : GM w x args regs slots A bs c W) => (rminstr_any x a2 a3 W HOK.out).mono fun e w' ⟨he, hb⟩ => (⟨he, h.next hb⟩ : e = _ ∧ GM w x args regs slots A bs c w')
      have C5 := Lib.hid fun W (h : GM w x args regs slots A bs c W) => (mcode_any w.heap.size A bs c args regs slots W h.b h.below.size hm hn).mono fun e w' ⟨he, hb⟩ => (⟨he, h.next hb⟩ : e = _ ∧ GM w x args regs slots A bs c w')
      have C6 := Lib.hid fun W (h : GM w x args regs slots A bs c W) => (rmcode_any w.heap.size A bs c args regs slots W h.b h.below.size hm hn).mono fun e w' ⟨he, hb⟩ => (⟨he, h.next hb⟩ : e = _ ∧ GM w x args regs slots A bs c w')
      generalize eMF args regs slots bs = v1 at *
      generalize eM x a2 a3 = v2 at *
      generalize mcodeN bs = v4 at *
      clear hn HF HG2
      go_wp2_with fail
      go_region_held3 (fun w' => GM w x args regs slots A bs c w' ∧ w'.cell? ⟨w.heap.size, 0, none⟩ = some (.int .i64 args) ∧ w'.cell? ⟨w.heap.size, 1, none⟩ = some (.int .i64 regs) ∧ w'.cell? ⟨w.heap.size, 2, none⟩ = some (.int .i64 slots) ∧ w'.cell? ⟨w.heap.size, 3, none⟩ = some (.slice A bs.length c) ∧
          w'.cell? ⟨w.heap.size + 1, 0, none⟩ = some (.int .i64 x.op) ∧ w'.cell? ⟨w.heap.size + 1, 1, none⟩ = some (.int .i64 x.d) ∧ w'.cell? ⟨w.heap.size + 1, 2, none⟩ = some (.int .i64 x.a) ∧ w'.cell? ⟨w.heap.size + 1, 3, none⟩ = some (.int .i64 x.b) ∧ w'.cell? ⟨w.heap.size + 1, 4, none⟩ = some (.int .i64 x.imm) ∧ w'.cell? ⟨w.heap.size + 1, 5, none⟩ = some (.int .i64 x.dst) ∧ w'.cell? ⟨w.heap.size + 1, 6, none⟩ = some (.int .i64 x.src)) (first | exact hG.cells | exact hG.drew.cells | exact (hG.drewN _).cells) (first
        | (go_at_call 11; go_must ((with_reducible refine (C1.out _ (by first | exact hG | exact hG.drew | exact hG.drewN _)).mono ?_); rintro e W3 ⟨rfl, hG⟩))
        | (go_at_call 12; go_must ((with_reducible refine (C2.out _ (by first | exact hG | exact hG.drew | exact hG.drewN _)).mono ?_); rintro e W3 ⟨rfl, hG⟩))
        | (go_at_call 13; go_must ((with_reducible refine (C3.out _ (by first | exact hG | exact hG.drew | exact hG.drewN _)).mono ?_); rintro e W3 ⟨rfl, hG⟩))
        | (go_at_call 14; go_must ((with_reducible refine (C4.out _ (by first | exact hG | exact hG.drew | exact hG.drewN _)).mono ?_); rintro e W3 ⟨rfl, hG⟩))
        | (go_at_call 15; go_must ((with_reducible refine (C5.out _ (by first | exact hG | exact hG.drew | exact hG.drewN _)).mono ?_); rintro e W3 ⟨rfl, hG⟩))
        | (go_at_call 16; go_must ((with_reducible refine (C6.out _ (by first | exact hG | exact hG.drew | exact hG.drewN _)).mono ?_); rintro e W3 ⟨rfl, hG⟩))
        )
      go_wp2
      go_ret
      exact ⟨rfl, hG.below⟩

end Go.Proofs.Ytcindgaonaloeaa
