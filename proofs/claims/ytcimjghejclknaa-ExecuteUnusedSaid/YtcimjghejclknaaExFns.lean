/-
  The reference's Same and Copy of runs with slots.
-/
import Derived.Test.YtcimjghejclknaaExMem
namespace Go.Proofs.Ytcimjghejclknaa
open Go.RowKit
set_option linter.unusedVariables false

set_option maxRecDepth 100000 in
set_option maxHeartbeats 1000000 in
theorem xsame_any (r : Xn) (B : Nat) (RA SA TA RB SB TB : Option Addr) (rc sc tc rd sd td : Nat) (w : World) (h1 : Sees w B RA (ints r.regs)) (h2 : Sees w B RB (ints r.regs)) (h3 : Sees w B TA (ints r.trace)) (h4 : Sees w B TB (ints r.trace)) (h5 : Sees w B SA (ints r.slots)) (h6 : Sees w B SB (ints r.slots)) (hB : B ≤ w.heap.size) (hr : r.regs.length ≤ maxLen) (hs : r.slots.length ≤ maxLen) (ht : r.trace.length ≤ maxLen) :
    Calls Try.prog 13 #[.agg #[.int .i64 r.st, .int .i64 (r.blk : Int), .int .i64 (r.pos : Int), .int .i64 r.val, .slice RA r.regs.length rc, .slice SA r.slots.length sc, .slice TA r.trace.length tc, .int .i64 (r.steps : Int)], .agg #[.int .i64 r.st, .int .i64 (r.blk : Int), .int .i64 (r.pos : Int), .int .i64 r.val, .slice RB r.regs.length rd, .slice SB r.slots.length sd, .slice TB r.trace.length td, .int .i64 (r.steps : Int)]] w fun e w' => e = .returned (.bool true) ∧ Below w.heap.size w w' := by
  obtain ⟨st, blk, pos, val, regs, sl, tr, steps⟩ := r
  dsimp only at *
  have hA := Row.new w 29 #[.int .i64 st, .int .i64 (blk : Int), .int .i64 (pos : Int), .int .i64 val, .slice RA regs.length rc, .slice SA sl.length sc, .slice TA tr.length tc, .int .i64 (steps : Int)]
  have hA2 := hA.alloc (.cells #[.int .i64 st, .int .i64 (blk : Int), .int .i64 (pos : Int), .int .i64 val, .slice RB regs.length rd, .slice SB sl.length sd, .slice TB tr.length td, .int .i64 (steps : Int)] 29)
  have hC := Row.new' (W := w.alloc (.cells #[.int .i64 st, .int .i64 (blk : Int), .int .i64 (pos : Int), .int .i64 val, .slice RA regs.length rc, .slice SA sl.length sc, .slice TA tr.length tc, .int .i64 (steps : Int)] 29)) (p := w.heap.size + 1) (by simp) 29 #[.int .i64 st, .int .i64 (blk : Int), .int .i64 (pos : Int), .int .i64 val, .slice RB regs.length rd, .slice SB sl.length sd, .slice TB tr.length td, .int .i64 (steps : Int)]
  have HB := Lib.hid (((Below.refl w.heap.size w).alloc (Nat.le_refl _) (.cells #[.int .i64 st, .int .i64 (blk : Int), .int .i64 (pos : Int), .int .i64 val, .slice RA regs.length rc, .slice SA sl.length sc, .slice TA tr.length tc, .int .i64 (steps : Int)] 29)).alloc (by simp) (.cells #[.int .i64 st, .int .i64 (blk : Int), .int .i64 (pos : Int), .int .i64 val, .slice RB regs.length rd, .slice SB sl.length sd, .slice TB tr.length td, .int .i64 (steps : Int)] 29))
  have h1' := (h1.more hB).below HB.out; have h2' := (h2.more hB).below HB.out; have h3' := (h3.more hB).below HB.out; have h4' := (h4.more hB).below HB.out; have h5' := (h5.more hB).below HB.out; have h6' := (h6.more hB).below HB.out
  clear h1 h2 h3 h4 h5 h6 hA
  go_enter Try.func13, Try.ntmps13
  go_wp2_with fail
  generalize ((w.alloc (.cells #[.int .i64 st, .int .i64 (blk : Int), .int .i64 (pos : Int), .int .i64 val, .slice RA regs.length rc, .slice SA sl.length sc, .slice TA tr.length tc, .int .i64 (steps : Int)] 29)).alloc (.cells #[.int .i64 st, .int .i64 (blk : Int), .int .i64 (pos : Int), .int .i64 val, .slice RB regs.length rd, .slice SB sl.length sd, .slice TB tr.length td, .int .i64 (steps : Int)] 29)) = W0 at *
  have a4 := hA2.cell 4; have a5 := hA2.cell 5; have a6 := hA2.cell 6; have c4 := hC.cell 4; have c5 := hC.cell 5; have c6 := hC.cell 6
  simp only [List.getElem?_toArray, List.getElem?_cons_zero, List.getElem?_cons_succ] at a4 a5 a6 c4 c5 c6
  have C1 := Lib.hid (vals_at (W := W0) w.heap.size regs regs.length rc rd rfl h1' h2' hr)
  have C2 := Lib.hid fun n => vals_at (W := W0.drewN n) w.heap.size sl sl.length sc sd rfl (h5'.drewN n) (h6'.drewN n) hs
  have C3 := Lib.hid fun n => vals_at (W := W0.drewN n) w.heap.size tr tr.length tc td rfl (h3'.drewN n) (h4'.drewN n) ht
  clear h1' h2' h3' h4' h5' h6' hA2 hC
  refine C1.out.mono ?_
  rintro e W1 ⟨rfl, k1, rfl⟩
  go_wp2_with fail
  refine (C2.out _).mono ?_
  rintro e W1 ⟨rfl, k2, rfl⟩
  rw [World.drewN_drewN]
  go_wp2_with fail
  refine (C3.out _).mono ?_
  rintro e W1 ⟨rfl, k3, rfl⟩
  rw [World.drewN_drewN]
  go_wp2
  go_ret
  exact ⟨rfl, blw_drewN HB.out _⟩

end Go.Proofs.Ytcimjghejclknaa
