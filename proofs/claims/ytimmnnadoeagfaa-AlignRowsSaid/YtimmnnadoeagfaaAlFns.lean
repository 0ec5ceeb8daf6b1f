/-
  The functions of layer 13 on single instructions and terminators; == and != of rows, instructions and terminators.
-/
import Derived.Test.YtimmnnadoeagfaaAlMem
import Derived.Laws.StructEq
namespace Go.Proofs.Ytimmnnadoeagfaa
open Go.RowKit
set_option linter.unusedVariables false

set_option maxRecDepth 100000 in
set_option maxHeartbeats 1000000 in
theorem isCopy_any (x : In) (w : World) : Calls Try.prog 21 #[.agg #[.int .i64 x.op, .int .i64 x.d, .int .i64 x.a, .int .i64 x.b, .int .i64 x.imm]] w fun e w' => e = .returned (.bool (isC x)) ∧ Grew w w' := by
  obtain ⟨x0, x1, x2, x3, x4⟩ := x
  dsimp only [isC]
  have HG := Lib.hid ((Grew.refl w).alloc (.cells #[.int .i64 x0, .int .i64 x1, .int .i64 x2, .int .i64 x3, .int .i64 x4] 25))
  go_enter Try.func21, Try.ntmps21
  go_wp2
  go_ret
  exact ⟨rfl, HG.out⟩

set_option maxRecDepth 100000 in
set_option maxHeartbeats 1000000 in
theorem isMove_any (y : Mi) (w : World) : Calls Try.prog 23 #[.agg #[.int .i64 y.op, .int .i64 y.d, .int .i64 y.a, .int .i64 y.b, .int .i64 y.imm, .int .i64 y.dst, .int .i64 y.src]] w fun e w' => e = .returned (.bool (isM y)) ∧ Grew w w' := by
  obtain ⟨y0, y1, y2, y3, y4, y5, y6⟩ := y
  dsimp only [isM]
  have HG := Lib.hid ((Grew.refl w).alloc (.cells #[.int .i64 y0, .int .i64 y1, .int .i64 y2, .int .i64 y3, .int .i64 y4, .int .i64 y5, .int .i64 y6] 28))
  go_enter Try.func23, Try.ntmps23
  go_wp2
  go_ret
  exact ⟨rfl, HG.out⟩

set_option maxRecDepth 100000 in
set_option maxHeartbeats 4000000 in
theorem alsame_any (x : In) (y : Mi) (w : World) : Calls Try.prog 13 #[.agg #[.int .i64 x.op, .int .i64 x.d, .int .i64 x.a, .int .i64 x.b, .int .i64 x.imm], .agg #[.int .i64 y.op, .int .i64 y.d, .int .i64 y.a, .int .i64 y.b, .int .i64 y.imm, .int .i64 y.dst, .int .i64 y.src]] w fun e w' => e = .returned (.bool (smP x y)) ∧ Grew w w' := by
  obtain ⟨x0, x1, x2, x3, x4⟩ := x
  obtain ⟨y0, y1, y2, y3, y4, y5, y6⟩ := y
  dsimp only [smP]
  have HG := Lib.hid (((Grew.refl w).alloc (.cells #[.int .i64 x0, .int .i64 x1, .int .i64 x2, .int .i64 x3, .int .i64 x4] 25)).alloc (.cells #[.int .i64 y0, .int .i64 y1, .int .i64 y2, .int .i64 y3, .int .i64 y4, .int .i64 y5, .int .i64 y6] 28))
  rcases h1 : (x0 == y0) with _ | _ <;> rcases h2 : (x0 != 2) with _ | _ <;> rcases h3 : (x0 != 18) with _ | _ <;> rcases h4 : (x4 == y4) with _ | _ <;>
    (go_enter Try.func13, Try.ntmps13
     go_wp2
     go_ret
     exact ⟨rfl, HG.out⟩)

set_option maxRecDepth 100000 in
set_option maxHeartbeats 4000000 in
theorem ralsame_any (x : In) (y : Mi) (w : World) : Calls Try.prog 14 #[.agg #[.int .i64 x.op, .int .i64 x.d, .int .i64 x.a, .int .i64 x.b, .int .i64 x.imm], .agg #[.int .i64 y.op, .int .i64 y.d, .int .i64 y.a, .int .i64 y.b, .int .i64 y.imm, .int .i64 y.dst, .int .i64 y.src]] w fun e w' => e = .returned (.bool (smP x y)) ∧ Grew w w' := by
  obtain ⟨x0, x1, x2, x3, x4⟩ := x
  obtain ⟨y0, y1, y2, y3, y4, y5, y6⟩ := y
  dsimp only [smP]
  have HG := Lib.hid (((Grew.refl w).alloc (.cells #[.int .i64 x0, .int .i64 x1, .int .i64 x2, .int .i64 x3, .int .i64 x4] 25)).alloc (.cells #[.int .i64 y0, .int .i64 y1, .int .i64 y2, .int .i64 y3, .int .i64 y4, .int .i64 y5, .int .i64 y6] 28))
  rcases h1 : (x0 == y0) with _ | _ <;> rcases h2 : (x0 != 2) with _ | _ <;> rcases h3 : (x0 != 18) with _ | _ <;> rcases h4 : (x4 == y4) with _ | _ <;>
    (go_enter Try.func14, Try.ntmps14
     go_wp2
     go_ret
     exact ⟨rfl, HG.out⟩)

/-- Whether two terminators correspond. -/
def tmP (a b : Tm) : Bool := a.kind == b.kind && a.to == b.to && a.el == b.el

set_option maxRecDepth 100000 in
set_option maxHeartbeats 4000000 in
theorem terms_any (a b : Tm) (w : World) : Calls Try.prog 15 #[.agg #[.int .i64 a.kind, .int .i64 a.a, .int .i64 a.to, .int .i64 a.el], .agg #[.int .i64 b.kind, .int .i64 b.a, .int .i64 b.to, .int .i64 b.el]] w fun e w' => e = .returned (.bool (tmP a b)) ∧ Grew w w' := by
  obtain ⟨x0, x1, x2, x3⟩ := a
  obtain ⟨y0, y1, y2, y3⟩ := b
  dsimp only [tmP]
  have HG := Lib.hid (((Grew.refl w).alloc (.cells #[.int .i64 x0, .int .i64 x1, .int .i64 x2, .int .i64 x3] 30)).alloc (.cells #[.int .i64 y0, .int .i64 y1, .int .i64 y2, .int .i64 y3] 30))
  rcases h1 : (x0 == y0) with _ | _ <;> rcases h2 : (x2 == y2) with _ | _ <;> rcases h3 : (x3 == y3) with _ | _ <;>
    (go_enter Try.func15, Try.ntmps15
     go_wp2
     go_ret
     exact ⟨rfl, HG.out⟩)

theorem eq_tm (a b : Tm) (w : World) : (binOp .eql 30 (.agg #[.int .i64 a.kind, .int .i64 a.a, .int .i64 a.to, .int .i64 a.el]) (.agg #[.int .i64 b.kind, .int .i64 b.a, .int .i64 b.to, .int .i64 b.el])).run Try.prog w = .ok (.bool (a.kind == b.kind && a.a == b.a && a.to == b.to && a.el == b.el)) w := by
  have u3 := Try.underlying3
  have a3 := Try.isAgg3
  have z3 := Try.sizeOf3
  have hS : Try.prog.underlying 30 = some (.struct (Try.prog.fieldsOf 30)) := by kernel_rfl
  have hp : Try.prog.stoodInHeld 30 = false := by kernel_rfl
  rw [run_eql_struct, show (10000 : Nat) = 9999 + 1 from rfl, run_equalIn_agg w 9999 30 _ _ hS hp]
  simp only [Program.fieldsOf, Try.underlying30]
  obtain ⟨x0, x1, x2, x3⟩ := a
  obtain ⟨y0, y1, y2, y3⟩ := b
  go_simp
  by_cases h0 : x0 = y0 <;> by_cases h1 : x1 = y1 <;> by_cases h2 : x2 = y2 <;> by_cases h3 : x3 = y3 <;> simp [h0, h1, h2, h3]

set_option maxRecDepth 100000 in
set_option maxHeartbeats 4000000 in
theorem rterms_any (a b : Tm) (w : World) : Calls Try.prog 16 #[.agg #[.int .i64 a.kind, .int .i64 a.a, .int .i64 a.to, .int .i64 a.el], .agg #[.int .i64 b.kind, .int .i64 b.a, .int .i64 b.to, .int .i64 b.el]] w fun e w' => e = .returned (.bool (tmP a b)) ∧ Grew w w' := by
  have hq := fun W => eq_tm { a with a := 0 } { b with a := 0 } W
  have HE : Hid (((a.kind == b.kind && (0 : Int) == 0 && a.to == b.to && a.el == b.el)) = tmP a b) := by
    show _ = _
    simp [tmP]
  obtain ⟨x0, x1, x2, x3⟩ := a
  obtain ⟨y0, y1, y2, y3⟩ := b
  dsimp only at hq HE ⊢
  have HG := Lib.hid (((Grew.refl w).alloc (.cells #[.int .i64 x0, .int .i64 0, .int .i64 x2, .int .i64 x3] 30)).alloc (.cells #[.int .i64 y0, .int .i64 0, .int .i64 y2, .int .i64 y3] 30))
  generalize ((x0 == y0 && (0 : Int) == 0 && x2 == y2 && x3 == y3)) = bb at *
  go_enter Try.func16, Try.ntmps16
  go_wp2
  go_ret
  rw [HE.out]
  exact ⟨rfl, HG.out⟩

/-- Whether two rows are the same. -/
def rwS (a b : Rw) : Bool := a.cf == b.cf && a.ct == b.ct && a.mf == b.mf && a.mt == b.mt && a.s == b.s && a.m == b.m
theorem rwS_refl (a : Rw) : rwS a a = true := by simp [rwS]

theorem eq_rw (a b : Rw) (w : World) : (binOp .eql 45 (.agg #[.int .i64 a.cf, .int .i64 a.ct, .int .i64 a.mf, .int .i64 a.mt, .int .i64 a.s, .int .i64 a.m]) (.agg #[.int .i64 b.cf, .int .i64 b.ct, .int .i64 b.mf, .int .i64 b.mt, .int .i64 b.s, .int .i64 b.m])).run Try.prog w = .ok (.bool (rwS a b)) w := by
  have u3 := Try.underlying3
  have a3 := Try.isAgg3
  have z3 := Try.sizeOf3
  have hS : Try.prog.underlying 45 = some (.struct (Try.prog.fieldsOf 45)) := by kernel_rfl
  have hp : Try.prog.stoodInHeld 45 = false := by kernel_rfl
  rw [run_eql_struct, show (10000 : Nat) = 9999 + 1 from rfl, run_equalIn_agg w 9999 45 _ _ hS hp]
  simp only [Program.fieldsOf, Try.underlying45]
  obtain ⟨x0, x1, x2, x3, x4, x5⟩ := a
  obtain ⟨y0, y1, y2, y3, y4, y5⟩ := b
  dsimp only [rwS]
  go_simp
  by_cases h0 : x0 = y0 <;> by_cases h1 : x1 = y1 <;> by_cases h2 : x2 = y2 <;> by_cases h3 : x3 = y3 <;> by_cases h4 : x4 = y4 <;> by_cases h5 : x5 = y5 <;> simp [h0, h1, h2, h3, h4, h5]

theorem neq_rw (a b : Rw) (w : World) : (binOp .neq 55 (.agg #[.int .i64 a.cf, .int .i64 a.ct, .int .i64 a.mf, .int .i64 a.mt, .int .i64 a.s, .int .i64 a.m]) (.agg #[.int .i64 b.cf, .int .i64 b.ct, .int .i64 b.mf, .int .i64 b.mt, .int .i64 b.s, .int .i64 b.m])).run Try.prog w = .ok (.bool (!rwS a b)) w := by
  have u3 := Try.underlying3
  have a3 := Try.isAgg3
  have z3 := Try.sizeOf3
  have hS : Try.prog.underlying 55 = some (.struct (Try.prog.fieldsOf 55)) := by kernel_rfl
  have hp : Try.prog.stoodInHeld 55 = false := by kernel_rfl
  rw [run_neq_struct, show (10000 : Nat) = 9999 + 1 from rfl, run_equalIn_agg w 9999 55 _ _ hS hp]
  simp only [Program.fieldsOf, Try.underlying55]
  obtain ⟨x0, x1, x2, x3, x4, x5⟩ := a
  obtain ⟨y0, y1, y2, y3, y4, y5⟩ := b
  dsimp only [rwS]
  go_simp
  by_cases h0 : x0 = y0 <;> by_cases h1 : x1 = y1 <;> by_cases h2 : x2 = y2 <;> by_cases h3 : x3 = y3 <;> by_cases h4 : x4 = y4 <;> by_cases h5 : x5 = y5 <;> simp [h0, h1, h2, h3, h4, h5]

/-- Whether two machine instructions are the same. -/
def miS (a b : Mi) : Bool := a.op == b.op && a.d == b.d && a.a == b.a && a.b == b.b && a.imm == b.imm && a.dst == b.dst && a.src == b.src

theorem eq_mi (a b : Mi) (w : World) : (binOp .eql 28 (.agg #[.int .i64 a.op, .int .i64 a.d, .int .i64 a.a, .int .i64 a.b, .int .i64 a.imm, .int .i64 a.dst, .int .i64 a.src]) (.agg #[.int .i64 b.op, .int .i64 b.d, .int .i64 b.a, .int .i64 b.b, .int .i64 b.imm, .int .i64 b.dst, .int .i64 b.src])).run Try.prog w = .ok (.bool (miS a b)) w := by
  have u3 := Try.underlying3
  have a3 := Try.isAgg3
  have z3 := Try.sizeOf3
  have u4 := Try.underlying2
  have a4 := Try.isAgg2
  have z4 := Try.sizeOf2
  have u5 := Try.underlying26
  have a5 := Try.isAgg26
  have z5 := Try.sizeOf26
  have hS : Try.prog.underlying 28 = some (.struct (Try.prog.fieldsOf 28)) := by kernel_rfl
  have hp : Try.prog.stoodInHeld 28 = false := by kernel_rfl
  rw [run_eql_struct, show (10000 : Nat) = 9999 + 1 from rfl, run_equalIn_agg w 9999 28 _ _ hS hp]
  simp only [Program.fieldsOf, Try.underlying28]
  obtain ⟨x0, x1, x2, x3, x4, x5, x6⟩ := a
  obtain ⟨y0, y1, y2, y3, y4, y5, y6⟩ := b
  dsimp only [miS]
  go_simp
  by_cases h0 : x0 = y0 <;> by_cases h1 : x1 = y1 <;> by_cases h2 : x2 = y2 <;> by_cases h3 : x3 = y3 <;> by_cases h4 : x4 = y4 <;> by_cases h5 : x5 = y5 <;> by_cases h6 : x6 = y6 <;> simp [h0, h1, h2, h3, h4, h5, h6]

end Go.Proofs.Ytimmnnadoeagfaa
