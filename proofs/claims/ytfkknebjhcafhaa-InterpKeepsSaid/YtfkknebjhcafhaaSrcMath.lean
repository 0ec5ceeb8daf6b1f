/-
  What layer 7 answers, as functions on data.
-/
import Derived.Test.YtfkknebjhcafhaaFn
import Derived.Test.YtfkknebjhcafhaaOpcMath
namespace Go.Proofs.Ytfkknebjhcafhaa
open Go.RowKit

abbrev Fld := Bool × Int
def Fld.cells (f : Fld) : List Value := [.bool f.1, .int .i64 f.2]
def fR (n : Int) (f : Fld) : Bool := !(f.1 && (decide (f.2 < 0) || decide (n ≤ f.2)))
def fZ (f : Fld) : Bool := !(!f.1 && f.2 != 0)
def okR (n : Int) (fs : List Fld) : Bool := fs.all (fR n)
def okZ (fs : List Fld) : Bool := fs.all fZ

def srcO (op : Int) : Bool := uO op && !(op == 18)
def In.regF (x : In) : List Fld := [(uD x.op, x.d), (uA x.op, x.a), (uB x.op, x.b)]
def In.allF (x : In) : List Fld := [(uD x.op, x.d), (uA x.op, x.a), (uB x.op, x.b), (uI x.op, x.imm)]
/-- The error of an instruction. -/
def eI (x : In) (regs : Int) : Int := if srcO x.op then if okR regs x.regF then if okZ x.allF then 0 else 12 else 9 else 8

def kO (k : Int) : Bool := k == 1 || k == 2 || k == 3
def Tm.aF (t : Tm) : List Fld := [(t.kind != 1, t.a)]
def Tm.toF (t : Tm) : List Fld := [(t.kind != 3, t.to), (t.kind == 2, t.el)]
def Tm.allF (t : Tm) : List Fld := [(t.kind != 1, t.a), (t.kind != 3, t.to), (t.kind == 2, t.el)]
/-- The error of a terminator. -/
def eT (t : Tm) (regs blocks : Int) : Int := if kO t.kind then if okR regs t.aF then if okR blocks t.toF then if okZ t.allF then 0 else 12 else 11 else 9 else 16

def succs (t : Tm) : List Int := if t.kind = 1 then [t.to] else if t.kind = 2 then [t.to, t.el] else []

/-- The number of instructions. -/
def codeN (bs : List Blk) : Nat := (bs.map fun b => b.code.length).sum
theorem codeN_nil : codeN [] = 0 := rfl
theorem codeN_cons (b : Blk) (bs : List Blk) : codeN (b :: bs) = b.code.length + codeN bs := by simp [codeN]
theorem codeN_append (a b : List Blk) : codeN (a ++ b) = codeN a + codeN b := by rw [codeN, List.map_append, List.sum_append]; rfl
theorem codeN_step (bs : List Blk) (k : Nat) (h : k < bs.length) : codeN (bs.take (k + 1)) = codeN (bs.take k) + bs[k].code.length := by
  rw [List.take_succ_eq_append_getElem h, codeN_append, codeN_cons, codeN_nil, Nat.add_zero]
theorem codeN_take (bs : List Blk) (k : Nat) : codeN (bs.take k) ≤ codeN bs := by
  have : codeN bs = codeN (bs.take k) + codeN (bs.drop k) := by rw [← codeN_append, List.take_append_drop]
  omega
theorem codeN_mem (bs : List Blk) (k : Nat) (h : k < bs.length) : bs[k].code.length ≤ codeN bs := by
  have := codeN_step bs k h
  have := codeN_take bs (k + 1)
  omega

/-- The first error of instructions, and of a block; of blocks. -/
def eIs (regs : Int) : List In → Int
  | [] => 0
  | x :: r => if eI x regs = 0 then eIs regs r else eI x regs
def eB (x : Blk) (regs n : Int) : Int := if eIs regs x.code = 0 then eT x.term regs n else eIs regs x.code
def eBs (regs n : Int) : List Blk → Int
  | [] => 0
  | x :: r => if eB x regs n = 0 then eBs regs n r else eB x regs n
/-- The first error of the sizes. -/
def eSz (args regs : Int) (bs : List Blk) : Int :=
  if args < 0 ∨ regs < args then 9 else if 1048576 < regs then 6 else if bs.length = 0 then 14 else if 1048576 < bs.length ∨ 1048576 < codeN bs then 6 else 0
def eF (args regs : Int) (bs : List Blk) : Int := if eSz args regs bs = 0 then eBs regs bs.length bs else eSz args regs bs

theorem eIs_step (regs : Int) : ∀ (l : List In) (k : Nat) (h : k < l.length), eIs regs (l.drop k) = if eI l[k] regs = 0 then eIs regs (l.drop (k + 1)) else eI l[k] regs := by
  intro l k h
  rw [List.drop_eq_getElem_cons h]
  rfl
theorem eBs_step (regs n : Int) : ∀ (l : List Blk) (k : Nat) (h : k < l.length), eBs regs n (l.drop k) = if eB l[k] regs n = 0 then eBs regs n (l.drop (k + 1)) else eB l[k] regs n := by
  intro l k h
  rw [List.drop_eq_getElem_cons h]
  rfl
theorem okR_step (n : Int) (l : List Fld) (k : Nat) (h : k < l.length) : okR n (l.drop k) = (fR n l[k] && okR n (l.drop (k + 1))) := by
  rw [List.drop_eq_getElem_cons h]
  rfl
theorem okZ_step (l : List Fld) (k : Nat) (h : k < l.length) : okZ (l.drop k) = (fZ l[k] && okZ (l.drop (k + 1))) := by
  rw [List.drop_eq_getElem_cons h]
  rfl

theorem eI_range (x : In) (regs : Int) : 0 ≤ eI x regs ∧ eI x regs ≤ 16 := by
  unfold eI
  repeat' split
  all_goals decide
theorem eT_range (t : Tm) (r n : Int) : 0 ≤ eT t r n ∧ eT t r n ≤ 16 := by
  unfold eT
  repeat' split
  all_goals decide

end Go.Proofs.Ytfkknebjhcafhaa
