/-
  The program of layer 18: Func, MFunc, PutFunc, PutMFunc over a cursor and a writer.
-/
import Derived.Test.YtmmdhhjpbolkhaaGreatFcPh
import Derived.Test.YtmmdhhjpbolkhaaGreatPk11
import Derived.Test.YtmmdhhjpbolkhaaGreatPk6
namespace Go.Proofs.YtmmdhhjpbolkhaaGreat
open Go.RowKit
set_option linter.unusedVariables false

/-- What a reading of a function leaves. -/
def RinF (lo p : Nat) (l : List Nat) (A : Option Addr) (c : Nat) (f : Fd) (t : Ip) (w : World) (e : Ending) (w' : World) : Prop :=
  ∃ v vs, e = .returned (.agg #[.int .i64 f.args, .int .i64 f.regs, v]) ∧ NestV bshp w' w.heap.size v vs f.bs ∧ Mods (Is p) w w' ∧ ∃ i', Cur w' lo p l i' t.err A c ∧ (t.err = 0 → l.drop i' = t.rest)

def RinG (lo p : Nat) (l : List Nat) (A : Option Addr) (c : Nat) (g : Gd) (t : Ip) (w : World) (e : Ending) (w' : World) : Prop :=
  ∃ v vs, e = .returned (.agg #[.int .i64 g.args, .int .i64 g.regs, .int .i64 g.slots, v]) ∧ NestV mshp w' w.heap.size v vs g.ms ∧ Mods (Is p) w w' ∧ ∃ i', Cur w' lo p l i' t.err A c ∧ (t.err = 0 → l.drop i' = t.rest)

theorem pfunc_any {w : World} {lo p : Nat} {l : List Nat} {i : Nat} {er : Int} {A : Option Addr} {c : Nat} (h : Cur w lo p l i er A c) {f : Fd} {t : Ip} (hf : funcE ⟨l.drop i, er⟩ = (f, t)) :
    Calls Tryz.prog 18 #[.pointer (some ⟨p, 0, none⟩)] w (RinF lo p l A c f t w) := by
  have := pfunc_ce (s := ⟨l.drop i, er⟩) ⟨i, h, fun _ => rfl⟩
  rw [hf] at this
  exact this

theorem pmfunc_any {w : World} {lo p : Nat} {l : List Nat} {i : Nat} {er : Int} {A : Option Addr} {c : Nat} (h : Cur w lo p l i er A c) {g : Gd} {t : Ip} (hg : mfuncE ⟨l.drop i, er⟩ = (g, t)) :
    Calls Tryz.prog 19 #[.pointer (some ⟨p, 0, none⟩)] w (RinG lo p l A c g t w) := by
  have := pmfunc_ce (s := ⟨l.drop i, er⟩) ⟨i, h, fun _ => rfl⟩
  rw [hg] at this
  exact this

theorem pputf_any {w : World} {q hi : Nat} {v : Value} {l : List Nat} (h : Wri w q hi v l) (hm : l.length + 200000000 ≤ 70368744177664) (hhi : hi ≤ w.heap.size) {f : Fd} (hf : VF f) {A : Option Addr} {c : Nat} (hs : BlksAt w q A f.bs) (hc : f.bs.length ≤ c) :
    Calls Tryz.prog 10 #[.pointer (some ⟨q, 0, none⟩), .agg #[.int .i64 f.args, .int .i64 f.regs, .slice A f.bs.length c]] w (Wrote w q (l ++ encF' f)) := (pputf_K h hm hhi hf hs hc).mono fun _ _ h => h.1

theorem pputmf_any {w : World} {q hi : Nat} {v : Value} {l : List Nat} (h : Wri w q hi v l) (hm : l.length + 200000000 ≤ 70368744177664) (hhi : hi ≤ w.heap.size) {g : Gd} (hg : VG g) {A : Option Addr} {c : Nat} (hs : MBlksAt w q A g.ms) (hc : g.ms.length ≤ c) :
    Calls Tryz.prog 11 #[.pointer (some ⟨q, 0, none⟩), .agg #[.int .i64 g.args, .int .i64 g.regs, .int .i64 g.slots, .slice A g.ms.length c]] w (Wrote w q (l ++ encG g)) := (pputmf_K h hm hhi hg hs hc).mono fun _ _ h => h.1

end Go.Proofs.YtmmdhhjpbolkhaaGreat
