/-
  What is proved of the program of layer 19.
-/
import Derived.Test.YthehcdajedaefaaWnPd
import Derived.Test.YthehcdajedaefaaWnPe
namespace Go.Proofs.Ythehcdajedaefaa
open Go.RowKit
set_option linter.unusedVariables false

/-- What a reading of invariants leaves. -/
def RinW (lo p : Nat) (l : List Nat) (A : Option Addr) (c : Nat) (xs : List (List Pr)) (t : Ip) (w : World) (e : Ending) (w' : World) : Prop :=
  ∃ v vs, e = .returned v ∧ NestV pshp w' w.heap.size v vs xs ∧ Mods (Is p) w w' ∧ ∃ i', Cur w' lo p l i' t.err A c ∧ (t.err = 0 → l.drop i' = t.rest)

theorem pget19_any {w : World} {lo p : Nat} {l : List Nat} {i : Nat} {er : Int} {A : Option Addr} {c : Nat} (h : Cur w lo p l i er A c) {m vr r n : Int} (hl : l.length ≤ 1000000) (hm : 0 ≤ m ∧ m ≤ 100000) (hvr : 0 ≤ vr ∧ vr ≤ 1000000) (hr : 0 ≤ r ∧ r ≤ 1000000) (hn : 0 ≤ n ∧ n ≤ 1000000) {xs : List (List Pr)} {t : Ip} (hf : getE19 vr r n m.toNat ⟨l.drop i, er⟩ = (xs, t)) :
    Calls Try.prog 9 #[.pointer (some ⟨p, 0, none⟩), .int .i64 m, .int .i64 vr, .int .i64 r, .int .i64 n] w (RinW lo p l A c xs t w) :=
  pget19_ce (s := ⟨l.drop i, er⟩) ⟨i, h, fun _ => rfl⟩ hl hm hvr hr hn hf

theorem pput19_any {w : World} {q hi : Nat} {v : Value} {l : List Nat} (h : Wri w q hi v l) (hm : l.length + 200000000 ≤ 70368744177664) (hhi : hi ≤ w.heap.size) {xs : List (List Pr)} {A : Option Addr} {c : Nat} (hs : SeesPP w q A xs) (hc : xs.length ≤ c) (hx : xs.length ≤ 1000) (hl : ∀ x ∈ xs, x.length ≤ 1000) (hp : ∀ x ∈ xs, PP19 true (0, 0) x) :
    Calls Try.prog 16 #[.pointer (some ⟨q, 0, none⟩), .slice A xs.length c] w (Wrote w q (l ++ encW19 xs)) :=
  (pput19_K h hm hhi hs hx hl hp).mono fun _ _ h => h.1

end Go.Proofs.Ythehcdajedaefaa
