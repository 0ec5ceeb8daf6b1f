/-
  The method that all reads of a cursor share, for a reading function that turns no memory that was there.
-/
import Derived.Test.YtgipdebkikldaaaCur
import Derived.Deep.RegionWith
import Derived.Deep.RegionHeld3
namespace Go.Proofs.Ytgipdebkikldaaa
open Go.RowKit

/-- A read: what it returns, the offset and the error after it; r is what the reading function returns for the bytes that are left. -/
def stepV (er : Int) (r : Nat × Nat × Nat) : Nat := if er = 0 ∧ r.2.2 = 0 then r.1 else 0
def stepI (i : Nat) (er : Int) (r : Nat × Nat × Nat) : Nat := if er = 0 ∧ r.2.2 = 0 then i + r.2.1 else i
def stepE (er : Int) (r : Nat × Nat × Nat) : Int := if er = 0 then r.2.2 else er
def CurP (v : Int) (S : Nat → Prop) (w : World) (Q : World → Prop) (e : Ending) (w' : World) : Prop := e = .returned (.int .u64 v) ∧ Mods S w w' ∧ Q w'


set_option maxRecDepth 100000 in
set_option maxHeartbeats 1000000 in
theorem read_quiet (K : FuncId) (caps : Array Value) (hK : ∀ args W, (callFunc K args).run Try.prog W = .ok (.enter K args) W) {w : World} {lo p : Nat} {l : List Nat} {i : Nat} {er : Int} {A : Option Addr} {c : Nat} (h : Cur w lo p l i er A c) (r : Nat × Nat × Nat)
    (hr : r.2.1 ≤ (l.drop i).length)
    (H : Hid (∀ A' c' n, Sees w p A' (bts (l.drop i)) → Calls Try.prog K (#[.slice A' (l.length - i) c'] ++ caps) (w.drewN n) fun e w' => e = .returned (.tuple #[.int .u64 r.1, .int .i64 r.2.1, .int .i64 r.2.2]) ∧ ∃ m, w' = w.drewN m)) :
    Calls Try.prog 37 #[.pointer (some ⟨p, 0, none⟩), .func (.func K) #[] caps] w (CurP (stepV er r) (Is p) w fun w' => Cur w' lo p l (stepI i er r) (stepE er r) A c) := by
  have h0 : w.cell? ⟨p, 0, none⟩ = some (.slice A l.length c) := h.row.cell 0
  have h1 : w.cell? ⟨p, 1, none⟩ = some (.int .i64 i) := h.row.cell 1
  have h2 : w.cell? ⟨p, 2, none⟩ = some (.int .i64 er) := h.row.cell 2
  have f1 := h.row.frozen 1
  have f2 := h.row.frozen 2
  have hle := h.le
  have hmx := h.max
  have hlc := h.lec
  unfold maxLen at hmx
  by_cases he : er = 0
  · subst he
    have hdl : (l.drop i).length = l.length - i := by simp
    have hn : r.2.1 ≤ l.length - i := by omega
    have hs := h.sees.drop (k := i) (by rw [bts_length]; exact hlc)
    rw [show (bts l).drop i = bts (l.drop i) from by simp [bts]] at hs
    clear hdl hr
    obtain ⟨v, n, e⟩ := r
    simp only at H hn
    by_cases hci : c = i
    case' pos => rw [if_pos hci] at hs
    case' neg => rw [if_neg hci] at hs
    all_goals
      have Hs := Lib.hid hs
      clear hs
      go_enter Try.func37, Try.ntmps37
      go_wp2_with fail
      refine (err_any h).mono ?_
      rintro e W ⟨rfl, rfl⟩
      have HC := Lib.hid h
      clear h
      go_wp2_with fail
      go_quiet (exact H.out _ _ _ Hs.out)
      by_cases h3 : e = 0
      · subst h3
        go_wp2
        go_ret
        exact ⟨rfl, ((Mods.refl _ _).drewN _).put 1 _, by have := (HC.out.drewN nq).at_ (i + n) (by omega); rwa [Int.natCast_add] at this⟩
      · have e3 : ((e : Int) != 0) = true := by simp; omega
        have HV := Lib.hid (show stepV 0 (v, n, e) = 0 from if_neg fun h => h3 h.2)
        have HI := Lib.hid (show stepI i 0 (v, n, e) = i from if_neg fun h => h3 h.2)
        go_wp2
        go_ret
        exact ⟨by rw [HV.out]; rfl, ((Mods.refl _ _).drewN _).put 2 _, by rw [HI.out]; exact (HC.out.drewN nq).err e⟩
  · have e3 : (er != 0) = true := by simp [he]
    have HV := Lib.hid (show stepV er r = 0 from if_neg fun h => he h.1)
    have HI := Lib.hid (show stepI i er r = i from if_neg fun h => he h.1)
    have HE := Lib.hid (show stepE er r = er from if_neg he)
    clear he
    go_enter Try.func37, Try.ntmps37
    go_wp2_with fail
    refine (err_any h).mono ?_
    rintro e W ⟨rfl, rfl⟩
    go_wp2
    go_ret
    exact ⟨by rw [HV.out]; rfl, Mods.refl _ _, by rw [HI.out, HE.out]; exact h⟩

end Go.Proofs.Ytgipdebkikldaaa
