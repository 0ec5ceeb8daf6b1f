/-
  The statements' same, read of layer 17.
-/
import Derived.Test.YtacmgfndmolnfaaIcNum
import Derived.Test.YtacmgfndmolnfaaPk1
import Derived.Test.YtacmgfndmolnfaaVarSame
import Derived.BigQuiet
namespace Go.Proofs.Ytacmgfndmolnfaa
open Go.RowKit
set_option linter.unusedVariables false
set_option linter.unusedSimpArgs false

/-- Whether a cursor has the error, and without one the bytes left, of an input. -/
def sameQ (n i : Nat) (er : Int) (t : Ip) : Bool := er == t.err && (t.err != 0 || (leftS n i er == (t.rest.length : Int)))
set_option maxRecDepth 100000 in
set_option maxHeartbeats 4000000 in
theorem same17_any {w : World} {lo p : Nat} {l : List Nat} {i : Nat} {er : Int} {A : Option Addr} {c : Nat} {A' : Option Addr} {c' : Nat} {t : Ip} (h : Cur w lo p l i er A c) (hm : t.rest.length ≤ 1000000) :
    Calls Try.prog 15 #[.pointer (some ⟨p, 0, none⟩), .agg #[.slice A' t.rest.length c', .int .i64 t.err]] w fun e w' => e = .returned (.bool (sameQ l.length i er t)) ∧ Below w.heap.size w w' := by
  have hr := Row.new w 28 #[.slice A' t.rest.length c', .int .i64 t.err]
  have HB := Lib.hid ((Below.refl w.heap.size w).alloc (Nat.le_refl _) (.cells #[.slice A' t.rest.length c', .int .i64 t.err] 28))
  have h1 := h.mods (S := No) ((Mods.refl _ _).alloc (.cells #[.slice A' t.rest.length c', .int .i64 t.err] 28)) fun _ hk => hk.elim
  obtain ⟨sq, hsq⟩ : ∃ z, z = sameQ l.length i er t := ⟨_, rfl⟩
  rw [← hsq]
  have HSQ : Hid (sq = (er == t.err && (t.err != 0 || (leftS l.length i er == (t.rest.length : Int))))) := hsq
  clear hsq h
  have C1 : Hid (∀ n, Calls Try.prog 28 #[.pointer (some ⟨p, 0, none⟩)] ((w.alloc (.cells #[.slice A' t.rest.length c', .int .i64 t.err] 28)).drewN n) fun e w' => e = .returned (.int .i64 er) ∧ ∃ m, w' = (w.alloc (.cells #[.slice A' t.rest.length c', .int .i64 t.err] 28)).drewN m) := fun n => (err_any (h1.drewN n)).mono fun e w' ⟨h, k⟩ => ⟨h, n, k.symm⟩
  have C2 : Hid (∀ n, Calls Try.prog 29 #[.pointer (some ⟨p, 0, none⟩)] ((w.alloc (.cells #[.slice A' t.rest.length c', .int .i64 t.err] 28)).drewN n) fun e w' => e = .returned (.int .i64 (leftS l.length i er)) ∧ ∃ m, w' = (w.alloc (.cells #[.slice A' t.rest.length c', .int .i64 t.err] 28)).drewN m) := fun n => (left_any (h1.drewN n)).mono fun e w' ⟨h, m, k⟩ => ⟨h, n + m, by rw [← k, World.drewN_drewN]⟩
  obtain ⟨lf, hlf⟩ : ∃ z, z = leftS l.length i er := ⟨_, rfl⟩
  rw [← hlf] at C2 HSQ
  clear hlf h1
  go_enter Try.func15, Try.ntmps15
  go_upto_region 1 with fail
  generalize (w.alloc (.cells #[.slice A' t.rest.length c', .int .i64 t.err] 28)) = W0 at *
  have p0 := hr.cell 0; have p1 := hr.cell 1
  simp only [List.getElem?_toArray, List.getElem?_cons_zero, List.getElem?_cons_succ] at p0 p1
  clear hr
  obtain ⟨te, hte⟩ : ∃ z, z = t.err := ⟨_, rfl⟩
  rw [← hte] at p1 HSQ
  clear hte
  obtain ⟨tn, htn⟩ : ∃ z, z = t.rest.length := ⟨_, rfl⟩
  rw [← htn] at p0 HSQ hm
  clear htn
  by_cases h1 : er = te
  · have d1 : (er == te) = true := by simp [h1]
    by_cases h2 : te = 0
    · have d2 : (te != 0) = false := by simp [h2]
      have HE : Hid (sq = (lf == (tn : Int))) := by show _ = _; rw [HSQ.out, d1, d2]; simp
      obtain ⟨bb, hbb⟩ : ∃ z : Bool, z = (lf == (tn : Int)) := ⟨_, rfl⟩
      rw [← hbb] at HE
      have d3 := hbb.symm
      clear h1 h2 HSQ hbb
      go_wp2_with fail
      go_quiet (first | exact C1.out _ | exact C2.out _)
      go_wp2
      go_ret
      exact ⟨by rw [HE.out]; rfl, ⟨HB.out.os, HB.out.tape, HB.out.output, HB.out.size, HB.out.block⟩⟩
    · have d2 : (te != 0) = true := by simp [h2]
      have HE : Hid (sq = true) := by show _ = _; rw [HSQ.out, d1, d2]; simp
      clear h1 h2 HSQ
      go_wp2_with fail
      go_quiet (first | exact C1.out _ | exact C2.out _)
      go_wp2
      go_ret
      exact ⟨by rw [HE.out]; rfl, ⟨HB.out.os, HB.out.tape, HB.out.output, HB.out.size, HB.out.block⟩⟩
  · have d1 : (er == te) = false := by simp [h1]
    have HE : Hid (sq = false) := by show _ = _; rw [HSQ.out, d1]; simp
    clear h1 HSQ
    go_wp2_with fail
    go_quiet (first | exact C1.out _ | exact C2.out _)
    go_wp2
    go_ret
    exact ⟨by rw [HE.out]; rfl, ⟨HB.out.os, HB.out.tape, HB.out.output, HB.out.size, HB.out.block⟩⟩

/-- Whether a cursor has read just some bytes. -/
def readQ (i : Nat) (b want : List Nat) : Bool := ((i : Int) == (want.length : Int)) && (decide ((want.length : Int) ≤ (b.length : Int)) && sameB (b.take want.length) want)
set_option maxRecDepth 100000 in
set_option maxHeartbeats 4000000 in
theorem read17_any {w : World} {lo p : Nat} {l : List Nat} {i : Nat} {er : Int} {A : Option Addr} {c : Nat} {B : Nat} {A1 : Option Addr} {b : List Nat} {c1 : Nat} {A2 : Option Addr} {wt : List Nat} {c2 : Nat} (h : Cur w lo p l i er A c)
    (hb : Sees w B A1 (bts b)) (hw : Sees w B A2 (bts wt)) (hbl : b.length ≤ c1) (hc1 : c1 ≤ maxLen) (hbm : b.length ≤ 100000) (hwm : wt.length ≤ 100000) :
    Calls Try.prog 30 #[.pointer (some ⟨p, 0, none⟩), .slice A1 b.length c1, .slice A2 wt.length c2] w fun e w' => e = .returned (.bool (readQ i b wt)) ∧ ∃ n, w.drewN n = w' := by
  obtain ⟨sq, hsq⟩ : ∃ z, z = readQ i b wt := ⟨_, rfl⟩
  rw [← hsq]
  have HSQ : Hid (sq = (((i : Int) == (wt.length : Int)) && (decide ((wt.length : Int) ≤ (b.length : Int)) && sameB (b.take wt.length) wt))) := hsq
  clear hsq
  have C1 := Lib.hid (at_any h)
  have HBS := Lib.hid hb
  have HWS := Lib.hid hw
  clear h hb hw
  obtain ⟨n, hn⟩ : ∃ z, z = wt.length := ⟨_, rfl⟩
  obtain ⟨m, hm⟩ : ∃ z, z = b.length := ⟨_, rfl⟩
  rw [← hn, ← hm] at HSQ
  rw [← hn, ← hm]
  rw [← hn] at hwm
  rw [← hm] at hbl hbm
  have HN := Lib.hid hn
  have HM := Lib.hid hm
  clear hn hm
  unfold maxLen at hc1
  go_enter Try.func30, Try.ntmps30
  go_wp2_with fail
  refine C1.out.mono ?_
  rintro e V ⟨rfl, rfl⟩
  clear C1
  by_cases h1 : i = n
  · have d1 : ((i : Int) == (n : Int)) = true := by simp [h1]
    by_cases h2 : n ≤ m
    · have d2 : decide ((n : Int) ≤ (m : Int)) = true := by simp; omega
      have HE : Hid (sq = sameB (b.take n) wt) := by show _ = _; rw [HSQ.out, d1, d2]; simp
      have C2 := Lib.hid (same_at (b.take n) wt sq n n B A1 A2 c1 c2 w HE.out.symm (by rw [List.length_take, ← HM.out]; omega) HN.out.symm (by unfold maxLen; omega) (by unfold maxLen; omega) (fun hne => by
        obtain ⟨b', o', e, hb', hc'⟩ := HBS.out (by intro e; rw [bts, List.map_take] at hne; apply hne; rw [show b.map _ = bts b from rfl, e]; simp)
        refine ⟨b', o', e, hb', fun j u hu => hc' j u ?_⟩
        rw [bts, List.map_take, List.getElem?_take] at hu
        split at hu
        · exact hu
        · cases hu) HWS.out)
      obtain ⟨k, rfl⟩ : ∃ k, m = n + k := ⟨m - n, by omega⟩
      clear h1 h2 HSQ
      go_wp2_with fail
      refine C2.out.mono ?_
      rintro e V ⟨rfl, nq, rfl⟩
      clear C2
      go_wp2
      go_ret
      exact ⟨rfl, nq, rfl⟩
    · have d2 : decide ((n : Int) ≤ (m : Int)) = false := by simp; omega
      have d3 : decide (n ≤ m) = false := by simp; omega
      have HE : Hid (sq = false) := by show _ = _; rw [HSQ.out, d1, d2]; simp
      clear d2
      clear h1 h2 HSQ
      go_wp2
      go_ret
      exact ⟨by rw [HE.out]; rfl, 0, rfl⟩
  · have d1 : ((i : Int) == (n : Int)) = false := by simp; omega
    have HE : Hid (sq = false) := by show _ = _; rw [HSQ.out, d1]; simp
    clear h1 HSQ
    go_wp2
    go_ret
    exact ⟨by rw [HE.out]; rfl, 0, rfl⟩

end Go.Proofs.Ytacmgfndmolnfaa
