/-
  The program of layer 21: numbers, counts, failIf, the functions that add to the cost, inRange.
-/
import Derived.Test.YtkapmfopfddmbaaDcPa
import Derived.Test.YtkapmfopfddmbaaFcPa
import Derived.Test.YtkapmfopfddmbaaCcCur
import Derived.Laws.EntriesVeiled
import Derived.Shelf.Abstract
namespace Go.Proofs.Ytkapmfopfddmbaa
open Go.RowKit
set_option linter.unusedVariables false
set_option linter.unusedSimpArgs false

/-- One of these two. -/
def Two (p q : Nat) : Nat → Prop := fun k => k = p ∨ k = q

section
variable {w w' : World} {lo p q : Nat} {l : List Nat} {A : Option Addr} {c : Nat} {t : Ip}

theorem Mods.l2 (h : Mods (Is p) w w') : Mods (Two p q) w w' := h.mono fun _ hk => .inl hk

theorem Mods.r2 (h : Mods (Is q) w w') : Mods (Two p q) w w' := h.mono fun _ hk => .inr hk

theorem uintS_step (B : Int) : ((stepV t.err (uintS B t.rest) : Nat) : Int) = (numE (B + 1) 6 t).1 ∧ stepT t (uintS B t.rest) = (numE (B + 1) 6 t).2 := by
  by_cases h0 : t.err = 0
  · by_cases h1 : (getS t.rest).2.2 = 0
    · rw [numE_good21 h0 h1]
      by_cases h2 : B < ((getS t.rest).1 : Int)
      · have hu : uintS B t.rest = (0, 0, 6) := if_pos ⟨h1, h2⟩
        rw [hu, if_pos (by omega)]
        refine ⟨by rw [stepV]; split <;> rfl, ?_⟩
        unfold stepT
        rw [if_neg (by omega), if_pos (by decide)]
        rfl
      · have hu : uintS B t.rest = getS t.rest := if_neg fun h => h2 h.2
        rw [hu, if_neg (by omega)]
        refine ⟨by rw [stepV, if_pos ⟨h0, h1⟩], ?_⟩
        unfold stepT
        rw [if_neg (by omega), if_neg (by omega)]
    · have hu : uintS B t.rest = getS t.rest := if_neg fun h => h1 h.1
      rw [numE_bad21 h0 h1, hu]
      refine ⟨by rw [stepV, if_neg fun h => h1 h.2]; rfl, ?_⟩
      unfold stepT
      rw [if_neg (by omega), if_pos h1]
  · rw [numE_err h0]
    refine ⟨by rw [stepV, if_neg fun h => h0 h.1]; rfl, ?_⟩
    unfold stepT
    rw [if_pos h0]

theorem unum_ce (h : CE lo p l A c t w) (B : Int) (hB : 0 ≤ B) : Calls Try.prog 40 #[.pointer (some ⟨p, 0, none⟩), .int .u64 B] w fun e w' => e = .returned (.int .u64 (numE (B + 1) 6 t).1) ∧ Mods (Is p) w w' ∧ CE lo p l A c (numE (B + 1) 6 t).2 w' := by
  obtain ⟨i, hc, hr⟩ := h
  refine (uint_any hc B hB).mono ?_
  rintro e w' ⟨rfl, ha⟩
  obtain ⟨hm, h1, h2⟩ := after_ce (uintS B) hr ha
  obtain ⟨s1, s2⟩ := uintS_step (t := t) B
  rw [h2, s1]
  exact ⟨rfl, hm, by rw [← s2]; exact h1⟩

set_option maxRecDepth 100000 in
set_option maxHeartbeats 1000000 in
theorem dnum_ce (h : CE lo p l A c t w) : Calls Try.prog 58 #[.pointer (some ⟨p, 0, none⟩)] w fun e w' => e = .returned (.int .i64 (sizeE t).1) ∧ Mods (Is p) w w' ∧ CE lo p l A c (sizeE t).2 w' := by
  have C := Lib.hid (size_ce h)
  have hr := sizeE_rng (s := t)
  clear h
  go_enter Try.func58, Try.ntmps58
  go_wp2_with fail
  refine C.out.mono ?_
  rintro e W1 ⟨rfl, hm, hc⟩
  have HM := Lib.hid hm
  have HC := Lib.hid hc
  clear hm hc C
  go_wp2
  go_ret
  exact ⟨rfl, HM.out, HC.out⟩

set_option maxRecDepth 100000 in
set_option maxHeartbeats 1000000 in
theorem dfail_ce (h : CE lo p l A c t w) (b : Bool) (x : Int) (hx : x ≠ 0) : Calls Try.prog 45 #[.pointer (some ⟨p, 0, none⟩), .bool b, .int .i64 x] w fun e w' => e = .returned (.tuple #[]) ∧ Mods (Is p) w w' ∧ CE lo p l A c (if b then failE x t else t) w' := by
  have C := Lib.hid (fail_ceE h x hx)
  have HC := Lib.hid h
  clear h
  cases b with
  | false =>
    go_enter Try.func45, Try.ntmps45
    go_wp2
    go_end0
    exact ⟨rfl, Mods.refl _ _, HC.out⟩
  | true =>
    go_enter Try.func45, Try.ntmps45
    go_wp2_with fail
    refine C.out.mono ?_
    rintro e W1 ⟨rfl, hm, hc⟩
    have HM := Lib.hid hm
    have HC1 := Lib.hid hc
    clear hm hc C HC
    go_wp2
    go_end0
    exact ⟨rfl, HM.out, HC1.out⟩

set_option maxRecDepth 100000 in
set_option maxHeartbeats 1000000 in
theorem dcount_any (h : CE lo p l A c t w) (k : Int) (hk : 0 < k) (hk2 : k ≤ 100) (K : FuncId) (hK : ∀ args W, (callFunc K args).run Try.prog W = .ok (.enter K args) W) {T : TypeId} {cs cs' : Array Value} (hq : Row w q T cs) (hql : q < lo ∨ p < q)
    (HA : ∀ W, Row W q T cs → Calls Try.prog K #[.int .i64 (cntE k t).1, .pointer (some ⟨q, 0, none⟩)] W fun e w' => e = .returned (.tuple #[]) ∧ Mods (Is q) W w' ∧ Row w' q T cs') :
    Calls Try.prog 59 #[.pointer (some ⟨p, 0, none⟩), .int .i64 k, .func (.func K) #[] #[.pointer (some ⟨q, 0, none⟩)]] w fun e w' => e = .returned (.int .i64 (cntE k t).1) ∧ Mods (Two p q) w w' ∧ CE lo p l A c (cntE k t).2 w' ∧ Row w' q T cs' := by
  have C := Lib.hid (count_ce h k hk hk2)
  have hlo := (show lo ≤ p from by obtain ⟨i, hc, _⟩ := h; exact hc.lop)
  have HQ := Lib.hid hq
  have HAA := Lib.hid HA
  obtain ⟨⟨n, u⟩, hn⟩ : ∃ y, cntE k t = y := ⟨_, rfl⟩
  rw [hn] at C HAA ⊢
  dsimp only at C HAA ⊢
  clear h hq HA hn hk hk2
  go_enter Try.func59, Try.ntmps59
  go_wp2_with fail
  refine C.out.mono ?_
  rintro e W1 ⟨rfl, hm, hc⟩
  have HQ1 := Lib.hid (HQ.out.mods hm (by unfold Is; omega))
  have HM := Lib.hid hm
  have HC := Lib.hid hc
  have CA := Lib.hid (HAA.out W1 HQ1.out)
  clear hm hc C HQ
  go_wp2_with fail
  refine CA.out.mono ?_
  rintro e W2 ⟨rfl, hm, hr⟩
  have HM2 := Lib.hid (HM.out.l2.trans hm.r2 : Mods (Two p q) w W2)
  have HC2 := Lib.hid (HC.out.mods hm fun j hj => by unfold Is at hj; omega)
  have HR2 := Lib.hid hr
  clear hm hr CA HC HM HQ1
  go_wp2
  go_ret
  exact ⟨rfl, HM2.out, HC2.out, HR2.out⟩

end

section
variable {w : World} {q : Nat} {b i p y n : Int}

set_option maxRecDepth 100000 in
set_option maxHeartbeats 1000000 in
theorem daddB_any (h : Row w q 25 #[.int .i64 b, .int .i64 i, .int .i64 p, .int .i64 y]) (hb : 0 ≤ b ∧ b ≤ 1152921504606846976) (hn : 0 ≤ n ∧ n ≤ 1152921504606846976) :
    Calls Try.prog 23 #[.int .i64 n, .pointer (some ⟨q, 0, none⟩)] w fun e w' => e = .returned (.tuple #[]) ∧ Mods (Is q) w w' ∧ Row w' q 25 #[.int .i64 (b + n), .int .i64 i, .int .i64 p, .int .i64 y] := by
  have c0 := h.k0; have f0 := h.frozen 0
  have HR := Lib.hid h
  clear h
  go_enter Try.func23, Try.ntmps23
  go_wp2
  go_end0
  exact ⟨rfl, (Mods.refl _ _).put 0 _, HR.out.put 0 _⟩

set_option maxRecDepth 100000 in
set_option maxHeartbeats 1000000 in
theorem daddI_any (h : Row w q 25 #[.int .i64 b, .int .i64 i, .int .i64 p, .int .i64 y]) (hb : 0 ≤ i ∧ i ≤ 1152921504606846976) (hn : 0 ≤ n ∧ n ≤ 1152921504606846976) :
    Calls Try.prog 24 #[.int .i64 n, .pointer (some ⟨q, 0, none⟩)] w fun e w' => e = .returned (.tuple #[]) ∧ Mods (Is q) w w' ∧ Row w' q 25 #[.int .i64 b, .int .i64 (i + n), .int .i64 p, .int .i64 y] := by
  have c0 := h.k1; have f0 := h.frozen 1
  have HR := Lib.hid h
  clear h
  go_enter Try.func24, Try.ntmps24
  go_wp2
  go_end0
  exact ⟨rfl, (Mods.refl _ _).put 1 _, HR.out.put 1 _⟩

set_option maxRecDepth 100000 in
set_option maxHeartbeats 1000000 in
theorem daddP_any (h : Row w q 25 #[.int .i64 b, .int .i64 i, .int .i64 p, .int .i64 y]) (hb : 0 ≤ p ∧ p ≤ 1152921504606846976) (hn : 0 ≤ n ∧ n ≤ 1152921504606846976) :
    Calls Try.prog 25 #[.int .i64 n, .pointer (some ⟨q, 0, none⟩)] w fun e w' => e = .returned (.tuple #[]) ∧ Mods (Is q) w w' ∧ Row w' q 25 #[.int .i64 b, .int .i64 i, .int .i64 (p + n), .int .i64 y] := by
  have c0 := h.k2; have f0 := h.frozen 2
  have HR := Lib.hid h
  clear h
  go_enter Try.func25, Try.ntmps25
  go_wp2
  go_end0
  exact ⟨rfl, (Mods.refl _ _).put 2 _, HR.out.put 2 _⟩

set_option maxRecDepth 100000 in
set_option maxHeartbeats 1000000 in
theorem daddY_any (h : Row w q 25 #[.int .i64 b, .int .i64 i, .int .i64 p, .int .i64 y]) (hb : 0 ≤ y ∧ y ≤ 1152921504606846976) (hn : 0 ≤ n ∧ n ≤ 1152921504606846976) :
    Calls Try.prog 19 #[.int .i64 n, .pointer (some ⟨q, 0, none⟩)] w fun e w' => e = .returned (.tuple #[]) ∧ Mods (Is q) w w' ∧ Row w' q 25 #[.int .i64 b, .int .i64 i, .int .i64 p, .int .i64 (y + n)] := by
  have c0 := h.k3; have f0 := h.frozen 3
  have HR := Lib.hid h
  clear h
  go_enter Try.func19, Try.ntmps19
  go_wp2
  go_end0
  exact ⟨rfl, (Mods.refl _ _).put 3 _, HR.out.put 3 _⟩

end

set_option maxRecDepth 100000 in
set_option maxHeartbeats 1000000 in
theorem dinr_any (v a r n b : Int) (w : World) (h0 : 0 ≤ v) (h1 : v ≤ 1152921504606846976) :
    Calls Try.prog 80 #[.int .i64 v, .agg #[.int .i64 a, .int .i64 r, .int .i64 n, .int .i64 b]] w fun e w' => e = .returned (.bool (locS v r n)) ∧ Below w.heap.size w w' := by
  have HB := Lib.hid ((Below.refl w.heap.size w).alloc (Nat.le_refl _) (.cells #[.int .i64 a, .int .i64 r, .int .i64 n, .int .i64 b] 84))
  have HR := Row.new w 84 #[.int .i64 a, .int .i64 r, .int .i64 n, .int .i64 b]
  have c1 := HR.k1; have c2 := HR.k2
  clear HR
  have HL : Hid (locS v r n = if v % 2 = 1 then decide (v / 2 < n) else decide (v / 2 < r)) := by show _ = _; unfold locS; rw [if_neg (by omega)]
  by_cases h2 : v % 2 = 1
  · have d0 : (v % 2 == 0) = false := by simp; omega
    have HL2 : Hid (locS v r n = decide (v / 2 < n)) := by show _ = _; rw [HL.out, if_pos h2]
    clear h2 HL
    go_enter Try.func80, Try.ntmps80
    go_wp2
    go_ret
    exact ⟨by rw [HL2.out]; rfl, HB.out⟩
  · have d0 : (v % 2 == 0) = true := by simp; omega
    have HL2 : Hid (locS v r n = decide (v / 2 < r)) := by show _ = _; rw [HL.out, if_neg h2]
    clear h2 HL
    go_enter Try.func80, Try.ntmps80
    go_wp2
    go_ret
    exact ⟨by rw [HL2.out]; rfl, HB.out⟩

end Go.Proofs.Ytkapmfopfddmbaa
