/-
  successors: the blocks to which a valid terminator may go; nothing is left out of them.
-/
import Derived.Test.YtncigbpeempnfaaLvRefE
import Derived.Shelf.Abstract
namespace Go.Proofs.Ytncigbpeempnfaa
open Go.RowKit
set_option linter.unusedVariables false

set_option maxRecDepth 100000 in
set_option maxHeartbeats 1000000 in
theorem sucpred_any (b n : Nat) (s : Int) (w : World) (hc : w.cell? ⟨b, 0, none⟩ = some (.int .i64 n)) (h0 : 0 ≤ s) (h1 : s < n) :
    Calls Try.prog 50 #[.int .i64 s, .pointer (some ⟨b, 0, none⟩)] w fun e w' => e = .returned (.bool false) ∧ w' = w := by
  have e1 : decide (s < 0) = false := decide_eq_false (by omega)
  have e2 : decide ((n : Int) ≤ s) = false := decide_eq_false (by omega)
  go_enter Try.func50, Try.ntmps50
  go_wp2
  go_ret
  exact ⟨rfl, rfl⟩

set_option maxRecDepth 100000 in
set_option maxHeartbeats 1000000 in
theorem sucidx_any (B : Nat) (A : Option Addr) (l : List Int) (c b n : Nat) (w : World) (hs : Sees w B A (ints l)) (hm : l.length ≤ maxLen) (hc : w.cell? ⟨b, 0, none⟩ = some (.int .i64 n)) (hl : ∀ s ∈ l, 0 ≤ s ∧ s < n) :
    Calls Try.prog 56 #[.slice A l.length c, .func (.func 50) #[] #[.pointer (some ⟨b, 0, none⟩)]] w fun e w' => e = .returned (.int .i64 (-1)) ∧ ∃ k, w' = w.drewN k := by
  unfold maxLen at hm
  have HL := Lib.hid hl
  clear hl
  go_enter Try.func56, Try.ntmps56
  go_wp2
  go_loopg [5, 8] l.length (fun q s5 s8 wr => ∃ k j : Nat, k + q = l.length ∧ s8 = .int .i64 k ∧ wr = w.drewN j)
  case atStart => exact ⟨0, 0, by omega, rfl, rfl⟩
  case round =>
    obtain ⟨k, j, hk, rfl, rfl⟩ := hrel
    cases gk with
    | zero =>
      obtain rfl : k = l.length := by omega
      go_wp2
      go_ret
      exact ⟨rfl, _, rfl⟩
    | succ g1 =>
      have hlt : k < l.length := by omega
      obtain ⟨p, o, rfl, _, hcell⟩ := ints_at hs hlt
      obtain ⟨h0, h1⟩ := HL.out l[k] (List.getElem_mem hlt)
      generalize l[k] = x at *
      have HC := Lib.hid (fun i => sucpred_any b n x (w.drewN i) hc h0 h1)
      clear hs
      go_wp2_with (go_at_call 50; refine (HC.out _).mono ?_; rintro e w4 ⟨rfl, rfl⟩)
      go_roundg g1
      case measure => omega
      case rel => exact ⟨k + 1, j, by omega, by go_num, rfl⟩

set_option maxRecDepth 100000 in
set_option maxHeartbeats 1000000 in
theorem sucdel_any (B : Nat) (A : Option Addr) (l : List Int) (c b n : Nat) (w : World) (hs : Sees w B A (ints l)) (hm : l.length ≤ maxLen) (hc : w.cell? ⟨b, 0, none⟩ = some (.int .i64 n)) (hl : ∀ s ∈ l, 0 ≤ s ∧ s < n) :
    Calls Try.prog 48 #[.slice A l.length c, .func (.func 50) #[] #[.pointer (some ⟨b, 0, none⟩)]] w fun e w' => e = .returned (.slice A l.length c) ∧ ∃ k, w' = w.drewN k := by
  have HC := Lib.hid (sucidx_any B A l c b n w hs hm hc hl)
  clear hs hl
  go_enter Try.func48, Try.ntmps48
  go_wp2_with (go_at_call 56; refine (HC.out).mono ?_; rintro e w4 ⟨rfl, k, rfl⟩)
  go_ret
  exact ⟨rfl, _, rfl⟩

set_option maxRecDepth 100000 in
set_option maxHeartbeats 1000000 in
theorem psucc_any (t : Tm) (n : Nat) (w : World) (ht : ∀ s ∈ succs t, 0 ≤ s ∧ s < n) :
    Calls Try.prog 39 #[.agg #[.int .i64 t.kind, .int .i64 t.a, .int .i64 t.to, .int .i64 t.el], .int .i64 n] w (IntsN23 w (succs t)) := by
  have HY := Row.new (w.alloc (.cells #[.int .i64 t.kind, .int .i64 t.a, .int .i64 t.to, .int .i64 t.el] 32)) 3 #[.int .i64 n]
  have HX := (Row.new w 32 #[.int .i64 t.kind, .int .i64 t.a, .int .i64 t.to, .int .i64 t.el]).alloc (.cells #[.int .i64 n] 3)
  have hb0 : Below w.heap.size w ((w.alloc (.cells #[.int .i64 t.kind, .int .i64 t.a, .int .i64 t.to, .int .i64 t.el] 32)).alloc (.cells #[.int .i64 n] 3)) := ((Below.refl _ _).alloc (Nat.le_refl _) _).alloc (by simp) _
  rw [show (w.alloc (.cells #[.int .i64 t.kind, .int .i64 t.a, .int .i64 t.to, .int .i64 t.el] 32)).heap.size = w.heap.size + 1 by simp] at HY
  have HS := Lib.hid (succ_new t)
  have HB0 := Lib.hid hb0
  have HT := Lib.hid ht
  clear hb0 ht
  go_enter Try.func39, Try.ntmps39
  go_upto_region 1 with fail
  generalize ((w.alloc (.cells #[.int .i64 t.kind, .int .i64 t.a, .int .i64 t.to, .int .i64 t.el] 32)).alloc (.cells #[.int .i64 n] 3)) = W0 at *
  generalize w.heap.size = b0 at HX HY ⊢
  have y0 := HX.k0; have y1 := HX.k1; have y2 := HX.k2; have y3 := HX.k3
  have hb1 : b0 + 1 < W0.heap.size := HY.lt
  generalize b0 + 1 = b1 at HY hb1 ⊢
  have HSC := Lib.hid (HS.out W0)
  clear HS HX
  generalize succs t = l at *
  go_wp2_with (first
    | (go_at_call 49; refine (HSC.out).mono ?_; rintro e w3 ⟨As, cs, rfl, hc1, hc2, hsee, hbd, hnew⟩; have HD := Lib.hid (sucdel_any _ As l cs b1 n w3 hsee (by omega) (HY.below hbd hb1).k0 HT.out); have HSE := Lib.hid hsee; have HBD := Lib.hid hbd; have HNW := Lib.hid hnew; clear hsee hbd hnew)
    | (go_at_call 48; refine (HD.out).mono ?_; rintro e w4 ⟨rfl, k, rfl⟩))
  go_ret
  exact ⟨As, cs, rfl, hc1, hc2, HSE.out.keep fun _ _ => rfl, (HB0.out.trans (HBD.out.mono HB0.out.size)).trans ⟨rfl, rfl, rfl, Nat.le_refl _, fun _ _ => rfl⟩, fun b hb => by have := HNW.out b hb; have := HB0.out.size; omega⟩

end Go.Proofs.Ytncigbpeempnfaa
