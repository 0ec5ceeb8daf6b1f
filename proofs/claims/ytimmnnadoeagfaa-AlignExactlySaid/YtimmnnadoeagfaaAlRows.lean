/-
  The statements' rows, the reference's Rows.
-/
import Derived.Test.YtimmnnadoeagfaaAlRef
namespace Go.Proofs.Ytimmnnadoeagfaa
open Go.RowKit
set_option linter.unusedVariables false

/-- Rows that are seen. -/
structure RS (w : World) (A : Option Addr) (n c : Nat) (l : List Rw) : Prop where
  len : l.length = n
  cap : n ≤ c
  cmx : c ≤ maxLen
  see : RwsAt w w.heap.size A l
theorem RS.below {w w' : World} {A : Option Addr} {n c : Nat} {l : List Rw} (h : RS w A n c l) (hb : Below w.heap.size w w') : RS w' A n c l := ⟨h.len, h.cap, h.cmx, (h.see.below hb).more hb.size⟩
theorem RL.rs {T : TypeId} {w wr : World} {A : Option Addr} {n c : Nat} {l : List Rw} (h : RL Rw.cells 6 T w (.slice A n c) l wr) : RS wr A n c l := by
  obtain ⟨A', c', e, h1, h2⟩ := h.slice
  injection e with e1 e2 e3
  subst e1 e2 e3
  exact ⟨rfl, h1, h2, RwsAt.of_sees h.sees⟩

set_option maxRecDepth 100000 in
set_option maxHeartbeats 4000000 in
theorem rows_any {A : Option Addr} {n c : Nat} {l : List Rw} {w : World} (h : RS w A n c l) (hm : n ≤ 100000) :
    Calls Try.prog 12 #[.slice A n c] w fun e w' => ∃ v, e = .returned v ∧ RL Rw.cells 6 55 w v l w' := by
  obtain ⟨i0, hi0, hz0, hz1, hz2⟩ := info_rrow
  have mixed : Try.prog.follows .mixedOrders = true := by kernel_rfl
  have H := Lib.hid h
  clear h
  go_enter Try.func12, Try.ntmps12
  go_wp2
  go_loopg [3, 4] n (fun g v3 v4 wr => ∃ k : Nat, k + g = n ∧ v4 = .int .i64 k ∧ Hid (RL Rw.cells 6 55 w v3 (l.take k) wr))
  case atStart => exact ⟨0, by omega, by go_num, RL.nil w⟩
  case round =>
    obtain ⟨k, hg, rfl, HP⟩ := hrel
    by_cases hlt : k < n
    · have hkl : k < l.length := by rw [H.out.len]; exact hlt
      have HT := Lib.hid (show l.take (k + 1) = l.take k ++ [l[k]] from List.take_succ_eq_append_getElem hkl)
      have hol : (l.take k).length ≤ 100000 := by rw [List.length_take]; omega
      obtain ⟨b, o, rfl, hb, hx⟩ := H.out.see.at_ hkl
      have hkz : (k : Int) < (n : Int) := by omega
      have CF : Hid (∀ W, Below w.heap.size w W → l[k].At W b (o + k * 6)) := fun W h => ⟨(h.cell (p := ⟨b, _, none⟩) hb).trans hx.c0, (h.cell (p := ⟨b, _, none⟩) hb).trans hx.c1, (h.cell (p := ⟨b, _, none⟩) hb).trans hx.c2, (h.cell (p := ⟨b, _, none⟩) hb).trans hx.c3, (h.cell (p := ⟨b, _, none⟩) hb).trans hx.c4, (h.cell (p := ⟨b, _, none⟩) hb).trans hx.c5⟩
      clear hx
      generalize l.take k = acc at *
      generalize l[k] = x at *
      obtain ⟨x0, x1, x2, x3, x4, x5⟩ := x
      have CF : Hid (∀ W, Below w.heap.size w W → W.cell? ⟨b, o + k * 6, none⟩ = some (.int .i64 x0) ∧ W.cell? ⟨b, o + k * 6 + 1, none⟩ = some (.int .i64 x1) ∧ W.cell? ⟨b, o + k * 6 + 2, none⟩ = some (.int .i64 x2) ∧ W.cell? ⟨b, o + k * 6 + 3, none⟩ = some (.int .i64 x3) ∧ W.cell? ⟨b, o + k * 6 + 4, none⟩ = some (.int .i64 x4) ∧ W.cell? ⟨b, o + k * 6 + 5, none⟩ = some (.int .i64 x5)) := fun W h => ⟨(CF.out W h).c0, (CF.out W h).c1, (CF.out W h).c2, (CF.out W h).c3, (CF.out W h).c4, (CF.out W h).c5⟩
      go_upto_region 5 with fail
      have hG0 := Grew.refl wr
      have HPW := Lib.hid fun W (h : Grew wr W) => HP.out.grew h
      have HS := Lib.hid fun W (h : Grew wr W) => CF.out W (HP.out.grew h).blw
      have hnew := sees_new wr #[.int .i64 x0, .int .i64 x1, .int .i64 x2, .int .i64 x3, .int .i64 x4, .int .i64 x5] 55
      have hsz := HP.out.blw.size
      have hln := hol
      clear HP
      go_wp2_with fail
      go_region_held_law (fun w' => w'.cell? ⟨b, o + k * 6, none⟩ = some (.int .i64 x0) ∧ w'.cell? ⟨b, o + k * 6 + 1, none⟩ = some (.int .i64 x1) ∧ w'.cell? ⟨b, o + k * 6 + 2, none⟩ = some (.int .i64 x2) ∧ w'.cell? ⟨b, o + k * 6 + 3, none⟩ = some (.int .i64 x3) ∧ w'.cell? ⟨b, o + k * 6 + 4, none⟩ = some (.int .i64 x4) ∧ w'.cell? ⟨b, o + k * 6 + 5, none⟩ = some (.int .i64 x5)) (first | exact HS.out _ hG0 | exact HS.out _ hG0.drew | exact HS.out _ (hG0.alloc _) | exact HS.out _ (hG0.drew.alloc _) | exact HS.out _ (hG0.alloc _).drew | exact hXb) (first
        | (refine step_append_any _ rfl (.tmp 11) (.tmp 43) 36 rfl _ 55 i0 _ _ 48 Try.underlying36 hi0 hz0 hz1 hz2 rfl (by decide) _ _ _ rfl (HPW.out _ (by first | exact (hG0.alloc _).drew | exact hG0.drew.alloc _ | exact hG0.alloc _)).own (wr.heap.size + 1) _ 1 1 _ rfl hnew rfl (rwl_one _ _ _ _ _ _) (by unfold maxLen; omega) (by omega) (by simp; omega) ?_; intro v6 W6 ho2 hg2 hb2; have HP6 := Lib.hid ((HPW.out _ (by first | exact (hG0.alloc _).drew | exact hG0.drew.alloc _ | exact hG0.alloc _)).snoc ⟨x0, x1, x2, x3, x4, x5⟩ rfl ho2 hg2); have hXb := CF.out _ HP6.out.blw)
        )
      clear hG0 hnew HPW HS hXb
      go_wp2
      go_roundg (n - (k + 1))
      case measure => omega
      case rel => exact ⟨k + 1, by omega, by go_num, by show RL _ _ _ _ _ _ _; rw [HT.out]; exact HP6.out⟩
    · have hk2 : l.take k = l := List.take_of_length_le (by rw [H.out.len]; omega)
      rw [hk2] at HP
      have hkz : ¬ (k : Int) < (n : Int) := by omega
      clear hk2
      go_wp2
      go_ret
      exact ⟨_, rfl, HP.out⟩

set_option maxRecDepth 100000 in
set_option maxHeartbeats 4000000 in
theorem rowsSame_any {A1 A2 : Option Addr} {n c1 c2 : Nat} {l : List Rw} {w : World} (h1 : RS w A1 n c1 l) (h2 : RS w A2 n c2 l) (hm : n ≤ 100000) :
    Calls Try.prog 11 #[.slice A1 n c1, .slice A2 n c2] w fun e w' => e = .returned (.bool true) ∧ Grew w w' := by
  have mixed : Try.prog.follows .mixedOrders = true := by kernel_rfl
  have H1 := Lib.hid h1
  have H2 := Lib.hid h2
  clear h1 h2
  go_enter Try.func11, Try.ntmps11
  go_wp2
  go_loopg [5] n (fun g v5 wr => ∃ k : Nat, k + g = n ∧ v5 = .int .i64 k ∧ Hid (Grew w wr))
  case atStart => exact ⟨0, by omega, by go_num, Grew.refl w⟩
  case round =>
    obtain ⟨k, hg, rfl, HG⟩ := hrel
    by_cases hlt : k < n
    · have hkl : k < l.length := by rw [H1.out.len]; exact hlt
      obtain ⟨b, o, rfl, hb, hx⟩ := H1.out.see.at_ hkl
      obtain ⟨b', o', rfl, hb', hy⟩ := H2.out.see.at_ hkl
      have hkz : (k : Int) < (n : Int) := by omega
      generalize l[k] = x at *
      have hq := fun W => neq_rw x x W
      rw [rwS_refl] at hq
      obtain ⟨x0, x1, x2, x3, x4, x5⟩ := x
      dsimp only at hq
      obtain ⟨f0, f1, f2, f3, f4, f5⟩ := hx
      obtain ⟨g0, g1, g2, g3, g4, g5⟩ := hy
      dsimp only at f0 f1 f2 f3 f4 f5 g0 g1 g2 g3 g4 g5
      have a0 := HG.out.cell f0; have a1 := HG.out.cell f1; have a2 := HG.out.cell f2; have a3 := HG.out.cell f3; have a4 := HG.out.cell f4; have a5 := HG.out.cell f5
      have b0 := HG.out.cell g0; have b1 := HG.out.cell g1; have b2 := HG.out.cell g2; have b3 := HG.out.cell g3; have b4 := HG.out.cell g4; have b5 := HG.out.cell g5
      clear f0 f1 f2 f3 f4 f5 g0 g1 g2 g3 g4 g5
      go_upto_region 6 with fail
      go_wp2_with fail
      go_quiet (fail)
      go_wp2
      go_roundg (n - (k + 1))
      case measure => omega
      case rel => exact ⟨k + 1, by omega, by go_num, HG.out.drewN _⟩
    · have hkz : ¬ (k : Int) < (n : Int) := by omega
      go_wp2
      go_ret
      exact ⟨rfl, HG.out⟩

end Go.Proofs.Ytimmnnadoeagfaa
