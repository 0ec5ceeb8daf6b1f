/-
  The program of layer 21: the instructions of a block, read by a function that tells the opcode.
-/
import Derived.Test.YtkapmfopfddmbaaDcPb
import Derived.Deep.LoopGhost
import Derived.Deep.Cut
import Derived.Deep.CutRange
namespace Go.Proofs.Ytkapmfopfddmbaa
open Go.RowKit
set_option linter.unusedVariables false
set_option linter.unusedSimpArgs false

/-- What a reader of opcodes leaves. -/
def RdG (lo p : Nat) (l : List Nat) (A : Option Addr) (c : Nat) (r : Int × Ip) (w : World) (e : Ending) (w' : World) : Prop := e = .returned (.int .i64 r.1) ∧ Mods (Is p) w w' ∧ CE lo p l A c r.2 w'

section
variable {w : World} {lo p : Nat} {l : List Nat} {A : Option Addr} {c : Nat} {t : Ip} {x1 x2 : Nat} {a r n b : Int}

set_option maxRecDepth 100000 in
set_option maxHeartbeats 1000000 in
theorem dinsI_ce (h : CE lo p l A c t w) (h1 : Row w x1 36 #[.pointer (some ⟨p, 0, none⟩)]) (h2 : Row w x2 84 #[.int .i64 a, .int .i64 r, .int .i64 n, .int .i64 b]) (hr : 0 ≤ r ∧ r ≤ 1048576) :
    Calls Try.prog 61 #[.pointer (some ⟨x1, 0, none⟩), .pointer (some ⟨x2, 0, none⟩)] w (RdG lo p l A c (gI r t) w) := by
  have hfd : ∀ (v0 v1 v2 v3 v4 : Value) (w : World), (Instr.field 92 (.agg #[v0, v1, v2, v3, v4]) 0).run Try.prog w = .ok v0 w := by intros; kernel_rfl
  unfold RdG gI
  obtain ⟨⟨m, u⟩, hm⟩ : ∃ y, instrE r t = y := ⟨_, rfl⟩
  have C := Lib.hid (instr_ce h r ⟨hr.1, by omega⟩ hm)
  rw [hm]
  have c0 := h1.k0; have c1 := h2.k1
  clear h h1 h2 hm
  go_enter Try.func61, Try.ntmps61
  go_wp2_with fail
  refine C.out.mono ?_
  rintro e W1 ⟨rfl, hm, hc⟩
  have HM := Lib.hid hm
  have HC := Lib.hid hc
  clear hm hc C
  go_wp2
  go_ret
  exact ⟨rfl, HM.out, HC.out⟩

set_option maxRecDepth 100000 in
set_option maxHeartbeats 1000000 in
theorem dinsM_ce (h : CE lo p l A c t w) (h1 : Row w x1 36 #[.pointer (some ⟨p, 0, none⟩)]) (h2 : Row w x2 84 #[.int .i64 a, .int .i64 r, .int .i64 n, .int .i64 b]) (hr : 0 ≤ r ∧ r ≤ 1048576) (hn : 0 ≤ n ∧ n ≤ 1048576) :
    Calls Try.prog 63 #[.pointer (some ⟨x1, 0, none⟩), .pointer (some ⟨x2, 0, none⟩)] w (RdG lo p l A c (gM r n t) w) := by
  have hfd : ∀ (v0 v1 v2 v3 v4 v5 v6 : Value) (w : World), (Instr.field 97 (.agg #[v0, v1, v2, v3, v4, v5, v6]) 0).run Try.prog w = .ok v0 w := by intros; kernel_rfl
  unfold RdG gM
  obtain ⟨⟨m, u⟩, hm⟩ : ∃ y, machE r n t = y := ⟨_, rfl⟩
  have C := Lib.hid (mach_ce h r n ⟨hr.1, by omega⟩ ⟨hn.1, by omega⟩ hm)
  rw [hm]
  have c0 := h1.k0; have c1 := h2.k1; have c2 := h2.k2
  clear h h1 h2 hm
  go_enter Try.func63, Try.ntmps63
  go_wp2_with fail
  refine C.out.mono ?_
  rintro e W1 ⟨rfl, hm, hc⟩
  have HM := Lib.hid hm
  have HC := Lib.hid hc
  clear hm hc C
  go_wp2
  go_ret
  exact ⟨rfl, HM.out, HC.out⟩

end

set_option maxRecDepth 100000 in
set_option maxHeartbeats 4000000 in
theorem dcode_any {w : World} {lo p : Nat} {l : List Nat} {A : Option Addr} {c : Nat} {s : Ip} (h : CE lo p l A c s w) (k : Nat) (hk : k ≤ 1048576) (K : FuncId) (caps : Array Value) (hK : ∀ args W, (callFunc K args).run Try.prog W = .ok (.enter K args) W) (g : Ip → Int × Ip)
    (HG : ∀ W t, Mods (Is p) w W → CE lo p l A c t W → Calls Try.prog K caps W (RdG lo p l A c (g t) W)) :
    Calls Try.prog 71 #[.pointer (some ⟨p, 0, none⟩), .int .i64 k, .func (.func K) #[] caps] w fun e w' => e = .returned (.tuple #[]) ∧ Mods (Is p) w w' ∧ CE lo p l A c (cdE g k 0 s) w' := by
  have HC := Lib.hid h
  have HGG := Lib.hid HG
  obtain ⟨T, hT⟩ : ∃ T, cdE g k 0 s = T := ⟨_, rfl⟩
  rw [hT]
  have HT := Lib.hid hT
  clear h HG hT
  go_enter Try.func71, Try.ntmps71
  go_wp2
  go_loopg [6, 7] k (fun gk v6 v7 wr => ∃ (m run : Nat) (t : Ip), m + gk = k ∧ v6 = .int .i64 run ∧ v7 = .int .i64 m ∧ run ≤ m ∧ Hid (T = cdE g gk run t) ∧ Hid (Mods (Is p) w wr) ∧ Hid (CE lo p l A c t wr))
  case atStart => exact ⟨0, 0, s, by omega, rfl, rfl, Nat.le_refl _, HT.out.symm, Mods.refl _ _, HC.out⟩
  case round =>
    clear HC HT
    obtain ⟨m, run, t, hmk, rfl, rfl, hrm, HT, HM, HC⟩ := hrel
    cases gk with
    | zero =>
      have hlt : ¬ (m : Int) < (k : Int) := by omega
      have HE : Hid (T = t) := HT.out
      clear HT
      go_wp2
      go_end0
      exact ⟨rfl, HM.out, by rw [HE.out]; exact HC.out⟩
    | succ gk =>
      have hlt : (m : Int) < (k : Int) := by omega
      have C1 := Lib.hid (err_ce HC.out)
      by_cases he : t.err = 0
      case neg =>
        have d0 : (t.err == 0) = false := by simp [he]
        have HE : Hid (T = t) := by show T = t; rw [HT.out, cdE_err he]
        clear HT he
        go_wp2_with fail
        refine C1.out.mono ?_
        rintro e W ⟨rfl, rfl⟩
        go_wp2
        go_end0
        exact ⟨rfl, HM.out, by rw [HE.out]; exact HC.out⟩
      have d0 : (t.err == 0) = true := by simp [he]
      have C2 := Lib.hid (HGG.out wr t HM.out HC.out)
      obtain ⟨⟨o, u⟩, ho⟩ : ∃ y, g t = y := ⟨_, rfl⟩
      have HT2 : Hid (T = cdE g gk (if o = 18 then run + 1 else 0) (if 64 < (if o = 18 then run + 1 else 0) then failE 15 u else u)) := by
        show T = _
        rw [HT.out]
        show (if t.err ≠ 0 then t else _) = _
        rw [if_neg (fun hh => hh he), ho]
      unfold RdG at C2
      rw [ho] at C2
      dsimp only at C2
      clear HT he ho
      go_wp2_with fail
      refine C1.out.mono ?_
      rintro e W ⟨rfl, rfl⟩
      clear C1
      go_wp2_with fail
      refine C2.out.mono ?_
      rintro e W2 ⟨rfl, hm, hc⟩
      have HM2 := Lib.hid (HM.out.trans hm)
      have HC2 := Lib.hid hc
      clear hm hc C2 HM HC
      obtain ⟨r2, hr2⟩ : ∃ r2, (if o = 18 then run + 1 else 0) = r2 := ⟨_, rfl⟩
      rw [hr2] at HT2
      have hr2m : r2 ≤ m + 1 := by rw [← hr2]; split <;> omega
      have HR2 := Lib.hid hr2
      clear hr2
      go_upto_if 20 with fail
      go_cut [6] from 8 (fun s6 wx => s6 = .int .i64 r2 ∧ wx = W2)
      case first =>
        by_cases h18 : o = 18
        · have d1 : (o == 18) = true := by simp [h18]
          have hb : Hid (((run : Int) + 1) = (r2 : Int)) := by show _ = _; rw [← HR2.out, if_pos h18]; rfl
          clear h18
          go_wp2_with fail
          go_meet
          case rel => exact ⟨by rw [hb.out], rfl⟩
        · have d1 : (o == 18) = false := by simp [h18]
          have hb : Hid ((0 : Int) = (r2 : Int)) := by show _ = _; rw [← HR2.out, if_neg h18]; rfl
          clear h18
          go_wp2_with fail
          go_meet
          case rel => exact ⟨by rw [hb.out], rfl⟩
      case rest =>
        obtain ⟨hs6, hwc⟩ := hcut
        subst hs6 hwc
        have C3 := Lib.hid (dfail_ce HC2.out (decide ((64 : Int) < (r2 : Int))) 15 (by decide))
        have HT3 : Hid (T = cdE g gk r2 (if decide ((64 : Int) < (r2 : Int)) = true then failE 15 u else u)) := by
          show T = _
          rw [HT2.out]
          by_cases h9 : 64 < r2
          · rw [if_pos h9, if_pos (by simp; omega)]
          · rw [if_neg h9, if_neg (by simp; omega)]
        clear HT2 HR2
        obtain ⟨u2, hu2⟩ : ∃ u2, (if decide ((64 : Int) < (r2 : Int)) = true then failE 15 u else u) = u2 := ⟨_, rfl⟩
        rw [hu2] at C3 HT3
        clear hu2
        go_wp2_with fail
        refine C3.out.mono ?_
        rintro e W3 ⟨rfl, hm, hc⟩
        have HM3 := Lib.hid (HM2.out.trans hm)
        have HC3 := Lib.hid hc
        clear hm hc C3 HM2 HC2
        go_wp2
        go_roundg gk
        case measure => omega
        case rel => exact ⟨m + 1, r2, u2, by omega, rfl, rfl, by omega, HT3.out, HM3.out, HC3.out⟩

end Go.Proofs.Ytkapmfopfddmbaa
