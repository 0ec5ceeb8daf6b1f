/-
  The walk of the statement that a register that is not live does not influence a run.
-/
import Derived.Test.YtncigbpeempnfaaLvHead
import Derived.Test.YtncigbpeempnfaaRunAwake
namespace Go.Proofs.Ytncigbpeempnfaa
open Go.RowKit
set_option linter.unusedVariables false

/-- A run as cells. -/
def rcs (r : Rn) (RA : Option Addr) (rc : Nat) (SA : Option Addr) (sc : Nat) (TA : Option Addr) (tc : Nat) : Array Value := #[.int .i64 r.st, .int .i64 (r.blk : Int), .int .i64 (r.pos : Int), .int .i64 r.val, .slice RA r.regs.length rc, .slice SA 0 sc, .slice TA r.trace.length tc, .int .i64 (r.steps : Int)]

theorem RunV.turnX {W W' : World} {lo X : Nat} {RA TA : Option Addr} {rc tc : Nat} {r : Rn} {cs : Array Value} (h : RunV W lo RA rc TA tc r) (hr : Row W X 46 cs) (hm : Mods (Is X) W W') : RunV W' lo RA rc TA tc r :=
  ⟨hm.ownS h.regs fun q hq e => own_ne_row h.regs hr (by decide) (by rw [hq, e]), hm.ownS h.trace fun q hq e => own_ne_row h.trace hr (by decide) (by rw [hq, e]), h.ne⟩

/-- A run in its box. -/
structure OR (z : Nat) (r : Rn) (RA : Option Addr) (rc : Nat) (SA : Option Addr) (sc : Nat) (TA : Option Addr) (tc : Nat) (W : World) : Prop where
  row : Row W z 46 #[.int .i64 r.st, .int .i64 (r.blk : Int), .int .i64 (r.pos : Int), .int .i64 r.val, .slice RA r.regs.length rc, .slice SA 0 sc, .slice TA r.trace.length tc, .int .i64 (r.steps : Int)]
  v : RunV W 0 RA rc TA tc r

section
variable {z : Nat} {r r' : Rn} {RA RB : Option Addr} {rc rd : Nat} {SA SB : Option Addr} {sc sd : Nat} {TA TB : Option Addr} {tc td : Nat} {W W' : World} {w : World} {args regs : Int} {A : Option Addr} {bs : List Blk} {c : Nat}

theorem OR.next (h : OR z r RA rc SA sc TA tc W) (hb : Below W.heap.size W W') : OR z r RA rc SA sc TA tc W' := ⟨h.row.below hb h.row.lt, h.v.below hb⟩

theorem OR.far {X : Nat} {cs : Array Value} (h : OR z r RA rc SA sc TA tc W) (hr : Row W X 46 cs) (hz : z ≠ X) (hm : Mods (Is X) W W') : OR z r RA rc SA sc TA tc W' := ⟨h.row.mods hm hz, h.v.turnX hr hm⟩

theorem LF23.far {X : Nat} (h : LF23 w w.heap.size args regs A bs c W) (hX : w.heap.size < X) (hm : Mods (Is X) W W') : LF23 w w.heap.size args regs A bs c W' := by
  have hb : Below w.heap.size W W' := hm.below h.below.size fun k hk => by unfold Is at hk; omega
  exact ⟨h.below.trans hb, h.f.mods hm (fun e => by unfold Is at e; omega), h.b.below hb⟩

/-- Another run has been stored into the box. -/
theorem OR.put8 {lo : Nat} (h : OR z r RA rc SA sc TA tc W) (hv : RunV W lo RB rd TB td r') :
    let W' := ((((((((W.setCell ⟨z, 0, none⟩ (.int .i64 r'.st)).setCell ⟨z, 1, none⟩ (.int .i64 (r'.blk : Int))).setCell ⟨z, 2, none⟩ (.int .i64 (r'.pos : Int))).setCell ⟨z, 3, none⟩ (.int .i64 r'.val)).setCell ⟨z, 4, none⟩ (.slice RB r'.regs.length rd)).setCell ⟨z, 5, none⟩ (.slice SB 0 sd)).setCell ⟨z, 6, none⟩ (.slice TB r'.trace.length td)).setCell ⟨z, 7, none⟩ (.int .i64 (r'.steps : Int)))
    OR z r' RB rd SB sd TB td W' ∧ Mods (Is z) W W' :=
  ⟨⟨h.row.put8 _ _ _ _ _ _ _ _, (hv.turnX h.row (mods8 W z _ _ _ _ _ _ _ _)).base (Nat.zero_le _)⟩, mods8 W z _ _ _ _ _ _ _ _⟩

end

/-- A register of a run that is new has been changed. -/
theorem RunV.reg {W5 W : World} {RB TB : Option Addr} {rd td : Nat} {r : Rn} {v : Nat} (h : RunV W W5.heap.size RB rd TB td r) (hb : Below W5.heap.size W5 W) (hv : v < r.regs.length) : ∃ q, RB = some ⟨q, 0, none⟩ ∧ W5.heap.size ≤ q ∧ q < W.heap.size ∧ (∃ u, W.cell? ⟨q, v, none⟩ = some (.int .i64 u)) ∧ W.frozen? ⟨q, v, none⟩ = false ∧
    ∀ x : Int, RunV (W.setCell ⟨q, v, none⟩ (.int .i64 x)) W5.heap.size RB rd TB td { r with regs := r.regs.set v x } ∧ Below W5.heap.size W5 (W.setCell ⟨q, v, none⟩ (.int .i64 x)) := by
  rcases h.regs.2 with ⟨e, h0⟩ | ⟨q, cap, cur, e, hq, hh, _⟩
  · omega
  · injection e with e1 e2 e3
    subst e1
    have hl := ownS_lt h.regs q rfl
    have hc := h.regs.cells (g := q) rfl v _ (show (ints r.regs)[v]? = some (.int .i64 r.regs[v]) by simp [ints, hv])
    refine ⟨q, rfl, hq, hl.2, ⟨_, by simpa [Addr.add_lit] using hc⟩, own_frozen h.regs rfl, fun x => ⟨⟨?_, ?_, fun k h1 h2 => ?_⟩, hb.setCell (p := ⟨q, v, none⟩) hq _⟩⟩
    · have := ownS_put h.regs (g := q) rfl (j := v) (by simp [ints, hv]) (.int .i64 x)
      rw [show (ints r.regs).set v (.int .i64 x) = ints (r.regs.set v x) by simp [ints, List.map_set]] at this
      simpa using this
    · have hM : Mods (Is q) W (W.setCell ⟨q, v, none⟩ (.int .i64 x)) := (Mods.refl (Is q) W).put v _
      exact hM.ownS h.trace fun k hk hs => h.ne k (by unfold Is at hs; rw [hs]; rfl) hk
    · exact h.ne k (by simpa using h1) h2

set_option maxRecDepth 100000 in
set_option maxHeartbeats 8000000 in
theorem LivenessSound_walk (a0 : Array Value) (a1 : Option Addr) (len1 cap1 : Nat) (z1 : List Int) (a2 a3 a4 : Int) (w : World) (w0 : IsFn w a0) (w1 : IsRow .i64 w a1 len1 cap1 z1) (w2 : (Lit.int .u8 a2).wf = true) (w3 : (Lit.int .u8 a3).wf = true) (w4 : (Lit.int .i64 a4).wf = true) :
    Calls Try.prog 5 #[.agg a0, .slice a1 len1 cap1, .int .u8 a2, .int .u8 a3, .int .i64 a4] w fun e w' => e = .returned (.bool true) ∧ Below w.heap.size w w' := by
  obtain ⟨args, regs, A, bs, c, rfl, _, _, hbl, hbm, hs, hw⟩ := w0
  obtain ⟨l, hll, hli, hls, hlc, hcm⟩ := w1.ints
  have hu2 := u8_of_wf w2
  have hu3 := u8_of_wf w3
  have hi4 : InI a4 := i64_of_wf w4
  have hls0 := hls
  have H0 : Hid (LF23 w w.heap.size args regs A bs c _) := LF23.start hs
  have hbl2 : bs.length ≤ maxLen := Nat.le_trans hbl hbm
  have hnm : len1 ≤ maxLen := Nat.le_trans hlc hcm
  have hnm2 : len1 ≤ 9223372036854775807 := by unfold maxLen at hnm; omega
  have HWF := Lib.hid hw
  have HLI := Lib.hid hli
  have HLL := Lib.hid hll
  have HLS := Lib.hid hls
  clear hbl hbm hs hw hls hls0 hli hll w1 hlc hcm
  go_enter Try.func5, Try.ntmps5
  go_wp2_with fail
  refine (awake23_any _).mono ?_
  rintro e W1 ⟨rfl, hb⟩
  have h1 := H0.out.next hb
  have H1 := Lib.hid h1
  have d0 := h1.f.k0; have d1 := h1.f.k1; have d2 := h1.f.k2
  clear hb H0 h1
  go_wp2_with fail
  refine (right9_any w.heap.size A a1 bs c len1 cap1 args regs 0 W1 H1.out.b H1.out.below.size hbl2 hnm).mono ?_
  rintro e W2 ⟨⟨b, rfl, hf⟩, hb⟩
  have h2 := H1.out.next hb
  have H2 := Lib.hid h2
  have d0 := h2.f.k0; have d1 := h2.f.k1; have d2 := h2.f.k2
  clear hb H1 h2 hbl2
  cases b
  · clear hf
    go_wp2_with fail
    refine (awake23_any _).mono ?_
    rintro e W3 ⟨rfl, hb⟩
    have HB3 := Lib.hid (H2.out.next hb).below
    clear hb H2
    go_wp2_with fail
    go_ret
    exact ⟨rfl, HB3.out⟩
  · obtain ⟨hq, hE, hfu, hna⟩ := hf rfl
    obtain ⟨N, hN, hN60, hOK, hFN⟩ := fn_of hq hE HWF.out
    obtain ⟨N', hN', ha0, ha1, _⟩ := eF_ok hE HWF.out
    have hOps := eF_ops hE
    subst hN
    have hm40 : bs.length ≤ 40 := hq.1
    have hc300 : codeN bs ≤ 300 := hq.2.2
    have HOK := Lib.hid hOK
    have HFN := Lib.hid hFN
    have HOPS := Lib.hid hOps
    clear hf hE hOK hFN HWF hfu hOps hq
    by_cases hcond : (len1 : Int) = args ∧ ¬ N = 0
    · obtain ⟨hlen, hN0⟩ := hcond
      subst hlen
      obtain rfl : l.length = len1 := HLL.out
      have hln : l.length ≤ N := by omega
      have e1 : ((l.length : Int) != (l.length : Int)) = false := by simp
      have e2 : ((N : Int) == 0) = false := by simp; omega
      clear ha0 ha1 hN'
      clear d0 d1 d2
      have d0 := H2.out.f.k0; have d1 := H2.out.f.k1; have d2 := H2.out.f.k2
      obtain ⟨K, hK, hK9⟩ : ∃ K : Nat, a2 % 40 = (K : Int) ∧ K < 40 := ⟨(a2 % 40).toNat, by omega, by omega⟩
      obtain ⟨v, hv, hvN⟩ : ∃ v : Nat, a3 % (N : Int) = (v : Int) ∧ v < N := by
        have h1 := Int.emod_nonneg a3 (show (N : Int) ≠ 0 by omega)
        have h2 := Int.emod_lt_of_pos a3 (show (0 : Int) < (N : Int) by omega)
        exact ⟨(a3 % (N : Int)).toNat, by omega, by omega⟩
      have HV := Lib.hid hv
      have HK := Lib.hid hK
      clear hv hK
      have hgood : ∀ m, Good N bs (runR bs (rn0 N l) m) := run_good HOK.out (start_good HOK.out hln HLI.out)
      have hsteps : ∀ m, (runR bs (rn0 N l) m).steps ≤ m := fun m => by
        have := (run_steps bs (rn0 N l) m).1
        have h0 : (rn0 N l).steps = 0 := rfl
        omega
      have HGD := Lib.hid hgood
      have HST := Lib.hid hsteps
      have HEX := Lib.hid (rexec_any l N bs w.heap.size A a1 c cap1 (K : Int) W2 (HLS.out.below H2.out.below) H2.out.b H2.out.below.size (by omega) hln HOK.out HLI.out (by omega) (by omega) (by omega))
      rw [show ((K : Int)).toNat = K from rfl] at HEX
      clear hgood hsteps
      go_upto_region 4 with (go_at_call 24; rw [HK.out]; go_must (refine (HEX.out).mono ?_); rintro e W3 ⟨RA, rc, SA, sc, TA, tc, rfl, hv, hb⟩; have HV3 := Lib.hid hv; have H3 := Lib.hid (H2.out.next hb); clear hv hb)
      obtain ⟨R, hR⟩ : ∃ R : Nat → Rn, R = runR bs (rn0 N l) := ⟨_, rfl⟩
      have HRS : Hid (∀ m, R (m + 1) = stepR bs (R m)) := fun m => by subst hR; rfl
      rw [← hR] at HGD HST HV3 ⊢
      clear hR
      have hba := (Below.refl W3.heap.size W3).alloc (Nat.le_refl _) (.cells #[.int .i64 (R K).st, .int .i64 ((R K).blk : Int), .int .i64 ((R K).pos : Int), .int .i64 (R K).val, .slice RA (R K).regs.length rc, .slice SA 0 sc, .slice TA (R K).trace.length tc, .int .i64 ((R K).steps : Int)] 46)
      have HO4 : Hid (OR W3.heap.size (R K) RA rc SA sc TA tc (W3.alloc (.cells #[.int .i64 (R K).st, .int .i64 ((R K).blk : Int), .int .i64 ((R K).pos : Int), .int .i64 (R K).val, .slice RA (R K).regs.length rc, .slice SA 0 sc, .slice TA (R K).trace.length tc, .int .i64 ((R K).steps : Int)] 46))) := ⟨Row.new _ _ _, (HV3.out.below hba).base (Nat.zero_le _)⟩
      have H4 := Lib.hid (H3.out.next hba)
      have hzw : w.heap.size < W3.heap.size := H3.out.f.lt
      clear HV3 H3 H2 hba d0 d1 d2 HEX HLS
      generalize W3.alloc (.cells #[.int .i64 (R K).st, .int .i64 ((R K).blk : Int), .int .i64 ((R K).pos : Int), .int .i64 (R K).val, .slice RA (R K).regs.length rc, .slice SA 0 sc, .slice TA (R K).trace.length tc, .int .i64 ((R K).steps : Int)] 46) = W4 at *
      obtain ⟨z, hz⟩ : ∃ z, W3.heap.size = z := ⟨_, rfl⟩
      rw [hz] at HO4 hzw ⊢
      clear hz
      go_upto_region 5 with fail
      go_loopg [12] 101 (fun q s12 wr => ∃ (i m : Nat) (RA : Option Addr) (rc : Nat) (SA : Option Addr) (sc : Nat) (TA : Option Addr) (tc : Nat), i + q = 101 ∧ s12 = .int .i64 (i : Int) ∧ m ≤ K + i ∧ Hid (LF23 w w.heap.size (l.length : Int) (N : Int) A bs c wr) ∧ Hid (OR z (R m) RA rc SA sc TA tc wr))
      case atStart => exact ⟨0, K, RA, rc, SA, sc, TA, tc, by omega, rfl, by omega, H4.out, HO4.out⟩
      case round =>
        clear H4 HO4
        obtain ⟨i, m, RA, rc, SA, sc, TA, tc, hi, rfl, hmk, HL, HO⟩ := hrel
        have d0 := HL.out.f.k0; have d1 := HL.out.f.k1; have d2 := HL.out.f.k2
        have hG := HGD.out m
        have hSt := HST.out m
        have HRM := Lib.hid (HRS.out m)
        have HRR : Hid (∃ k, R k = R m ∧ k ≤ K + 101) := ⟨m, rfl, by omega⟩
        obtain ⟨r, hr⟩ : ∃ r, R m = r := ⟨_, rfl⟩
        rw [hr] at hG hSt HRM HO HRR
        have hrl := hG.len
        have HGM := Lib.hid hG
        have s0 := HO.out.row.k0; have s1 := HO.out.row.k1; have s2 := HO.out.row.k2; have s3 := HO.out.row.k3; have s4 := HO.out.row.k4; have s5 := HO.out.row.k5; have s6 := HO.out.row.k6; have s7 := HO.out.row.k7
        have HRL := Lib.hid hrl
        have HRK := Lib.hid hr
        clear hG hr hrl
        by_cases hgo : i < 101 ∧ r.st = 0 ∧ ¬ r.pos = 0
        · obtain ⟨hi1, hs0, hp0⟩ := hgo
          have e1 : (r.st == 0) = true := by simp [hs0]
          have e2 : ((r.pos : Int) != 0) = true := by simp; omega
          clear hs0 hp0
          obtain ⟨g1, rfl⟩ : ∃ g1, gk = g1 + 1 := ⟨gk - 1, by omega⟩
          have CI := Lib.hid (rstepr_any bs r w.heap.size 0 (l.length : Int) (N : Int) RA SA TA A rc sc tc c wr HO.out.v HL.out.b HL.out.below.size (by rw [HRL.out]; exact HOK.out) (by rw [HRL.out]; exact HGM.out) (by omega) (by rw [HRL.out]; omega) (by omega) (by omega))
          obtain ⟨r', hr'⟩ : ∃ r', stepR bs r = r' := ⟨_, rfl⟩
          rw [hr'] at CI HRM
          clear hr'
          go_upto_region 7 with fail
          go_wp2_with (go_at_call 25; go_must (refine (CI.out).mono ?_); rintro e W5 ⟨RC, re, SC, se, TC, te, rfl, hv, hb⟩; have hrow := (HO.out.next hb).row; have u0 := hrow.k0; have u1 := hrow.k1; have u2 := hrow.k2; have u3 := hrow.k3; have u4 := hrow.k4; have u5 := hrow.k5; have u6 := hrow.k6; have u7 := hrow.k7; have q0 := hrow.frozen 0; have q1 := hrow.frozen 1; have q2 := hrow.frozen 2; have q3 := hrow.frozen 3; have q4 := hrow.frozen 4; have q5 := hrow.frozen 5; have q6 := hrow.frozen 6; have q7 := hrow.frozen 7; have HV5 := Lib.hid hv; have HO5 := Lib.hid (HO.out.next hb); have HL5 := Lib.hid (HL.out.next hb); clear hv hb hrow)
          go_roundg g1
          case measure => omega
          case rel =>
            obtain ⟨h6, h7⟩ := HO5.out.put8 (SB := SC) (sd := se) HV5.out
            exact ⟨i + 1, m + 1, RC, re, SC, se, TC, te, by omega, by go_num, by omega, HL5.out.far hzw h7, by rw [HRM.out]; exact h6⟩
        · have hgo2 : ¬ i < 101 ∨ (i < 101 ∧ ¬ r.st = 0) ∨ (i < 101 ∧ r.st = 0 ∧ r.pos = 0) := by omega
          have HGO := Lib.hid hgo2
          clear hgo hgo2
          go_upto_region 5 with fail
          go_cut [55] from 44 to 60 (fun s55 wx => s55 = .bool false ∧ wx = wr)
          case first =>
            rcases HGO.out with h | ⟨h, h1⟩ | ⟨h, h1, h2⟩
            · go_wp2_with fail
              go_meet
              case rel => exact ⟨rfl, rfl⟩
            · have e3 : (r.st == 0) = false := by simp [h1]
              clear h1
              go_wp2_with fail
              go_meet
              case rel => exact ⟨rfl, rfl⟩
            · have e3 : (r.st == 0) = true := by simp [h1]
              have e4 : ((r.pos : Int) != 0) = false := by rw [h2]; rfl
              clear h1 h2
              go_wp2_with fail
              go_meet
              case rel => exact ⟨rfl, rfl⟩
          case rest =>
            obtain ⟨rfl, rfl⟩ := hcut
            have HSK : Hid (r.steps ≤ 141) := by rw [Hid]; omega
            clear HGO hi hmk
            by_cases hst : r.st = 0
            · by_cases hpp : r.pos = 0
              · have e3 : (r.st != 0) = false := by rw [hst]; rfl
                have e4 : ((r.pos : Int) != 0) = false := by rw [hpp]; rfl
                have HS0 := Lib.hid hst
                have HP0 := Lib.hid hpp
                clear hst hpp
                go_upto_region 10 with fail
                have I1 := Lib.hid (pin_any (l.length : Int) (N : Int) A bs c N wc HL.out.blks HFN.out)
                go_upto_region 11 with (go_at_call 17; go_must (refine (I1.out).mono ?_); rintro e W5 h4; obtain ⟨Ai, rfl, h5, h6⟩ := h4.see; have HL5 := Lib.hid (HL.out.next h6); have HO5 := Lib.hid (HO.out.next h6); have HSI := Lib.hid h5; clear h4 h5 h6)
                clear I1 HL HO d0 d1 d2 s0 s1 s2 s3 s4 s5 s6 s7
                have d0 := HL5.out.f.k0; have d1 := HL5.out.f.k1; have d2 := HL5.out.f.k2
                have s0 := HO5.out.row.k0; have s1 := HO5.out.row.k1; have s2 := HO5.out.row.k2; have s3 := HO5.out.row.k3; have s4 := HO5.out.row.k4; have s5 := HO5.out.row.k5; have s6 := HO5.out.row.k6; have s7 := HO5.out.row.k7
                go_upto_region 12 with fail
                rw [HV.out]
                have hblk := HGM.out.blk
                have enn : ((bs.length : Int) != (bs.length : Int)) = false := by simp
                have eee : ((bs.length : Int) == (bs.length : Int)) = true := by simp
                obtain ⟨bi, oi, A2, c2, rfl, hc2, h2, h3⟩ := HSI.out.fl hblk
                have hH := rhas23_any W5.heap.size A2 (inL bs N r.blk) c2 (v : Int) W5 h3 h2
                rw [inL_has' hvN] at hH
                obtain ⟨bl, hbl⟩ : ∃ z, lvB bs v r.blk = z := ⟨_, rfl⟩
                rw [hbl] at hH
                have HH := Lib.hid hH
                have HBL := Lib.hid hbl
                clear hH hbl h2 h3
                generalize inL bs N r.blk = Li at *
                cases bl
                · go_upto_region 14 with (go_at_call 22; go_must (refine (HH.out).mono ?_); rintro e w4 ⟨rfl, rfl⟩)
                  have CC := Lib.hid (rcopyr_any r w4.heap.size RA SA TA rc sc tc w4 (sees_own HO5.out.v.regs) (sees_own HO5.out.v.trace) (Nat.le_refl _) (by rw [HRL.out]; omega) (by have := HGM.out.tr; have := HSK.out; omega))
                  go_upto_region 15 with (go_at_call 26; go_must (refine (CC.out).mono ?_); rintro e W6 ⟨RB, rd, SB, sd, TB, td, rfl, hv, hb⟩; have HV6 := Lib.hid hv; have HB6 := Lib.hid hb; clear hv hb)
                  obtain ⟨q, rfl, hq1, hq2, ⟨u, hcq⟩, hfq, hset⟩ := HV6.out.reg HB6.out (v := v) (by rw [HRL.out]; exact hvN)
                  obtain ⟨hv8, hb8⟩ := hset a4
                  have hba := (Below.refl W6.heap.size W6).alloc (Nat.le_refl _) (.cells #[.int .i64 r.st, .int .i64 (r.blk : Int), .int .i64 (r.pos : Int), .int .i64 r.val, .slice (some ⟨q, 0, none⟩) r.regs.length rd, .slice SB 0 sd, .slice TB r.trace.length td, .int .i64 (r.steps : Int)] 46)
                  have hcq7 := (hba.cell (p := ⟨q, v, none⟩) hq2).trans hcq
                  have hfq7 := ((Mods.of_below (S := No) hba).frozen (p := ⟨q, v, none⟩) hq2 fun h => h).trans hfq
                  have hba8 : Below (W6.setCell ⟨q, v, none⟩ (.int .i64 a4)).heap.size (W6.setCell ⟨q, v, none⟩ (.int .i64 a4)) ((W6.setCell ⟨q, v, none⟩ (.int .i64 a4)).alloc (.cells #[.int .i64 r.st, .int .i64 (r.blk : Int), .int .i64 (r.pos : Int), .int .i64 r.val, .slice (some ⟨q, 0, none⟩) r.regs.length rd, .slice SB 0 sd, .slice TB r.trace.length td, .int .i64 (r.steps : Int)] 46)) := (Below.refl _ _).alloc (Nat.le_refl _) _
                  have hrow8 := Row.new' (W := W6.setCell ⟨q, v, none⟩ (.int .i64 a4)) (p := W6.heap.size) (by simp [World.setCell]) 46 #[.int .i64 r.st, .int .i64 (r.blk : Int), .int .i64 (r.pos : Int), .int .i64 r.val, .slice (some ⟨q, 0, none⟩) r.regs.length rd, .slice SB 0 sd, .slice TB r.trace.length td, .int .i64 (r.steps : Int)]
                  have hrow2 := Row.new W6 46 #[.int .i64 r.st, .int .i64 (r.blk : Int), .int .i64 (r.pos : Int), .int .i64 r.val, .slice (some ⟨q, 0, none⟩) r.regs.length rd, .slice SB 0 sd, .slice TB r.trace.length td, .int .i64 (r.steps : Int)]
                  have HV8 := Lib.hid (hv8.below hba8)
                  have HB8 := Lib.hid (hb8.trans (hba8.mono hb8.size))
                  have HW8 := Lib.hid hrow8
                  have s4 := hrow2.k4
                  have hz6 : z < W6.heap.size := by have := HO5.out.row.lt; have := HB6.out.size; omega
                  have hq6 := hq2
                  have hrl2 : v < r.regs.length := by rw [HRL.out]; exact hvN
                  have hw46 : w4.heap.size ≤ W6.heap.size := HB6.out.size
                  have hw4 := HL5.out.below.size
                  clear hba hrow2 hset hv8 hb8 hba8 hrow8 s0 s1 s2 s3 s5 s6 s7 d0 d1 d2 hq1 hcq hfq
                  go_upto_region 16 with fail
                  clear s4 hcq7 hfq7
                  generalize (W6.setCell ⟨q, v, none⟩ (.int .i64 a4)).alloc (.cells #[.int .i64 r.st, .int .i64 (r.blk : Int), .int .i64 (r.pos : Int), .int .i64 r.val, .slice (some ⟨q, 0, none⟩) r.regs.length rd, .slice SB 0 sd, .slice TB r.trace.length td, .int .i64 (r.steps : Int)] 46) = W8 at *
                  obtain ⟨z2, hz2⟩ : ∃ z2, W6.heap.size = z2 := ⟨_, rfl⟩
                  rw [hz2] at HW8 hz6 ⊢
                  obtain ⟨s0', hs0'⟩ : ∃ s0' : Rn, { r with regs := r.regs.set v a4 } = s0' := ⟨_, rfl⟩
                  have HSS : Hid (s0'.st = r.st ∧ s0'.blk = r.blk ∧ s0'.pos = r.pos ∧ s0'.val = r.val ∧ s0'.regs.length = r.regs.length ∧ s0'.trace = r.trace ∧ s0'.steps = r.steps) := by subst hs0'; exact ⟨rfl, rfl, rfl, rfl, by simp, rfl, rfl⟩
                  have HOS : Hid (OR z2 s0' (some ⟨q, 0, none⟩) rd SB sd TB td W8) := by
                    obtain ⟨g0, g1, g2, g3, g4, g5, g6⟩ := HSS.out
                    refine ⟨?_, ?_⟩
                    · rw [g0, g1, g2, g3, g4, g5, g6]; exact HW8.out
                    · have := HV8.out
                      rw [hs0'] at this
                      exact this.base (Nat.zero_le _)
                  have HGS : Hid (Good N bs s0') := by
                    have := set_good HGM.out (k := (v : Int)) hi4
                    rw [Int.toNat_natCast, hs0'] at this
                    exact this
                  have HSTY : Hid (Stay bs r s0') := by
                    have := set_stay HGM.out HP0.out (k := (v : Int)) (by omega) (by omega) a4 HBL.out
                    rw [Int.toNat_natCast, hs0'] at this
                    exact this
                  have HO8 := Lib.hid (HO5.out.next HB8.out)
                  have HL8 := Lib.hid (HL5.out.next HB8.out)
                  have hzz : w.heap.size < z2 := by omega
                  clear HV6 HB6 HB8 HV8 HW8 HO5 HL5 hz2 hs0' CC HH hq6 HSI hc2 hq2
                  obtain ⟨P, hP⟩ : ∃ P : Nat → Rn, P = runR bs r := ⟨_, rfl⟩
                  obtain ⟨Q, hQ⟩ : ∃ Q : Nat → Rn, Q = runR bs s0' := ⟨_, rfl⟩
                  have HPS : Hid (∀ m, P (m + 1) = stepR bs (P m)) := fun m => by subst hP; rfl
                  have HQS : Hid (∀ m, Q (m + 1) = stepR bs (Q m)) := fun m => by subst hQ; rfl
                  have HP00 : Hid (P 0 = r) := by subst hP; rfl
                  have HQ00 : Hid (Q 0 = s0') := by subst hQ; rfl
                  have HPG : Hid (∀ m, Good N bs (P m)) := fun m => by subst hP; exact run_good HOK.out HGM.out m
                  have HQG : Hid (∀ m, Good N bs (Q m)) := fun m => by subst hQ; exact run_good HOK.out HGS.out m
                  have HPT : Hid (∀ m, (P m).steps ≤ 141 + m) := fun m => by subst hP; have := (run_steps bs r m).1; have := HSK.out; omega
                  have HQT : Hid (∀ m, (Q m).steps ≤ 141 + m) := fun m => by subst hQ; have := (run_steps bs s0' m).1; have := HSK.out; have := HSS.out.2.2.2.2.2.2; omega
                  have HST8 : Hid (∀ m, Stay bs (P m) (Q m)) := fun m => by subst hP hQ; exact run_stay HOK.out HOPS.out HGM.out HSTY.out m
                  clear hP hQ
                  go_upto_region 17 with fail
                  go_loopg [16] 80 (fun q' s16 wx => ∃ (j : Nat) (RA : Option Addr) (rc : Nat) (SA : Option Addr) (sc : Nat) (TA : Option Addr) (tc : Nat) (RB : Option Addr) (rd : Nat) (SB : Option Addr) (sd : Nat) (TB : Option Addr) (td : Nat), j + q' = 80 ∧ s16 = .int .i64 (j : Int) ∧ Hid (LF23 w w.heap.size (l.length : Int) (N : Int) A bs c wx) ∧ Hid (OR z (P j) RA rc SA sc TA tc wx) ∧ Hid (OR z2 (Q j) RB rd SB sd TB td wx))
                  case atStart => exact ⟨0, RA, rc, SA, sc, TA, tc, some ⟨q, 0, none⟩, rd, SB, sd, TB, td, by omega, rfl, HL8.out, by rw [HP00.out]; exact HO8.out, by rw [HQ00.out]; exact HOS.out⟩
                  case round =>
                    clear HL8 HO8 HOS
                    obtain ⟨j, RA, rc, SA, sc, TA, tc, RB, rd, SB, sd, TB, td, hj, rfl, HL, HO, HO2⟩ := hrel
                    have d0 := HL.out.f.k0; have d1 := HL.out.f.k1; have d2 := HL.out.f.k2
                    have hPG := HPG.out j; have hQG := HQG.out j
                    have hPT := HPT.out j; have hQT := HQT.out j
                    have HP1 := Lib.hid (HPS.out j); have HQ1 := Lib.hid (HQS.out j)
                    have HTJ := Lib.hid (HST8.out j)
                    obtain ⟨a, ha⟩ : ∃ a, P j = a := ⟨_, rfl⟩
                    obtain ⟨b, hb⟩ : ∃ b, Q j = b := ⟨_, rfl⟩
                    rw [ha] at hPG hPT HP1 HTJ HO
                    rw [hb] at hQG hQT HQ1 HTJ HO2
                    have HPG1 := Lib.hid hPG; have HQG1 := Lib.hid hQG
                    clear ha hb hPG hQG
                    have s0 := HO.out.row.k0; have s1 := HO.out.row.k1; have s2 := HO.out.row.k2; have s3 := HO.out.row.k3; have s4 := HO.out.row.k4; have s5 := HO.out.row.k5; have s6 := HO.out.row.k6; have s7 := HO.out.row.k7
                    cases gk with
                    | zero =>
                      obtain rfl : j = 80 := by omega
                      obtain ⟨bst, bblk, bpos, bval, bregs, btr, bsteps⟩ := b
                      obtain ⟨h1, h2, h3, h4, h5, h6, _, _⟩ := HTJ.out
                      dsimp only at h1 h2 h3 h4 h5 h6
                      have hatl : a.trace.length ≤ 1000000 := by have := HPG1.out.tr; omega
                      subst h1 h2 h3 h4 h5 h6
                      have u0 := HO2.out.row.k0; have u1 := HO2.out.row.k1; have u2 := HO2.out.row.k2; have u3 := HO2.out.row.k3; have u4 := HO2.out.row.k4; have u5 := HO2.out.row.k5; have u6 := HO2.out.row.k6; have u7 := HO2.out.row.k7
                      dsimp only at u0 u1 u2 u3 u4 u5 u6 u7
                      have CP := Lib.hid (vals_at (W := wr) wr.heap.size a.trace a.trace.length tc td rfl (sees_own HO.out.v.trace) (sees_own HO2.out.v.trace) (by unfold maxLen; omega))
                      clear HTJ HP1 HQ1 HPG1 HQG1 hPT hQT d0 d1 d2
                      go_wp2_with (go_at_call 27; go_must (refine (CP.out).mono ?_); rintro e W7 ⟨rfl, hd⟩; have HD := Lib.hid hd; clear hd)
                      go_ret
                      exact ⟨rfl, HL.out.below.trans ((blw_drewN' HD.out).mono HL.out.below.size)⟩
                    | succ g1 =>
                      have hj8 : j < 80 := by omega
                      have CI := Lib.hid (rstepr_any bs a w.heap.size 0 (l.length : Int) (N : Int) RA SA TA A rc sc tc c wr HO.out.v HL.out.b HL.out.below.size (by rw [HPG1.out.len]; exact HOK.out) (by rw [HPG1.out.len]; exact HPG1.out) (by omega) (by rw [HPG1.out.len]; omega) (by omega) (by omega))
                      obtain ⟨a', ha'⟩ : ∃ r', stepR bs a = r' := ⟨_, rfl⟩
                      obtain ⟨b', hb'⟩ : ∃ r', stepR bs b = r' := ⟨_, rfl⟩
                      rw [ha'] at CI HP1
                      rw [hb'] at HQ1
                      have HB' := Lib.hid hb'
                      clear ha' hb'
                      go_upto_region 20 with (go_at_call 25; go_must (refine (CI.out).mono ?_); rintro e W5 ⟨RC, re, SC, se, TC, te, rfl, hv, hb⟩; have hrow := (HO.out.next hb).row; have u0 := hrow.k0; have u1 := hrow.k1; have u2 := hrow.k2; have u3 := hrow.k3; have u4 := hrow.k4; have u5 := hrow.k5; have u6 := hrow.k6; have u7 := hrow.k7; have q0 := hrow.frozen 0; have q1 := hrow.frozen 1; have q2 := hrow.frozen 2; have q3 := hrow.frozen 3; have q4 := hrow.frozen 4; have q5 := hrow.frozen 5; have q6 := hrow.frozen 6; have q7 := hrow.frozen 7; have HV5 := Lib.hid hv; have HO5 := Lib.hid (HO.out.next hb); have HL5 := Lib.hid (HL.out.next hb); have HO6 := Lib.hid (HO2.out.next hb); clear hv hb hrow)
                      obtain ⟨h6, h7⟩ := HO5.out.put8 (SB := SC) (sd := se) HV5.out
                      have HO7 := Lib.hid h6
                      have HL7 := Lib.hid (HL5.out.far hzw h7)
                      have HO8 := Lib.hid (HO6.out.far HO5.out.row (by omega) h7)
                      clear h6 h7 HO5 HL5 HO6 HV5 u0 u1 u2 u3 u4 u5 u6 u7 q0 q1 q2 q3 q4 q5 q6 q7 d0 d1 d2 s0 s1 s2 s3 s4 s5 s6 s7 CI HL HO HO2
                      generalize ((((((((W5.setCell ⟨z, 0, none⟩ (.int .i64 a'.st)).setCell ⟨z, 1, none⟩ (.int .i64 (a'.blk : Int))).setCell ⟨z, 2, none⟩ (.int .i64 (a'.pos : Int))).setCell ⟨z, 3, none⟩ (.int .i64 a'.val)).setCell ⟨z, 4, none⟩ (.slice RC a'.regs.length re)).setCell ⟨z, 5, none⟩ (.slice SC 0 se)).setCell ⟨z, 6, none⟩ (.slice TC a'.trace.length te)).setCell ⟨z, 7, none⟩ (.int .i64 (a'.steps : Int))) = W7 at *
                      have d0 := HL7.out.f.k0; have d1 := HL7.out.f.k1; have d2 := HL7.out.f.k2
                      have s0 := HO8.out.row.k0; have s1 := HO8.out.row.k1; have s2 := HO8.out.row.k2; have s3 := HO8.out.row.k3; have s4 := HO8.out.row.k4; have s5 := HO8.out.row.k5; have s6 := HO8.out.row.k6; have s7 := HO8.out.row.k7
                      have CJ := Lib.hid (rstepr_any bs b w.heap.size 0 (l.length : Int) (N : Int) RB SB TB A rd sd td c W7 HO8.out.v HL7.out.b HL7.out.below.size (by rw [HQG1.out.len]; exact HOK.out) (by rw [HQG1.out.len]; exact HQG1.out) (by omega) (by rw [HQG1.out.len]; omega) (by omega) (by omega))
                      rw [HB'.out] at CJ
                      go_wp2_with (go_at_call 25; go_must (refine (CJ.out).mono ?_); rintro e W9 ⟨RD, rf, SD, sf, TD, tf, rfl, hv, hb⟩; have hrow := (HO8.out.next hb).row; have u0 := hrow.k0; have u1 := hrow.k1; have u2 := hrow.k2; have u3 := hrow.k3; have u4 := hrow.k4; have u5 := hrow.k5; have u6 := hrow.k6; have u7 := hrow.k7; have q0 := hrow.frozen 0; have q1 := hrow.frozen 1; have q2 := hrow.frozen 2; have q3 := hrow.frozen 3; have q4 := hrow.frozen 4; have q5 := hrow.frozen 5; have q6 := hrow.frozen 6; have q7 := hrow.frozen 7; have HV9 := Lib.hid hv; have HO9 := Lib.hid (HO8.out.next hb); have HL9 := Lib.hid (HL7.out.next hb); have HO10 := Lib.hid (HO7.out.next hb); clear hv hb hrow)
                      go_roundg g1
                      case measure => omega
                      case rel =>
                        obtain ⟨h6, h7⟩ := HO9.out.put8 (SB := SD) (sd := sf) HV9.out
                        exact ⟨j + 1, RC, re, SC, se, TC, te, RD, rf, SD, sf, TD, tf, by omega, by go_num, HL9.out.far hzz h7, by rw [HP1.out]; exact HO10.out.far HO9.out.row (by omega) h7, by rw [HQ1.out]; exact h6⟩
                · go_wp2_with (go_at_call 22; go_must (refine (HH.out).mono ?_); rintro e w4 ⟨rfl, rfl⟩)
                  go_ret
                  exact ⟨rfl, HL5.out.below⟩
              · have e3 : (r.st != 0) = false := by rw [hst]; rfl
                have e4 : ((r.pos : Int) != 0) = true := by simp; omega
                clear hst hpp
                go_wp2_with fail
                go_ret
                exact ⟨rfl, HL.out.below⟩
            · have e3 : (r.st != 0) = true := by simp [hst]
              clear hst
              go_wp2_with fail
              go_ret
              exact ⟨rfl, HL.out.below⟩
    · have hcc : ((len1 : Int) != args) = true ∨ (((len1 : Int) != args) = false ∧ ((N : Int) == 0) = true) := by
        by_cases h : (len1 : Int) = args
        · right; refine ⟨by simp [h], ?_⟩
          have : N = 0 := by
            by_cases hn : N = 0
            · exact hn
            · exact absurd ⟨h, hn⟩ hcond
          rw [this]; rfl
        · left; simp [h]
      clear hcond ha0 ha1 hN'
      rcases hcc with e1 | ⟨e1, e2⟩
      · go_wp2_with fail
        refine (awake23_any _).mono ?_
        rintro e W3 ⟨rfl, hb⟩
        have HB3 := Lib.hid (H2.out.next hb).below
        clear hb H2
        go_wp2_with fail
        go_ret
        exact ⟨rfl, HB3.out⟩
      · go_wp2_with fail
        refine (awake23_any _).mono ?_
        rintro e W3 ⟨rfl, hb⟩
        have HB3 := Lib.hid (H2.out.next hb).below
        clear hb H2
        go_wp2_with fail
        go_ret
        exact ⟨rfl, HB3.out⟩

end Go.Proofs.Ytncigbpeempnfaa
