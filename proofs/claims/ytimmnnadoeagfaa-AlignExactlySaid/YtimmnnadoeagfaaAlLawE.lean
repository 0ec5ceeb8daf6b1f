/-
  The walk of the statement on a block and its own instructions.
-/
import Derived.Test.YtimmnnadoeagfaaAlAwake
import Derived.Test.YtimmnnadoeagfaaAlIn
import Derived.Test.YtimmnnadoeagfaaAlSwap
import Derived.Test.YtimmnnadoeagfaaAlInfo
import Derived.Deep.RegionHeldLaw
namespace Go.Proofs.Ytimmnnadoeagfaa
open Go.RowKit
set_option linter.unusedVariables false

theorem u16_nat' {a : Int} (h : (Lit.int .u16 a).wf = true) : ∃ d : Nat, a = (d : Int) ∧ d ≤ 65535 := by
  simp [Lit.wf, IntKind.min, IntKind.max, IntKind.signed, IntKind.bits] at h
  exact ⟨a.toNat, by omega, by omega⟩
theorem rem_nat' (d n : Nat) (h : 0 < n) : ∃ i : Nat, (d : Int) % (n : Int) = (i : Int) ∧ i < n := ⟨d % n, by rw [Int.natCast_emod], Nat.mod_lt _ h⟩

/-- The operations of the first instructions. -/
def bld (l : List In) (n : Nat) : List Mi := (opC (l.take n)).map mkM
theorem bld_true {l : List In} {n : Nat} (h : n < l.length) (hc : isC l[n] = true) : bld l (n + 1) = bld l n := by
  unfold bld opC
  rw [List.take_succ_eq_append_getElem h, List.filter_append, List.filter_cons_of_neg (by simp [hc])]
  simp
theorem bld_false {l : List In} {n : Nat} (h : n < l.length) (hc : isC l[n] = false) : bld l (n + 1) = bld l n ++ [mkM l[n]] := by
  unfold bld opC
  rw [List.take_succ_eq_append_getElem h, List.filter_append, List.filter_cons_of_pos (by simp [hc])]
  simp
theorem bld_len (l : List In) (n : Nat) : (bld l n).length ≤ l.length := by
  unfold bld opC
  rw [List.length_map]
  exact Nat.le_trans (List.length_filter_le _ _) (by simp; omega)
theorem no18_step {l : List In} {n : Nat} (h : n < l.length) (hp : ∀ x ∈ l.take n, x.op ≠ 18) (hn : l[n].op ≠ 18) : ∀ x ∈ l.take (n + 1), x.op ≠ 18 := fun x hx => by
  rw [List.take_succ_eq_append_getElem h] at hx
  rcases List.mem_append.1 hx with hx | hx
  · exact hp x hx
  · rw [List.mem_singleton] at hx
    subst hx
    exact hn

set_option maxRecDepth 100000 in
set_option maxHeartbeats 4000000 in
theorem alE_big (A0 : Option Addr) (n0 c0 : Nat) (a1 a2 a3 : Int) (w : World) (h : 300 < n0) :
    Calls Try.prog 6 #[.slice A0 n0 c0, .int .u16 a1, .int .i64 a2, .int .i64 a3] w fun e w' => e = .returned (.bool true) ∧ Below w.heap.size w w' := by
  have AW := Lib.hid fun W => awake_any W
  have z0 : (300 : Int) < (n0 : Int) := by omega
  clear h
  go_enter Try.func6, Try.ntmps6
  go_wp2_with fail
  refine (AW.out _).mono ?_
  rintro e W1 ⟨rfl, hb⟩
  have HB := Lib.hid ((Below.refl w.heap.size w).trans (hb.mono (Below.refl w.heap.size w).size))
  clear hb
  go_wp2_with fail
  refine (AW.out _).mono ?_
  rintro e W2 ⟨rfl, hb⟩
  have HB2 := Lib.hid (HB.out.trans (hb.mono HB.out.size))
  clear hb
  go_wp2
  go_ret
  exact ⟨rfl, HB2.out⟩

set_option maxRecDepth 100000 in
set_option maxHeartbeats 16000000 in
theorem AlignExactly_walk (a0 : Option Addr) (len0 cap0 : Nat) (a1 a2 a3 : Int) (w : World) (w0 : IsIns w a0 len0 cap0) (w1 : (Lit.int .u16 a1).wf = true) (w2 : (Lit.int .i64 a2).wf = true) (w3 : (Lit.int .i64 a3).wf = true) :
    Calls Try.prog 6 #[.slice a0 len0 cap0, .int .u16 a1, .int .i64 a2, .int .i64 a3] w fun e w' => e = .returned (.bool true) ∧ Below w.heap.size w w' := by
  obtain ⟨code, _, hc⟩ := w0
  by_cases hbig : 300 < len0
  · exact alE_big _ _ _ a1 a2 a3 w hbig
  · have z0 : ¬ (300 : Int) < (len0 : Int) := by omega
    have n0 : len0 ≤ 300 := by omega
    obtain ⟨d1, rfl, hd1⟩ := u16_nat' w1
    have mixed : Try.prog.follows .mixedOrders = true := by kernel_rfl
    obtain ⟨j0, hj0, hy0, hy1, hy2⟩ := info_mis
    have AW := Lib.hid fun W => awake_any W
    have hcl := hc.len
    have HC0 := Lib.hid hc
    clear hc hbig w1 w2 w3
    go_enter Try.func6, Try.ntmps6
    go_wp2_with fail
    refine (AW.out _).mono ?_
    rintro e W1 ⟨rfl, hb⟩
    have HB1 := Lib.hid hb
    have HC1 := Lib.hid (HC0.out.below hb)
    clear hb AW HC0
    go_wp2
    go_loopg [9, 10] len0 (fun g v9 v10 wr => ∃ n : Nat, n + g = len0 ∧ v10 = .int .i64 n ∧ Hid (∀ x ∈ code.take n, x.op ≠ 18) ∧ Hid (RL Mi.cells 7 28 W1 v9 (bld code n) wr))
    case atStart => exact ⟨0, by omega, by go_num, fun x hx => by simp at hx, RL.nil W1⟩
    case round =>
      obtain ⟨n, hg, rfl, HN, HP⟩ := hrel
      by_cases hlt : n < len0
      · have hnz : (n : Int) < (len0 : Int) := by omega
        have hnl : n < code.length := by omega
        obtain ⟨b, o, rfl, hb, hx⟩ := HC1.out.see.at_ hnl
        have HTT := Lib.hid (bld_true (l := code) hnl)
        have HTF := Lib.hid (bld_false (l := code) hnl)
        have HST := Lib.hid (no18_step hnl HN.out)
        have CF : Hid (∀ W, Below W1.heap.size W1 W → code[n].At W b (o + n * 5)) := fun W h => hx.keep hb fun _ hp => h.cell hp
        have hol := bld_len code n
        rw [hcl] at hol
        generalize code[n] = x at *
        generalize bld code n = acc at *
        obtain ⟨x0, x1, x2, x3, x4⟩ := x
        have CF : Hid (∀ W, Below W1.heap.size W1 W → W.cell? ⟨b, o + n * 5, none⟩ = some (.int .i64 x0) ∧ W.cell? ⟨b, o + n * 5 + 4, none⟩ = some (.int .i64 x4)) := fun W h => ⟨(CF.out W h).c0, (CF.out W h).c4⟩
        obtain ⟨f0, f4⟩ := CF.out _ HP.out.blw
        dsimp only [isC, mkM] at HTT HTF HST
        clear hx
        by_cases h18 : x0 = 18
        · have e18 : (x0 == 18) = true := by simp [h18]
          clear h18
          go_wp2
          go_ret
          exact ⟨rfl, HB1.out.trans (HP.out.blw.mono HB1.out.size)⟩
        · have e18 : (x0 == 18) = false := by simp [h18]
          have HN2 := Lib.hid (HST.out h18)
          clear h18 HST
          rcases e2 : (x0 == 2) with _ | _
          · have e3 : (x0 != 2) = true := by simp [bne, e2]
            have HT := Lib.hid (HTF.out e2)
            clear e2 HTT HTF
            go_upto_region 10 with fail
            clear f0 f4
            have hG0 := Grew.refl wr
            have HPW := Lib.hid fun W (h : Grew wr W) => HP.out.grew h
            have HS := Lib.hid fun W (h : Grew wr W) => CF.out W (HP.out.grew h).blw
            have hnew := sees_new wr #[.int .i64 x0, .int .i64 0, .int .i64 0, .int .i64 0, .int .i64 x4, .int .i64 0, .int .i64 0] 28
            have hsz := HP.out.blw.size
            have hln := hol
            clear HP
            go_wp2_with fail
            go_region_held_law (fun w' => w'.cell? ⟨b, o + n * 5, none⟩ = some (.int .i64 x0) ∧ w'.cell? ⟨b, o + n * 5 + 4, none⟩ = some (.int .i64 x4)) (first | exact HS.out _ hG0 | exact HS.out _ hG0.drew | exact HS.out _ (hG0.alloc _) | exact HS.out _ (hG0.drew.alloc _) | exact HS.out _ (hG0.alloc _).drew | exact hXb) (first
              | (refine step_append_any _ rfl (.tmp 45) (.tmp 57) 23 rfl _ 28 j0 _ _ 56 Try.underlying23 hj0 hy0 hy1 hy2 rfl (by decide) _ _ _ rfl (HPW.out _ (by first | exact (hG0.alloc _).drew | exact hG0.drew.alloc _ | exact hG0.alloc _)).own (wr.heap.size + 1) _ 1 1 _ rfl hnew rfl (mi_one (⟨x0, 0, 0, 0, x4, 0, 0⟩ : Mi)) (by unfold maxLen; omega) (by omega) (by simp; omega) ?_; intro v6 W6 ho2 hg2 hb2; have HP6 := Lib.hid ((HPW.out _ (by first | exact (hG0.alloc _).drew | exact hG0.drew.alloc _ | exact hG0.alloc _)).snoc (⟨x0, 0, 0, 0, x4, 0, 0⟩ : Mi) rfl ho2 hg2); have hXb := CF.out _ HP6.out.blw)
              )
            clear hG0 hnew HPW HS hXb
            go_wp2
            go_roundg (len0 - (n + 1))
            case measure => omega
            case rel => exact ⟨n + 1, by omega, by go_num, HN2.out, by show RL _ _ _ _ _ _ _; rw [HT.out]; exact HP6.out⟩
          · have e3 : (x0 != 2) = false := by simp [bne, e2]
            have HT := Lib.hid (HTT.out e2)
            clear e2 HTT HTF
            go_wp2
            go_roundg (len0 - (n + 1))
            case measure => omega
            case rel => exact ⟨n + 1, by omega, by go_num, HN2.out, by show RL _ _ _ _ _ _ _; rw [HT.out]; exact HP.out⟩
      · have hnz : ¬ (n : Int) < (len0 : Int) := by omega
        have hnt : code.take n = code := List.take_of_length_le (by omega)
        have hb18 := HN.out
        rw [hnt] at hb18
        have HP2 : Hid (RL Mi.cells 7 28 W1 u9 ((opC code).map mkM) wr) := by
          have := HP.out
          unfold bld at this
          rwa [hnt] at this
        have hol := bld_len code n
        unfold bld at hol
        rw [hnt, hcl] at hol
        have H18 := Lib.hid hb18
        have HOWN := Lib.hid (alC_own hb18)
        have HOKM : Hid (∀ x ∈ (opC code).map mkM, x.Ok) := fun x hx => by
          obtain ⟨z, _, rfl⟩ := List.mem_map.1 hx
          exact ⟨alfits0, alfits0⟩
        obtain ⟨R1, R2, R3, HR⟩ : ∃ x y z, Hid (alC code ((opC code).map mkM) = (x, y, z)) := ⟨_, _, _, rfl⟩
        rw [HR.out] at HOWN
        have h3 := HOWN.out
        dsimp only at h3
        subst h3
        have HMK : Hid (∀ j (h1 : j < ((opC code).map mkM).length) (h2 : j < (opC code).length), ((opC code).map mkM)[j] = mkM (opC code)[j]) := fun j h1 h2 => by simp
        have HSW : Hid (∀ k (hk : k < (opC code).length) (y : Mi), ¬ (y.op = (opC code)[k].op ∧ y.imm = (opC code)[k].imm) → (alC code (((opC code).map mkM).set k y)).2.2 = 20 ∧ k ≤ (alC code (((opC code).map mkM).set k y)).2.1 ∧ (y.op ≠ 18 → (alC code (((opC code).map mkM).set k y)).2.1 = k)) := fun k hk y hne => alC_swap H18.out hk hne
        have hML : ((opC code).map mkM).length = (opC code).length := by simp
        have HC2 := Lib.hid (HC1.out.below HP2.out.blw)
        clear HN HP hnt hb18 HOWN H18
        generalize opC code = la at *
        generalize la.map mkM = M at *
        obtain ⟨Am, cm, rfl, hmc, hmm⟩ := HP2.out.slice
        have C := Lib.hid (alcode_at HC2.out (HP2.out.ms HOKM.out) (by omega) (by omega) HR.out)
        have hzz : (0 : Int) == 0 := rfl
        have HLL := Lib.hid hML
        clear hML
        go_wp2_with fail
        refine C.out.mono ?_
        rintro e W2 ⟨Ar, cr, rfl, hP⟩
        have HP3 := Lib.hid (HP2.out.next hP.blw)
        clear hP C HC2 HP2
        rcases Nat.eq_zero_or_pos M.length with hM | hM
        · have e0 : ((M.length : Int) == 0) = true := by simp [hM]
          have HB3 := Lib.hid (HB1.out.trans (HP3.out.blw.mono HB1.out.size))
          clear hM HMK HSW HLL
          go_wp2
          go_ret
          exact ⟨rfl, HB3.out⟩
        · have e0 : ((M.length : Int) == 0) = false := beq_eq_false_iff_ne.2 (by omega)
          have hMz : (0 : Int) < (M.length : Int) := by omega
          obtain ⟨k, hrk, hk⟩ := rem_nat' d1 M.length hM
          go_upto_region 15 with fail
          rw [hrk]
          clear hrk
          have hkz : (k : Int) < (M.length : Int) := by omega
          have hkl : k < la.length := by have := HLL.out; omega
          have hMk := HMK.out k hk hkl
          obtain ⟨g, rfl⟩ := HP3.out.some_ hM
          obtain ⟨b', o', e', hgl, hx⟩ := (MisAt.of_sees HP3.out.sees HOKM.out).at_ hk
          injection e' with e'
          injection e' with e1 e2
          subst e1 e2
          rw [hMk] at hx
          obtain ⟨_, c0, c1, c2, c3, c4, c5, c6⟩ := hx
          simp only [Nat.zero_add, mkM] at c0 c1 c2 c3 c4 c5 c6
          have HSK := Lib.hid (HSW.out k hkl ⟨a2, 0, 0, 0, a3, 0, 0⟩)
          have HMk := Lib.hid hMk
          clear HMK HSW HLL hMk
          generalize la[k] = u at *
          obtain ⟨u0, u1, u2, u3, u4x⟩ := u
          dsimp only [mkM] at c0 c4 HSK HMk
          go_upto_region 16 with fail
          have HP4 := Lib.hid (HP3.out.alloc (.cells #[.int .i64 u0, .int .i64 0, .int .i64 0, .int .i64 0, .int .i64 u4x, .int .i64 0, .int .i64 0] 28))
          have HR4 := Lib.hid (Row.new W2 28 #[.int .i64 u0, .int .i64 0, .int .i64 0, .int .i64 0, .int .i64 u4x, .int .i64 0, .int .i64 0])
          have hgq : ¬ W2.heap.size = g := by omega
          have d0 := (World.cell?_alloc_lt W2 (.cells #[.int .i64 u0, .int .i64 0, .int .i64 0, .int .i64 0, .int .i64 u4x, .int .i64 0, .int .i64 0] 28) ⟨g, k * 7, none⟩ hgl).trans c0
          have d4 := (World.cell?_alloc_lt W2 (.cells #[.int .i64 u0, .int .i64 0, .int .i64 0, .int .i64 0, .int .i64 u4x, .int .i64 0, .int .i64 0] 28) ⟨g, k * 7 + 4, none⟩ hgl).trans c4
          clear c0 c1 c2 c3 c4 c5 c6 hgl HP3
          generalize (W2.alloc (.cells #[.int .i64 u0, .int .i64 0, .int .i64 0, .int .i64 0, .int .i64 u4x, .int .i64 0, .int .i64 0] 28)) = W3 at *
          generalize W2.heap.size = q at *
          have f0 := HP4.out.frozen (k := k * 7)
          have f4 := HP4.out.frozen (k := k * 7 + 4)
          go_upto_region 18 with fail
          have HP5 : Hid (RL Mi.cells 7 28 W1 (.slice (some ⟨g, 0, none⟩) M.length cm) (M.set k ⟨a2, 0, 0, 0, a3, 0, 0⟩) ((W3.setCell ⟨g, k * 7, none⟩ (.int .i64 a2)).setCell ⟨g, k * 7 + 4, none⟩ (.int .i64 a3))) := by
            have h1 := HP4.out.put (k := k) (j := 0) (y := (⟨a2, 0, 0, 0, u4x, 0, 0⟩ : Mi)) (u := .int .i64 a2) mi_len hk (by decide) (by rw [HMk.out]; rfl)
            have h2 := h1.put (k := k) (j := 4) (y := (⟨a2, 0, 0, 0, a3, 0, 0⟩ : Mi)) (u := .int .i64 a3) mi_len (by simpa using hk) (by decide) (by rw [List.getElem_set_self]; rfl)
            rw [List.set_set] at h2
            exact h2
          have HR5 := Lib.hid ((HR4.out.far (q := ⟨g, k * 7, none⟩) hgq (.int .i64 a2)).far (q := ⟨g, k * 7 + 4, none⟩) hgq (.int .i64 a3))
          clear d0 d4 f0 f4 HP4 HR4
          generalize ((W3.setCell ⟨g, k * 7, none⟩ (.int .i64 a2)).setCell ⟨g, k * 7 + 4, none⟩ (.int .i64 a3)) = W4 at *
          have HOK2 : Hid (∀ x ∈ M.set k ⟨a2, 0, 0, 0, a3, 0, 0⟩, x.Ok) := fun x hx => by
            rcases List.mem_or_eq_of_mem_set hx with hx | rfl
            · exact HOKM.out x hx
            · exact ⟨alfits0, alfits0⟩
          have HC4 := Lib.hid (HC1.out.below HP5.out.blw)
          by_cases hs : a2 = u0 ∧ a3 = u4x
          · obtain ⟨rfl, rfl⟩ := hs
            have HRR : Hid (alC code (M.set k ⟨a2, 0, 0, 0, a3, 0, 0⟩) = (R1, R2, 0)) := by
              rw [← HMk.out, List.set_getElem_self]
              exact HR.out
            have C := Lib.hid (alcode_at HC4.out (HP5.out.ms HOK2.out) (by omega) (by omega) HRR.out)
            have hbb : miS ⟨a2, 0, 0, 0, a3, 0, 0⟩ ⟨a2, 0, 0, 0, a3, 0, 0⟩ = true := by simp [miS]
            have hq := fun W => eq_mi ⟨a2, 0, 0, 0, a3, 0, 0⟩ ⟨a2, 0, 0, 0, a3, 0, 0⟩ W
            rw [hbb] at hq
            dsimp only at hq
            clear hbb
            go_wp2_with fail
            refine C.out.mono ?_
            rintro e W5 ⟨A8, c8, rfl, hP⟩
            have HP6 := Lib.hid (HP5.out.next hP.blw)
            have HB6 := Lib.hid (HB1.out.trans (HP6.out.blw.mono HB1.out.size))
            have hR := HR5.out.below hP.blw HR5.out.lt
            have f0 := hR.cell 0; have f1 := hR.cell 1; have f2 := hR.cell 2; have f3 := hR.cell 3; have f4 := hR.cell 4; have f5 := hR.cell 5; have f6 := hR.cell 6
            simp only [List.getElem?_toArray, List.getElem?_cons_zero, List.getElem?_cons_succ] at f0 f1 f2 f3 f4 f5 f6
            obtain ⟨b', o', e', _, hx⟩ := (MisAt.of_sees HP6.out.sees HOK2.out).at_ (i := k) (by simpa using hk)
            injection e' with e'
            injection e' with e1 e2
            subst e1 e2
            rw [List.getElem_set_self] at hx
            obtain ⟨_, d0, d1', d2, d3, d4, d5, d6⟩ := hx
            simp only [Nat.zero_add] at d0 d1' d2 d3 d4 d5 d6
            clear hP hR C HP5 HR5 HC4 HP6
            go_upto_region 19 with fail
            go_wp2_with fail
            go_quiet (fail)
            go_wp2
            go_ret
            exact ⟨rfl, blw_drewN HB6.out _⟩
          · obtain ⟨h20, hkq, hkk⟩ := HSK.out hs
            obtain ⟨Q1, Q2, Q3, HQ⟩ : ∃ x y z, Hid (alC code (M.set k ⟨a2, 0, 0, 0, a3, 0, 0⟩) = (x, y, z)) := ⟨_, _, _, rfl⟩
            rw [HQ.out] at h20 hkq hkk
            dsimp only at h20 hkq hkk
            subst h20
            have HKK := Lib.hid hkk
            have C := Lib.hid (alcode_at HC4.out (HP5.out.ms HOK2.out) (by omega) (by omega) HQ.out)
            have hbb : miS ⟨a2, 0, 0, 0, a3, 0, 0⟩ ⟨u0, 0, 0, 0, u4x, 0, 0⟩ = false := by
              simp only [miS]
              by_cases h1 : a2 = u0
              · by_cases h2 : a3 = u4x
                · exact absurd ⟨h1, h2⟩ hs
                · simp [h2]
              · simp [h1]
            clear hkk hs
            have hq := fun W => eq_mi ⟨a2, 0, 0, 0, a3, 0, 0⟩ ⟨u0, 0, 0, 0, u4x, 0, 0⟩ W
            rw [hbb] at hq
            dsimp only at hq
            clear hbb
            go_wp2_with fail
            refine C.out.mono ?_
            rintro e W5 ⟨A8, c8, rfl, hP⟩
            have HP6 := Lib.hid (HP5.out.next hP.blw)
            have HB6 := Lib.hid (HB1.out.trans (HP6.out.blw.mono HB1.out.size))
            have hR := HR5.out.below hP.blw HR5.out.lt
            have f0 := hR.cell 0; have f1 := hR.cell 1; have f2 := hR.cell 2; have f3 := hR.cell 3; have f4 := hR.cell 4; have f5 := hR.cell 5; have f6 := hR.cell 6
            simp only [List.getElem?_toArray, List.getElem?_cons_zero, List.getElem?_cons_succ] at f0 f1 f2 f3 f4 f5 f6
            obtain ⟨b', o', e', _, hx⟩ := (MisAt.of_sees HP6.out.sees HOK2.out).at_ (i := k) (by simpa using hk)
            injection e' with e'
            injection e' with e1 e2
            subst e1 e2
            rw [List.getElem_set_self] at hx
            obtain ⟨_, d0, d1', d2, d3, d4, d5, d6⟩ := hx
            simp only [Nat.zero_add] at d0 d1' d2 d3 d4 d5 d6
            clear hP hR C HP5 HR5 HC4 HP6
            go_upto_region 19 with fail
            go_wp2_with fail
            go_quiet (fail)
            by_cases hqk : Q2 = k
            · have e1 : ((Q2 : Int) == (k : Int)) = true := by simp [hqk]
              clear hqk
              go_wp2
              go_ret
              exact ⟨rfl, blw_drewN HB6.out _⟩
            · have e1 : ((Q2 : Int) == (k : Int)) = false := beq_eq_false_iff_ne.2 (by omega)
              have e2 : (a2 == 18) = true := by
                by_cases h18 : a2 = 18
                · simp [h18]
                · exact absurd (HKK.out h18) hqk
              have e3 : (k : Int) ≤ (Q2 : Int) := by omega
              clear hqk
              go_wp2
              go_ret
              exact ⟨rfl, blw_drewN HB6.out _⟩

end Go.Proofs.Ytimmnnadoeagfaa
