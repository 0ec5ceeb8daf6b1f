/-
  The walk of the statement on growing numbers of layer 7.
-/
import Derived.Test.YtddcbdmmjjpbhaaSrcAwake
import Derived.Test.YtddcbdmmjjpbhaaSrcIn
import Derived.Test.YtddcbdmmjjpbhaaSrcRterm
import Derived.Deep.LoopGhost
import Derived.Deep.Cut
import Derived.Deep.CutRange
namespace Go.Proofs.Ytddcbdmmjjpbhaa
open Go.RowKit
set_option linter.unusedVariables false

theorem inr_grow {v n k : Int} (hk : 0 ≤ k) (h : inr v n = true) : inr v (n + k) = true := by
  simp only [inr, Bool.and_eq_true, decide_eq_true_eq] at h ⊢
  omega
theorem fR_grow {n k : Int} (hk : 0 ≤ k) (f : Fld) (h : fR n f = true) : fR (n + k) f = true := by
  obtain ⟨u, v⟩ := f
  rw [fR_inr] at h ⊢
  cases u
  · rfl
  · exact inr_grow hk (by simpa using h)
theorem okR_grow {n k : Int} (hk : 0 ≤ k) (l : List Fld) (h : okR n l = true) : okR (n + k) l = true := by
  rw [okR, List.all_eq_true] at h ⊢
  exact fun f hf => fR_grow hk f (h f hf)
theorem eI_zero {x : In} {n : Int} (h : eI x n = 0) : srcO x.op = true ∧ okR n x.regF = true ∧ okZ x.allF = true := by
  unfold eI at h
  split at h
  · next h1 =>
    split at h
    · next h2 =>
      split at h
      · next h3 => exact ⟨h1, h2, h3⟩
      · cases h
    · cases h
  · cases h
theorem eI_grow {x : In} {n k : Int} (hk : 0 ≤ k) (h : eI x n = 0) : eI x (n + k) = 0 := by
  obtain ⟨h1, h2, h3⟩ := eI_zero h
  rw [eI, h1, okR_grow hk _ h2, h3]
  rfl
theorem eT_zero {t : Tm} {n m : Int} (h : eT t n m = 0) : kO t.kind = true ∧ okR n t.aF = true ∧ okR m t.toF = true ∧ okZ t.allF = true := by
  unfold eT at h
  split at h
  · next h1 =>
    split at h
    · next h2 =>
      split at h
      · next h3 =>
        split at h
        · next h4 => exact ⟨h1, h2, h3, h4⟩
        · cases h
      · cases h
    · cases h
  · cases h
theorem eT_grow {t : Tm} {n m k : Int} (hk : 0 ≤ k) (h : eT t n m = 0) : eT t (n + k) (m + k) = 0 := by
  obtain ⟨h1, h2, h3, h4⟩ := eT_zero h
  rw [eT, h1, okR_grow hk _ h2, okR_grow hk _ h3, h4]
  rfl
theorem fld_use {n v : Int} {u : Bool} (h : fR n (u, v) = true) (hz : fZ (u, v) = true) : 0 ≤ v ∧ (u = true → v < n) := by
  rw [fR_inr] at h
  cases u
  · simp [fZ] at hz
    exact ⟨by omega, fun h => by cases h⟩
  · simp [inr] at h
    exact ⟨h.1, fun _ => h.2⟩
theorem eI_regs {x : In} {n : Int} (h : eI x n = 0) : (0 ≤ x.d ∧ (uD x.op = true → x.d < n)) ∧ (0 ≤ x.a ∧ (uA x.op = true → x.a < n)) ∧ (0 ≤ x.b ∧ (uB x.op = true → x.b < n)) := by
  obtain ⟨_, h2, h3⟩ := eI_zero h
  simp only [okR, In.regF, List.all_cons, List.all_nil, Bool.and_true, Bool.and_eq_true] at h2
  simp only [okZ, In.allF, List.all_cons, List.all_nil, Bool.and_true, Bool.and_eq_true] at h3
  exact ⟨fld_use h2.1 h3.1, fld_use h2.2.1 h3.2.1, fld_use h2.2.2 h3.2.2.1⟩
theorem kO_cases {k : Int} (h : kO k = true) : k = 1 ∨ k = 2 ∨ k = 3 := by
  simp only [kO, Bool.or_eq_true, beq_iff_eq] at h
  omega
theorem eT_succ {t : Tm} {n m : Int} (h : eT t n m = 0) : (∀ z ∈ succs t, 0 ≤ z ∧ z < m) ∧ (t.kind == 3) = decide ((succs t).length = 0) ∧ (succs t).length ≤ 2 := by
  obtain ⟨h1, h2, h3, h4⟩ := eT_zero h
  rcases kO_cases h1 with hk | hk | hk
  · simp only [okR, Tm.toF, hk, List.all_cons, List.all_nil, Bool.and_true, Bool.and_eq_true, fR_inr] at h3
    have hs : succs t = [t.to] := by rw [succs, if_pos hk]
    rw [hs, hk]
    refine ⟨fun z hz => ?_, rfl, by simp⟩
    have : z = t.to := by simpa using hz
    subst this
    have := h3.1
    simpa [inr] using this
  · simp only [okR, Tm.toF, hk, List.all_cons, List.all_nil, Bool.and_true, Bool.and_eq_true, fR_inr] at h3
    have hs : succs t = [t.to, t.el] := by rw [succs, if_neg (by omega), if_pos hk]
    rw [hs, hk]
    refine ⟨fun z hz => ?_, rfl, by simp⟩
    have h5 := h3.1
    have h6 := h3.2
    simp [inr] at h5 h6
    rcases (by simpa using hz : z = t.to ∨ z = t.el) with e | e
    · subst e; exact h5
    · subst e; exact h6
  · have hs : succs t = [] := by rw [succs, if_neg (by omega), if_neg (by omega)]
    rw [hs, hk]
    exact ⟨fun z hz => by simp at hz, rfl, by simp⟩

set_option maxRecDepth 100000 in
set_option maxHeartbeats 4000000 in
theorem SourceGrows_walk (a0 a1 : Array Value) (a2 a3 a4 : Int) (w : World) (w0 : IsIn w a0) (w1 : IsTm w a1) (w2 : (Lit.int .u16 a2).wf = true) (w3 : (Lit.int .u16 a3).wf = true) (w4 : (Lit.int .u8 a4).wf = true) :
    Calls Try.prog 5 #[.agg a0, .agg a1, .int .u16 a2, .int .u16 a3, .int .u8 a4] w fun e w' => e = .returned (.bool true) ∧ Below w.heap.size w w' := by
  obtain ⟨x, rfl, _⟩ := w0
  obtain ⟨t, rfl, _⟩ := w1
  obtain ⟨n0, n1⟩ : 0 ≤ a2 ∧ a2 ≤ 65535 := by simp [Lit.wf, IntKind.min, IntKind.max, IntKind.signed, IntKind.bits] at w2; omega
  obtain ⟨m0, m1⟩ : 0 ≤ a3 ∧ a3 ≤ 65535 := by simp [Lit.wf, IntKind.min, IntKind.max, IntKind.signed, IntKind.bits] at w3; omega
  obtain ⟨k0, k1⟩ := u8_of_wf w4
  clear w2 w3 w4
  have HB0 := Lib.hid (((Below.refl w.heap.size w).alloc (Nat.le_refl _) (.cells #[.int .i64 x.op, .int .i64 x.d, .int .i64 x.a, .int .i64 x.b, .int .i64 x.imm] 26)).alloc (by simp) (.cells #[.int .i64 t.kind, .int .i64 t.a, .int .i64 t.to, .int .i64 t.el] 28))
  have HR0 := Lib.hid ((Row.new w 26 #[.int .i64 x.op, .int .i64 x.d, .int .i64 x.a, .int .i64 x.b, .int .i64 x.imm]).alloc (.cells #[.int .i64 t.kind, .int .i64 t.a, .int .i64 t.to, .int .i64 t.el] 28))
  have HT0 := Lib.hid (Row.new' (W := w.alloc (.cells #[.int .i64 x.op, .int .i64 x.d, .int .i64 x.a, .int .i64 x.b, .int .i64 x.imm] 26)) (p := w.heap.size + 1) (by simp) 28 #[.int .i64 t.kind, .int .i64 t.a, .int .i64 t.to, .int .i64 t.el])
  go_enter Try.func5, Try.ntmps5
  go_wp2_with fail
  refine (awake_any _).mono ?_
  rintro e W1 ⟨rfl, hb⟩
  have HB1 := Lib.hid (HB0.out.trans (hb.mono HB0.out.size))
  have HR1 := Lib.hid (HR0.out.below hb HR0.out.lt)
  have HT1 := Lib.hid (HT0.out.below hb HT0.out.lt)
  clear hb HB0 HR0 HT0
  have i0 := HR1.out.cell 0
  simp only [List.getElem?_toArray, List.getElem?_cons_zero] at i0
  obtain ⟨d, hd⟩ : ∃ z, uD x.op = z := ⟨_, rfl⟩
  obtain ⟨a, ha⟩ : ∃ z, uA x.op = z := ⟨_, rfl⟩
  obtain ⟨b, hb⟩ : ∃ z, uB x.op = z := ⟨_, rfl⟩
  have HF := Lib.hid fun W => of_at x.op d a b (uI x.op) (uO x.op) W hd ha hb rfl rfl
  have HD := Lib.hid hd; have HA := Lib.hid ha; have HBB := Lib.hid hb
  clear hd ha hb
  go_wp2_with fail
  refine (HF.out _).mono ?_
  rintro e W2 ⟨rfl, hb⟩
  have HB2 := Lib.hid (HB1.out.trans (hb.mono HB1.out.size))
  have HR2 := Lib.hid (HR1.out.below hb HR1.out.lt)
  have HT2 := Lib.hid (HT1.out.below hb HT1.out.lt)
  clear hb HB1 HR1 HT1 HF i0
  have i0 := HR2.out.cell 0; have i1 := HR2.out.cell 1; have i2 := HR2.out.cell 2; have i3 := HR2.out.cell 3; have i4 := HR2.out.cell 4
  simp only [List.getElem?_toArray, List.getElem?_cons_zero, List.getElem?_cons_succ] at i0 i1 i2 i3 i4
  have hl2 : w.heap.size < W2.heap.size := HR2.out.lt
  go_upto_region 7 with fail
  go_cut [88] from 19 to 87 (fun s88 wx => s88 = .bool false ∧ Hid (Below w.heap.size w wx) ∧ Hid (Row wx (w.heap.size + 1) 28 #[.int .i64 t.kind, .int .i64 t.a, .int .i64 t.to, .int .i64 t.el]))
  case first =>
    have HB3 := Lib.hid (HB2.out.alloc HB2.out.size (.cells #[.bool d, .bool a, .bool b, .bool (uI x.op)] 47))
    have HR3 := Lib.hid (HR2.out.alloc (.cells #[.bool d, .bool a, .bool b, .bool (uI x.op)] 47))
    have HT3 := Lib.hid (HT2.out.alloc (.cells #[.bool d, .bool a, .bool b, .bool (uI x.op)] 47))
    have HS3 := Lib.hid (Row.new W2 47 #[.bool d, .bool a, .bool b, .bool (uI x.op)])
    by_cases hv : eI x a2 = 0
    · have hg := eI_grow k0 hv
      obtain ⟨⟨p1, p2⟩, ⟨p3, p4⟩, ⟨p5, p6⟩⟩ := eI_regs hv
      rw [HD.out] at p2
      rw [HA.out] at p4
      rw [HBB.out] at p6
      have HG := Lib.hid hg
      have HV := Lib.hid hv
      have P2 := Lib.hid p2; have P4 := Lib.hid p4; have P6 := Lib.hid p6
      clear hg hv p2 p4 p6
      go_wp2_with fail
      refine (instr_at x a2 0 HV.out).mono ?_
      rintro e W4 ⟨rfl, hb⟩
      have HB4 := Lib.hid (HB3.out.trans (hb.mono HB3.out.size))
      have HR4 := Lib.hid (HR3.out.below hb HR3.out.lt)
      have HT4 := Lib.hid (HT3.out.below hb HT3.out.lt)
      have HS4 := Lib.hid (HS3.out.below hb HS3.out.lt)
      clear hb HB3 HR3 HT3 HS3 HB2 HR2 HT2 i0 i1 i2 i3 i4 hl2
      have i0 := HR4.out.cell 0; have i1 := HR4.out.cell 1; have i2 := HR4.out.cell 2; have i3 := HR4.out.cell 3; have i4 := HR4.out.cell 4
      simp only [List.getElem?_toArray, List.getElem?_cons_zero, List.getElem?_cons_succ] at i0 i1 i2 i3 i4
      go_wp2_with fail
      refine (instr_at x (a2 + a4) 0 HG.out).mono ?_
      rintro e W5 ⟨rfl, hb⟩
      have HB5 := Lib.hid (HB4.out.trans (hb.mono HB4.out.size))
      have HR5 := Lib.hid (HR4.out.below hb HR4.out.lt)
      have HT5 := Lib.hid (HT4.out.below hb HT4.out.lt)
      have HS5 := Lib.hid (HS4.out.below hb HS4.out.lt)
      clear hb HB4 HR4 HT4 HS4 i0 i1 i2 i3 i4
      have i1 := HR5.out.cell 1; have i2 := HR5.out.cell 2; have i3 := HR5.out.cell 3; have s0 := HS5.out.cell 0; have s1 := HS5.out.cell 1; have s2 := HS5.out.cell 2
      simp only [List.getElem?_toArray, List.getElem?_cons_zero, List.getElem?_cons_succ] at i1 i2 i3 s0 s1 s2
      cases d
      · cases a
        · cases b
          · go_wp2
            go_meet
            case rel => exact ⟨by congr 1; simp only [Bool.or_eq_false_iff, decide_eq_false_iff_not]; omega, HB5.out, HT5.out⟩
          · have q6 := P6.out rfl
            go_wp2
            go_meet
            case rel => exact ⟨by congr 1; simp only [Bool.or_eq_false_iff, decide_eq_false_iff_not]; omega, HB5.out, HT5.out⟩
        · have q4 := P4.out rfl
          cases b
          · go_wp2
            go_meet
            case rel => exact ⟨by congr 1; simp only [Bool.or_eq_false_iff, decide_eq_false_iff_not]; omega, HB5.out, HT5.out⟩
          · have q6 := P6.out rfl
            go_wp2
            go_meet
            case rel => exact ⟨by congr 1; simp only [Bool.or_eq_false_iff, decide_eq_false_iff_not]; omega, HB5.out, HT5.out⟩
      · have q2 := P2.out rfl
        cases a
        · cases b
          · go_wp2
            go_meet
            case rel => exact ⟨by congr 1; simp only [Bool.or_eq_false_iff, decide_eq_false_iff_not]; omega, HB5.out, HT5.out⟩
          · have q6 := P6.out rfl
            go_wp2
            go_meet
            case rel => exact ⟨by congr 1; simp only [Bool.or_eq_false_iff, decide_eq_false_iff_not]; omega, HB5.out, HT5.out⟩
        · have q4 := P4.out rfl
          cases b
          · go_wp2
            go_meet
            case rel => exact ⟨by congr 1; simp only [Bool.or_eq_false_iff, decide_eq_false_iff_not]; omega, HB5.out, HT5.out⟩
          · have q6 := P6.out rfl
            go_wp2
            go_meet
            case rel => exact ⟨by congr 1; simp only [Bool.or_eq_false_iff, decide_eq_false_iff_not]; omega, HB5.out, HT5.out⟩
    · obtain ⟨v, hvv⟩ : ∃ z, eI x a2 = z := ⟨_, rfl⟩
      rw [hvv] at hv
      have e0 : (v == 0) = false := beq_eq_false_iff_ne.2 hv
      have HV := Lib.hid hvv
      clear hv hvv
      go_wp2_with fail
      refine (instr_at x a2 v HV.out).mono ?_
      rintro e W4 ⟨rfl, hb⟩
      have HB4 := Lib.hid (HB3.out.trans (hb.mono HB3.out.size))
      have HT4 := Lib.hid (HT3.out.below hb HT3.out.lt)
      clear hb HB3 HR3 HT3 HS3 HB2 HR2 HT2 i0 i1 i2 i3 i4 hl2
      go_wp2
      go_meet
      case rel => exact ⟨rfl, HB4.out, HT4.out⟩
  case rest =>
    obtain ⟨rfl, HB5, HT5⟩ := hcut
    clear HB2 HR2 HT2 i0 i1 i2 i3 i4 hl2 HD HA HBB
    have i0 := HT5.out.cell 0; have i1 := HT5.out.cell 1; have i2 := HT5.out.cell 2; have i3 := HT5.out.cell 3
    simp only [List.getElem?_toArray, List.getElem?_cons_zero, List.getElem?_cons_succ] at i0 i1 i2 i3
    by_cases hv : eT t a2 a3 = 0
    · obtain ⟨hs1, hs2, hs3⟩ := eT_succ hv
      have HG := Lib.hid (eT_grow k0 hv)
      have HS1 := Lib.hid hs1
      have HV := Lib.hid hv
      clear hs1 hv
      go_wp2_with fail
      refine (term_at t a2 a3 0 HV.out).mono ?_
      rintro e W6 ⟨rfl, hb⟩
      have HB6 := Lib.hid (HB5.out.trans (hb.mono HB5.out.size))
      have HT6 := Lib.hid (HT5.out.below hb HT5.out.lt)
      clear hb HB5 HT5 i0 i1 i2 i3
      have i0 := HT6.out.cell 0; have i1 := HT6.out.cell 1; have i2 := HT6.out.cell 2; have i3 := HT6.out.cell 3
      simp only [List.getElem?_toArray, List.getElem?_cons_zero, List.getElem?_cons_succ] at i0 i1 i2 i3
      obtain ⟨l, hl⟩ : ∃ z, succs t = z := ⟨_, rfl⟩
      rw [hl] at hs2 hs3 HS1
      have HL := Lib.hid hl
      have H2 := Lib.hid hs2
      clear hl hs2
      go_wp2_with fail
      refine (succ_at t l l.length HL.out rfl).mono ?_
      rintro e W7 ⟨A7, c7, rfl, hs7, hb⟩
      have HB7 := Lib.hid (HB6.out.trans (hb.mono HB6.out.size))
      have HT7 := Lib.hid (HT6.out.below hb HT6.out.lt)
      have HS7 := Lib.hid hs7
      clear hb HB6 HT6 i0 i1 i2 i3 hs7 HL
      have i0 := HT7.out.cell 0; have i1 := HT7.out.cell 1; have i2 := HT7.out.cell 2; have i3 := HT7.out.cell 3
      simp only [List.getElem?_toArray, List.getElem?_cons_zero, List.getElem?_cons_succ] at i0 i1 i2 i3
      go_wp2
      go_loop [17] (fun i => ∃ k : Nat, k ≤ l.length ∧ i = .int .i64 k) (fun i => l.length - (intOf i).toNat)
      case atStart => exact ⟨0, Nat.zero_le _, rfl⟩
      case round =>
        obtain ⟨k, hk, rfl⟩ := hrel
        by_cases hlt : k < l.length
        · obtain ⟨b1, o1, rfl, _, hcell⟩ := ints_at HS7.out hlt
          obtain ⟨z0, z1⟩ := HS1.out l[k] (List.getElem_mem hlt)
          generalize l[k] = z at *
          go_wp2
          go_round
          case rel => exact ⟨k + 1, by omega, by go_num⟩
          case measure => simp [intOf]; omega
        · obtain rfl : k = l.length := by omega
          obtain ⟨r3, hr3⟩ : ∃ z, (t.kind == 3) = z := ⟨_, rfl⟩
          have e9 : ((l.length : Int) == 0) = r3 := by
            rw [← hr3, H2.out]
            by_cases h0 : l.length = 0
            · rw [decide_eq_true h0, h0]; rfl
            · rw [decide_eq_false h0]; exact beq_eq_false_iff_ne.2 (by omega)
          clear H2
          go_wp2_with fail
          refine (term_at t (a2 + a4) (a3 + a4) 0 HG.out).mono ?_
          rintro e W8 ⟨rfl, hb⟩
          have HB8 := Lib.hid (HB7.out.trans (hb.mono HB7.out.size))
          have HT8 := Lib.hid (HT7.out.below hb HT7.out.lt)
          clear hb HB7 HT7 i0 i1 i2 i3
          have i0 := HT8.out.cell 0
          simp only [List.getElem?_toArray, List.getElem?_cons_zero] at i0
          go_wp2
          go_ret
          exact ⟨by simp, HB8.out⟩
    · obtain ⟨v, hvv⟩ : ∃ z, eT t a2 a3 = z := ⟨_, rfl⟩
      rw [hvv] at hv
      have e0 : (v != 0) = true := by simp [hv]
      have HV := Lib.hid hvv
      clear hv hvv
      go_wp2_with fail
      refine (term_at t a2 a3 v HV.out).mono ?_
      rintro e W6 ⟨rfl, hb⟩
      have HB6 := Lib.hid (HB5.out.trans (hb.mono HB5.out.size))
      clear hb HB5 HT5 i0 i1 i2 i3
      go_wp2
      go_ret
      exact ⟨rfl, HB6.out⟩

end Go.Proofs.Ytddcbdmmjjpbhaa
