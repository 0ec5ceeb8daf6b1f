import Derived.Test.YtkapmfopfddmbaaGreatCkVal
import Derived.Test.YtkapmfopfddmbaaGreatCcMem
import Derived.Test.YtkapmfopfddmbaaGreatPk28

/-
  The reference's Valid of layer 16, of certificates that need not be small.
-/
namespace Go.Proofs.YtkapmfopfddmbaaGreat
open Go.RowKit
set_option linter.unusedVariables false
set_option linter.unusedSimpArgs false

/-- Lengths that a walk bears. -/
structure SmW (c : Ct) : Prop where
  b : c.bs.length ≤ 1000
  n : codeN c.bs ≤ 1000000
  m : c.ms.length ≤ 1000
  k : mcodeN c.ms ≤ 1000000
  i : c.inv.length ≤ 3000
  l : ∀ x ∈ c.inv, x.length ≤ 3000
  t : totP c.inv ≤ 1000000

theorem SmC.w {c : Ct} (h : SmC c) : SmW c := by
  obtain ⟨⟨s1, s2, s3⟩, ⟨s4, s5, s6, s7⟩, s8, s9⟩ := h
  have h1 := totP_le s9
  exact ⟨by omega, by omega, by omega, by omega, by omega, fun x hx => by have := s9 x hx; omega, by omega⟩

set_option maxRecDepth 100000 in
set_option maxHeartbeats 4000000 in
theorem rckvalid_w {A1 : Option Addr} {k1 : Nat} {A2 : Option Addr} {k2 : Nat} {A3 : Option Addr} {k3 : Nat} {c : Ct} (w : World) (h : CeAt w w.heap.size A1 k1 A2 k2 A3 k3 c) (hs : SmW c) (hw : ∀ l ∈ c.inv, ∀ p ∈ l, PrWf p) :
    Calls Tryz.prog 12 #[.agg #[.int .i64 c.sa, .int .i64 c.sr, .slice A1 c.bs.length k1, .int .i64 c.ta, .int .i64 c.tr, .int .i64 c.ts, .slice A2 c.ms.length k2, .slice A3 c.inv.length k3]] w fun e w' => e = .returned (.int .i64 (validC c)) ∧ Below w.heap.size w w' := by
  have HK := Lib.hid (CeK.start h)
  have HV : Hid (validC c = if eF c.sa c.sr c.bs ≠ 0 then eF c.sa c.sr c.bs else if eMF c.ta c.tr c.ts c.ms ≠ 0 then eMF c.ta c.tr c.ts c.ms else if c.bs.length ≠ c.ms.length ∨ c.sa ≠ c.ta then 14 else validE c.inv c.bs.length c.sr c.tr c.ts) := rfl
  obtain ⟨s1, s3, s4, s7, s8, s9, s10⟩ := hs
  have S9 := Lib.hid s9
  have HWI := Lib.hid hw
  clear h hw s9
  go_enter Tryz.func12, Tryz.ntmps12
  go_upto_region 1 with fail
  generalize (w.alloc (.cells #[.int .i64 c.sa, .int .i64 c.sr, .slice A1 c.bs.length k1, .int .i64 c.ta, .int .i64 c.tr, .int .i64 c.ts, .slice A2 c.ms.length k2, .slice A3 c.inv.length k3] 30)) = W0 at *
  have c0 := HK.out.row.cell 0; have c1 := HK.out.row.cell 1; have c2 := HK.out.row.cell 2; have c3 := HK.out.row.cell 3
  have c4 := HK.out.row.cell 4; have c5 := HK.out.row.cell 5; have c6 := HK.out.row.cell 6; have c7 := HK.out.row.cell 7
  simp only [List.getElem?_toArray, List.getElem?_cons_zero, List.getElem?_cons_succ] at c0 c1 c2 c3 c4 c5 c6 c7
  have C1 := Lib.hid (rcheck_any _ A1 c.bs k1 c.sa c.sr W0 HK.out.see.bs HK.out.blw.size (by omega) (by omega))
  generalize eF c.sa c.sr c.bs = e1 at *
  go_wp2_with fail
  refine C1.out.mono ?_
  rintro e W1 ⟨rfl, hb⟩
  have HK1 := Lib.hid (HK.out.next hb)
  clear c0 c1 c2 c3 c4 c5 c6 c7
  clear hb HK C1
  by_cases h1 : e1 = 0
  · have d1 : (e1 != 0) = false := by simp [h1]
    have HV1 : Hid (validC c = if eMF c.ta c.tr c.ts c.ms ≠ 0 then eMF c.ta c.tr c.ts c.ms else if c.bs.length ≠ c.ms.length ∨ c.sa ≠ c.ta then 14 else validE c.inv c.bs.length c.sr c.tr c.ts) := by show _ = _; rw [HV.out, if_neg (by simpa using h1)]
    clear h1 HV
    have c0 := HK1.out.row.cell 0; have c1 := HK1.out.row.cell 1; have c2 := HK1.out.row.cell 2; have c3 := HK1.out.row.cell 3
    have c4 := HK1.out.row.cell 4; have c5 := HK1.out.row.cell 5; have c6 := HK1.out.row.cell 6; have c7 := HK1.out.row.cell 7
    simp only [List.getElem?_toArray, List.getElem?_cons_zero, List.getElem?_cons_succ] at c0 c1 c2 c3 c4 c5 c6 c7
    have C2 := Lib.hid (rmcheck_any _ A2 c.ms k2 c.ta c.tr c.ts W1 HK1.out.see.ms HK1.out.blw.size (by omega) (by omega))
    generalize eMF c.ta c.tr c.ts c.ms = e2 at *
    go_wp2_with fail
    refine C2.out.mono ?_
    rintro e W2 ⟨rfl, hb⟩
    have HK2 := Lib.hid (HK1.out.next hb)
    clear c0 c1 c2 c3 c4 c5 c6 c7
    clear hb HK1 C2
    by_cases h2 : e2 = 0
    · have d2 : (e2 != 0) = false := by simp [h2]
      have HV2 : Hid (validC c = if c.bs.length ≠ c.ms.length ∨ c.sa ≠ c.ta then 14 else validE c.inv c.bs.length c.sr c.tr c.ts) := by show _ = _; rw [HV1.out, if_neg (by simpa using h2)]
      clear h2 HV1
      have c0 := HK2.out.row.cell 0; have c1 := HK2.out.row.cell 1; have c2 := HK2.out.row.cell 2; have c3 := HK2.out.row.cell 3
      have c4 := HK2.out.row.cell 4; have c5 := HK2.out.row.cell 5; have c6 := HK2.out.row.cell 6; have c7 := HK2.out.row.cell 7
      simp only [List.getElem?_toArray, List.getElem?_cons_zero, List.getElem?_cons_succ] at c0 c1 c2 c3 c4 c5 c6 c7
      by_cases h3 : c.bs.length = c.ms.length
      · have d3 : ((c.bs.length : Int) != (c.ms.length : Int)) = false := by simp [h3]
        by_cases h4 : c.sa = c.ta
        · have d4 : (c.sa != c.ta) = false := by simp [h4]
          have HV3 : Hid (validC c = validE c.inv c.bs.length c.sr c.tr c.ts) := by show _ = _; rw [HV2.out, if_neg (by simp [h3, h4])]
          clear h3 h4 HV2
          have C3 := Lib.hid (rvalid_w _ A3 c.inv k3 (c.bs.length : Int) c.sr c.tr c.ts W2 HK2.out.see.inv (by omega) S9.out s10 HWI.out)
          go_wp2_with fail
          refine C3.out.mono ?_
          rintro e W3 ⟨rfl, hG⟩
          have HK3 := Lib.hid (HK2.out.next hG.below)
          clear c0 c1 c2 c3 c4 c5 c6 c7
          clear hG HK2 C3
          go_wp2
          go_ret
          exact ⟨by rw [HV3.out]; rfl, HK3.out.blw⟩
        · have d4 : (c.sa != c.ta) = true := by simp [h4]
          have HV3 : Hid (validC c = 14) := by show _ = _; rw [HV2.out, if_pos (.inr h4)]
          clear h3 h4 HV2
          go_wp2
          go_ret
          exact ⟨by rw [HV3.out]; rfl, HK2.out.blw⟩
      · have d3 : ((c.bs.length : Int) != (c.ms.length : Int)) = true := by simp; omega
        have HV3 : Hid (validC c = 14) := by show _ = _; rw [HV2.out, if_pos (.inl h3)]
        clear h3 HV2
        go_wp2
        go_ret
        exact ⟨by rw [HV3.out]; rfl, HK2.out.blw⟩
    · have d2 : (e2 != 0) = true := by simp [h2]
      have HV2 : Hid (validC c = e2) := by show _ = _; rw [HV1.out, if_pos h2]
      clear h2 HV1
      go_wp2
      go_ret
      exact ⟨by rw [HV2.out]; rfl, HK2.out.blw⟩
  · have d1 : (e1 != 0) = true := by simp [h1]
    have HV1 : Hid (validC c = e1) := by show _ = _; rw [HV.out, if_pos h1]
    clear h1 HV
    go_wp2
    go_ret
    exact ⟨by rw [HV1.out]; rfl, HK1.out.blw⟩

end Go.Proofs.YtkapmfopfddmbaaGreat

/-
  What a small valid certificate is: its parts may be written, and are short.
-/
namespace Go.Proofs.YtkapmfopfddmbaaGreat
open Go.RowKit
set_option linter.unusedVariables false

theorem own_cap20 {w : World} {base n k : Nat} {e : TypeId} {A : Option Addr} {xs : List Value} (h : w.ownsRow base e 1 (.slice A n k) n xs) : n ≤ k ∧ k ≤ maxLen := by
  obtain ⟨A', k', h1, h2, h3⟩ := ownS_slice h
  injection h1 with _ _ h4
  subst h4
  exact ⟨h2, h3⟩

/-- All that a walk asks of a valid certificate. -/
structure CV (c : Ct) : Prop where
  vf : VF c.f
  vg : VG c.g
  pp : ∀ l ∈ c.inv, PP19 true (0, 0) l
  il : c.inv.length ≤ 3000
  ll : ∀ l ∈ c.inv, l.length ≤ 3000
  ef : (encF' c.f).length ≤ 100000
  eg : (encG c.g).length ≤ 100000
  ew : (encW19 c.inv).length ≤ 400000
  ci : CtI c
  cr : CtR c
  cl : CtL c
  ok : ∀ b ∈ c.ms, ∀ y ∈ b.code, y.Ok

theorem CV.of {c : Ct} (h : validC c = 0) (hs : SmC c) (hi : CtI c) : CV c := by
  obtain ⟨v1, v2, v3, v4, v5⟩ := valid_parts h
  obtain ⟨⟨s1, s2, s3⟩, ⟨s4, s5, s6, s7⟩, s8, s9⟩ := hs
  have hf : VF c.f := VF.of (f := c.f) v1 hi.s
  have hg : VG c.g := VG.of (g := c.g) v2 hi.t
  have l1 := encF_len18 c.f
  have l2 := encG_len18 c.g
  have l3 := (encW_len19 c.inv).2
  have l4 := totP_le s9
  have e1 : c.f.bs = c.bs := rfl
  have e2 : c.g.ms = c.ms := rfl
  rw [e1] at l1
  rw [e2] at l2
  have hw : vlsE c.sr c.tr c.ts c.inv = 0 := by
    unfold validE at v5
    by_cases h9 : (c.inv.length : Int) ≠ (c.bs.length : Int)
    · rw [if_pos h9] at v5; cases v5
    · rw [if_neg h9] at v5; exact v5
  exact ⟨hf, hg, vlsE_pp (by omega) (by omega) (by omega) c.inv hw, by omega, fun l hl => by have := s9 l hl; omega, by omega, by omega, by omega, hi, ⟨by omega, by omega, by omega, by omega⟩, ⟨by omega, by omega, by omega⟩, eMF_ok18 (g := c.g) v2⟩

theorem wf_ci {c : Ct} (h : c.Wf) : CtI c := ⟨fun b hb x hx => i64_of_wf ((h.bs b hb).1 x hx).2.2.2.2, fun b hb x hx => i64_of_wf ((h.ms b hb).1 x hx).2.2.2.2.1⟩

theorem CV.byt {c : Ct} (h : CV c) : Byt (encCt c) := by
  have h1 : Byt (packS ids20 (parts20 c)) := packS_byt ids20 (parts20 c) (by intro c hc; unfold ids20 at hc; simp at hc; omega) (by
    intro x hx
    unfold parts20 at hx
    rcases List.mem_cons.1 hx with rfl | hx
    · exact h.vf.byt
    rcases List.mem_cons.1 hx with rfl | hx
    · exact h.vg.byt
    rcases List.mem_cons.1 hx with rfl | hx
    · exact encW_byt19 h.pp fun l hl => by have := h.ll l hl; omega
    · cases hx) h.cl.all
  intro x hx
  unfold encCt at hx
  rcases List.mem_cons.1 hx with rfl | hx
  · decide
  rcases List.mem_cons.1 hx with rfl | hx
  · decide
  rcases List.mem_cons.1 hx with rfl | hx
  · decide
  · exact h1 x hx

theorem CV.size {c : Ct} (h : CV c) : sizeS (parts20 c) ≤ 700000 ∧ totalS (parts20 c) ≤ 700000 ∧ (encCt c).length ≤ 700003 := by
  have h1 := sizeS_le (parts20 c)
  have h2 : totalS (parts20 c) = (encF' c.f).length + ((encG c.g).length + ((encW19 c.inv).length + 0)) := rfl
  have h3 : (parts20 c).length = 3 := rfl
  have h4 := packS_size ids20 (parts20 c) rfl
  have h5 : (encCt c).length = (packS ids20 (parts20 c)).length + 3 := by unfold encCt; simp
  have := h.ef; have := h.eg; have := h.ew
  omega

theorem i64_of20 {x : Int} (h : InI x) : I64 x := by
  unfold I64 InI at *
  simp [Lit.wf, IntKind.min, IntKind.max, IntKind.signed, IntKind.bits]
  omega

theorem pp_wf20 : ∀ (l : List Pr) (f : Bool) (q : Pr), PP19 f q l → ∀ p ∈ l, PrWf p
  | [], _, _, _, p, hp => by cases hp
  | x :: l, f, q, h, p, hp => by
    rcases List.mem_cons.1 hp with rfl | hp
    · exact ⟨i64_of20 h.2.2.1.1, i64_of20 h.2.2.1.2⟩
    · exact pp_wf20 l false x h.2.2.2 p hp

/-- A certificate that has been decoded from few bytes, without an error. -/
theorem CV.dec {b : List Nat} (hb : Byt b) (hl : b.length ≤ 3000) {c : Ct} (hd : decE b = (c, 0)) : validC c = 0 ∧ CV c ∧ SmW c ∧ (∀ l ∈ c.inv, ∀ p ∈ l, PrWf p) ∧ b = encCt c := by
  obtain ⟨h1, h2, h3⟩ := decE_ok hb (by rw [hd])
  rw [hd] at h1 h2 h3
  dsimp only at h1 h2 h3
  have h4 := packS_size ids20 (parts20 c) rfl
  have h5 : b.length = (packS ids20 (parts20 c)).length + 3 := by rw [h3]; unfold encCt; simp
  have h6 : sizeS (parts20 c) = 1 + lenS (encF' c.f).length + (encF' c.f).length + (1 + lenS (encG c.g).length + (encG c.g).length + (1 + lenS (encW19 c.inv).length + (encW19 c.inv).length + 0)) := rfl
  have h7 := encF_small (f := c.f) (n := (encF' c.f).length) (Nat.le_refl _)
  have h8 := encG_small (g := c.g) (n := (encG c.g).length) (Nat.le_refl _)
  have h9 := (encW_len19 c.inv).1
  have e1 : c.f.bs = c.bs := rfl
  have e2 : c.g.ms = c.ms := rfl
  rw [e1] at h7
  rw [e2] at h8
  obtain ⟨v1, v2, v3, v4, v5⟩ := valid_parts h1
  have hf : VF c.f := VF.of (f := c.f) v1 h2.s
  have hg : VG c.g := VG.of (g := c.g) v2 h2.t
  have hw : vlsE c.sr c.tr c.ts c.inv = 0 := by
    unfold validE at v5
    by_cases h9 : (c.inv.length : Int) ≠ (c.bs.length : Int)
    · rw [if_pos h9] at v5; cases v5
    · rw [if_neg h9] at v5; exact v5
  have r1 : c.sr ≤ 1048576 := hf.r.2
  have r2 : c.tr ≤ 1048576 := hg.r.2
  have r3 : c.ts ≤ 1048576 := hg.s.2
  have hpp := vlsE_pp (vr := c.sr) (r := c.tr) (n := c.ts) (by omega) (by omega) (by omega) c.inv hw
  have hll : ∀ l ∈ c.inv, l.length ≤ 3000 := fun l hl => by
    have hm : ∀ (w : List (List Pr)) (x : List Pr), x ∈ w → x.length ≤ totP w := fun w => by
      induction w with
      | nil => intro x hx; cases hx
      | cons y w ih =>
        intro x hx
        have e : totP (y :: w) = y.length + totP w := rfl
        rcases List.mem_cons.1 hx with rfl | hx
        · omega
        · have := ih x hx; omega
    have := hm c.inv l hl
    omega
  exact ⟨h1, ⟨hf, hg, hpp, by omega, hll, by omega, by omega, by omega, h2, ⟨by omega, by omega, by omega, by omega⟩, ⟨by omega, by omega, by omega⟩, eMF_ok18 (g := c.g) v2⟩, ⟨by omega, by omega, by omega, by omega, by omega, hll, by omega⟩, fun l hl p hp => pp_wf20 l true (0, 0) (hpp l hl) p hp, h3⟩

/-- A certificate that has been decoded from few bytes. -/
theorem dec_small {b : List Nat} (hb : Byt b) (hl : b.length ≤ 3000) {c : Ct} {e : Int} (hd : decE b = (c, e)) : (c.bs.length ≤ 1000 ∧ codeN c.bs ≤ 1000000 ∧ c.ms.length ≤ 1000 ∧ mcodeN c.ms ≤ 1000000 ∧ c.inv.length ≤ 1000000) ∧ ∀ y ∈ c.ms, ∀ x ∈ y.code, x.Ok := by
  by_cases h0 : (decE b).2 = 0
  · obtain ⟨h1, h2, h3⟩ := decE_ok hb h0
    rw [hd] at h1 h2 h3
    dsimp only at h1 h2 h3
    have h4 := packS_size ids20 (parts20 c) rfl
    have h5 : b.length = (packS ids20 (parts20 c)).length + 3 := by rw [h3]; unfold encCt; simp
    have h6 : sizeS (parts20 c) = 1 + lenS (encF' c.f).length + (encF' c.f).length + (1 + lenS (encG c.g).length + (encG c.g).length + (1 + lenS (encW19 c.inv).length + (encW19 c.inv).length + 0)) := rfl
    have h7 := encF_small (f := c.f) (n := (encF' c.f).length) (Nat.le_refl _)
    have h8 := encG_small (g := c.g) (n := (encG c.g).length) (Nat.le_refl _)
    have h9 := (encW_len19 c.inv).1
    have e1 : c.f.bs = c.bs := rfl
    have e2 : c.g.ms = c.ms := rfl
    rw [e1] at h7
    rw [e2] at h8
    obtain ⟨_, v2, v3, _⟩ := valid_parts h1
    exact ⟨⟨by omega, by omega, by omega, by omega, by omega⟩, eMF_ok18 (g := c.g) v2⟩
  · have hz := (decE_LE b).2 h0
    rw [hd] at hz
    dsimp only at hz
    subst hz
    exact ⟨⟨by decide, by decide, by decide, by decide, by decide⟩, fun y hy => by cases hy⟩

end Go.Proofs.YtkapmfopfddmbaaGreat
