import Derived.Test.YtncigbpeempnfaaPk1
import Derived.LoopTactic
import Derived.Below
import Derived.Deep.LoopGhost
import Derived.Deep.RegionWith
import Derived.Deep.RegionHeld3
import Derived.Deep.DeepMust
import Derived.Laws.EntriesVeiled

/-
  The reference's in, Instr and Term.
-/
namespace Go.Proofs.Ytncigbpeempnfaa
open Go.RowKit
set_option linter.unusedVariables false

def inr (v n : Int) : Bool := decide (0 ≤ v) && decide (v < n)

theorem fR_inr (n : Int) (u : Bool) (v : Int) : fR n (u, v) = (!u || inr v n) := by
  cases u
  · rfl
  · simp only [fR, inr, Bool.true_and, Bool.not_true, Bool.false_or, Bool.not_or]
    congr 1
    · by_cases h : v < 0
      · rw [decide_eq_true h, decide_eq_false (by omega)]; rfl
      · rw [decide_eq_false h, decide_eq_true (by omega)]; rfl
    · by_cases h : n ≤ v
      · rw [decide_eq_true h, decide_eq_false (by omega)]; rfl
      · rw [decide_eq_false h, decide_eq_true (by omega)]; rfl

set_option maxRecDepth 100000 in
theorem rin_any (v n : Int) (b : Bool) (w : World) (hb : inr v n = b) :
    Calls Try.prog 43 #[.int .i64 v, .int .i64 n] w fun e w' => e = .returned (.bool b) ∧ w = w' := by
  subst hb
  by_cases h0 : 0 ≤ v
  · by_cases h1 : v < n
    · rw [inr, decide_eq_true h0, decide_eq_true h1]
      go_enter Try.func43, Try.ntmps43
      go_wp2
      go_ret
      exact ⟨rfl, rfl⟩
    · rw [inr, decide_eq_true h0, decide_eq_false h1]
      go_enter Try.func43, Try.ntmps43
      go_wp2
      go_ret
      exact ⟨rfl, rfl⟩
  · rw [inr, decide_eq_false h0, Bool.false_and]
    go_enter Try.func43, Try.ntmps43
    go_wp2
    go_ret
    exact ⟨rfl, rfl⟩

/-- The error of an instruction, by the tests' outcomes. -/
def eIb (d a b i pd pa pb zd za zb zi : Bool) : Int :=
  if (!d || pd) && (!a || pa) && (!b || pb) then if (d || !zd) && (a || !za) && (b || !zb) && (i || !zi) then 0 else 12 else 9

theorem eI_b (x : In) (regs : Int) {d a b i pd pa pb zd za zb zi : Bool} (ho : srcO x.op = true) (hd : uD x.op = d) (ha : uA x.op = a) (hb : uB x.op = b) (hi : uI x.op = i)
    (h1 : inr x.d regs = pd) (h2 : inr x.a regs = pa) (h3 : inr x.b regs = pb) (z1 : (x.d != 0) = zd) (z2 : (x.a != 0) = za) (z3 : (x.b != 0) = zb) (z4 : (x.imm != 0) = zi) : eI x regs = eIb d a b i pd pa pb zd za zb zi := by
  subst hd ha hb hi h1 h2 h3 z1 z2 z3 z4
  rw [eI, ho, eIb]
  simp only [okR, okZ, In.regF, In.allF, List.all_cons, List.all_nil, fR_inr, fZ, Bool.and_true, Bool.not_and, Bool.not_not, Bool.and_assoc, if_true]

theorem shapes {op : Int} (h : srcO op = true) : (1 ≤ op ∧ op ≤ 17) ∧ ((uD op = true ∧ uA op = false ∧ uB op = false ∧ uI op = true ∧ (op != 1) = false) ∨ (uD op = true ∧ uA op = true ∧ uB op = false ∧ uI op = false ∧ (op != 1) = true) ∨
    (uD op = true ∧ uA op = true ∧ uB op = true ∧ uI op = false ∧ (op != 1) = true) ∨ (uD op = false ∧ uA op = true ∧ uB op = false ∧ uI op = false ∧ (op != 1) = true)) := by
  have h1 : 1 ≤ op ∧ op ≤ 17 := by
    simp only [srcO, uO, Bool.and_eq_true, decide_eq_true_eq, Bool.not_eq_true', beq_eq_false_iff_ne] at h
    omega
  refine ⟨h1, ?_⟩
  rcases (by omega : op = 1 ∨ (2 ≤ op ∧ op ≤ 4) ∨ (5 ≤ op ∧ op ≤ 16) ∨ op = 17) with h | h | h | h
  · subst h; exact .inl ⟨rfl, rfl, rfl, rfl, rfl⟩
  · exact .inr (.inl ⟨decide_eq_true (by omega), decide_eq_true (by omega), decide_eq_false (by omega), decide_eq_false (by omega), by simp; omega⟩)
  · exact .inr (.inr (.inl ⟨decide_eq_true (by omega), decide_eq_true (by omega), decide_eq_true (by omega), decide_eq_false (by omega), by simp; omega⟩))
  · subst h; exact .inr (.inr (.inr ⟨rfl, rfl, rfl, rfl, rfl⟩))

theorem srcO_no {op : Int} (h : srcO op = false) : op < 1 ∨ 17 < op := by
  by_cases h1 : 1 ≤ op ∧ op ≤ 17
  · have : srcO op = true := by
      simp only [srcO, uO, Bool.and_eq_true, decide_eq_true_eq, Bool.not_eq_true', beq_eq_false_iff_ne]
      omega
    rw [h] at this
    cases this
  · omega

set_option maxRecDepth 100000 in
set_option maxHeartbeats 2000000 in
theorem rinstr_C (x : In) (regs : Int) (w : World) (l1 : 1 ≤ x.op) (l2 : x.op ≤ 17) (s1 : (x.op != 1) = false) (pd pa pb zd za zb zi : Bool) (hpd : inr x.d regs = pd) (hpa : inr x.a regs = pa) (hpb : inr x.b regs = pb) (hzd : (x.d != 0) = zd) (hza : (x.a != 0) = za) (hzb : (x.b != 0) = zb) (hzi : (x.imm != 0) = zi)
    (sd : uD x.op = true) (sa : uA x.op = false) (sb : uB x.op = false) (he : eI x regs = eIb true false false true pd pa pb zd za zb zi) :
    Calls Try.prog 30 #[.agg #[.int .i64 x.op, .int .i64 x.d, .int .i64 x.a, .int .i64 x.b, .int .i64 x.imm], .int .i64 regs] w fun e w' => e = .returned (.int .i64 (eI x regs)) ∧ Below w.heap.size w w' := by
  have HB := Lib.hid ((Below.refl w.heap.size w).alloc (Nat.le_refl _) (.cells #[.int .i64 x.op, .int .i64 x.d, .int .i64 x.a, .int .i64 x.b, .int .i64 x.imm] 56))
  have HPd := Lib.hid hpd; have HPa := Lib.hid hpa; have HPb := Lib.hid hpb
  have Hd := Lib.hid sd; have Ha := Lib.hid sa; have Hb := Lib.hid sb
  have HE1 := Lib.hid he
  clear hpd hpa hpb sd sa sb he
  go_enter Try.func30, Try.ntmps30
  go_wp2_with fail
  refine (rusesD_any x.op true _ Hd.out).mono ?_
  rintro e w' ⟨rfl, rfl⟩
  cases pd
  · go_wp2_with fail
    refine (rin_any x.d regs false _ HPd.out).mono ?_
    rintro e w' ⟨rfl, rfl⟩
    go_wp2
    go_ret
    exact ⟨by rw [HE1.out]; rfl, HB.out⟩
  · go_wp2_with fail
    refine (rin_any x.d regs true _ HPd.out).mono ?_
    rintro e w' ⟨rfl, rfl⟩
    go_wp2_with fail
    refine (rusesA_any x.op false _ Ha.out).mono ?_
    rintro e w' ⟨rfl, rfl⟩
    go_wp2_with fail
    refine (rusesB_any x.op false _ Hb.out).mono ?_
    rintro e w' ⟨rfl, rfl⟩
    go_wp2_with fail
    refine (rusesD_any x.op true _ Hd.out).mono ?_
    rintro e w' ⟨rfl, rfl⟩
    go_wp2_with fail
    refine (rusesA_any x.op false _ Ha.out).mono ?_
    rintro e w' ⟨rfl, rfl⟩
    cases za
    · go_wp2_with fail
      refine (rusesB_any x.op false _ Hb.out).mono ?_
      rintro e w' ⟨rfl, rfl⟩
      cases zb
      · go_wp2
        go_ret
        exact ⟨by rw [HE1.out]; rfl, HB.out⟩
      · go_wp2
        go_ret
        exact ⟨by rw [HE1.out]; rfl, HB.out⟩
    · go_wp2
      go_ret
      exact ⟨by rw [HE1.out]; rfl, HB.out⟩

set_option maxRecDepth 100000 in
set_option maxHeartbeats 2000000 in
theorem rinstr_M (x : In) (regs : Int) (w : World) (l1 : 1 ≤ x.op) (l2 : x.op ≤ 17) (s1 : (x.op != 1) = true) (pd pa pb zd za zb zi : Bool) (hpd : inr x.d regs = pd) (hpa : inr x.a regs = pa) (hpb : inr x.b regs = pb) (hzd : (x.d != 0) = zd) (hza : (x.a != 0) = za) (hzb : (x.b != 0) = zb) (hzi : (x.imm != 0) = zi)
    (sd : uD x.op = true) (sa : uA x.op = true) (sb : uB x.op = false) (he : eI x regs = eIb true true false false pd pa pb zd za zb zi) :
    Calls Try.prog 30 #[.agg #[.int .i64 x.op, .int .i64 x.d, .int .i64 x.a, .int .i64 x.b, .int .i64 x.imm], .int .i64 regs] w fun e w' => e = .returned (.int .i64 (eI x regs)) ∧ Below w.heap.size w w' := by
  have HB := Lib.hid ((Below.refl w.heap.size w).alloc (Nat.le_refl _) (.cells #[.int .i64 x.op, .int .i64 x.d, .int .i64 x.a, .int .i64 x.b, .int .i64 x.imm] 56))
  have HPd := Lib.hid hpd; have HPa := Lib.hid hpa; have HPb := Lib.hid hpb
  have Hd := Lib.hid sd; have Ha := Lib.hid sa; have Hb := Lib.hid sb
  have HE1 := Lib.hid he
  clear hpd hpa hpb sd sa sb he
  go_enter Try.func30, Try.ntmps30
  go_wp2_with fail
  refine (rusesD_any x.op true _ Hd.out).mono ?_
  rintro e w' ⟨rfl, rfl⟩
  cases pd
  · go_wp2_with fail
    refine (rin_any x.d regs false _ HPd.out).mono ?_
    rintro e w' ⟨rfl, rfl⟩
    go_wp2
    go_ret
    exact ⟨by rw [HE1.out]; rfl, HB.out⟩
  · go_wp2_with fail
    refine (rin_any x.d regs true _ HPd.out).mono ?_
    rintro e w' ⟨rfl, rfl⟩
    go_wp2_with fail
    refine (rusesA_any x.op true _ Ha.out).mono ?_
    rintro e w' ⟨rfl, rfl⟩
    cases pa
    · go_wp2_with fail
      refine (rin_any x.a regs false _ HPa.out).mono ?_
      rintro e w' ⟨rfl, rfl⟩
      go_wp2
      go_ret
      exact ⟨by rw [HE1.out]; rfl, HB.out⟩
    · go_wp2_with fail
      refine (rin_any x.a regs true _ HPa.out).mono ?_
      rintro e w' ⟨rfl, rfl⟩
      go_wp2_with fail
      refine (rusesB_any x.op false _ Hb.out).mono ?_
      rintro e w' ⟨rfl, rfl⟩
      go_wp2_with fail
      refine (rusesD_any x.op true _ Hd.out).mono ?_
      rintro e w' ⟨rfl, rfl⟩
      go_wp2_with fail
      refine (rusesA_any x.op true _ Ha.out).mono ?_
      rintro e w' ⟨rfl, rfl⟩
      go_wp2_with fail
      refine (rusesB_any x.op false _ Hb.out).mono ?_
      rintro e w' ⟨rfl, rfl⟩
      cases zb
      · cases zi
        · go_wp2
          go_ret
          exact ⟨by rw [HE1.out]; rfl, HB.out⟩
        · go_wp2
          go_ret
          exact ⟨by rw [HE1.out]; rfl, HB.out⟩
      · go_wp2
        go_ret
        exact ⟨by rw [HE1.out]; rfl, HB.out⟩

set_option maxRecDepth 100000 in
set_option maxHeartbeats 2000000 in
theorem rinstr_B (x : In) (regs : Int) (w : World) (l1 : 1 ≤ x.op) (l2 : x.op ≤ 17) (s1 : (x.op != 1) = true) (pd pa pb zd za zb zi : Bool) (hpd : inr x.d regs = pd) (hpa : inr x.a regs = pa) (hpb : inr x.b regs = pb) (hzd : (x.d != 0) = zd) (hza : (x.a != 0) = za) (hzb : (x.b != 0) = zb) (hzi : (x.imm != 0) = zi)
    (sd : uD x.op = true) (sa : uA x.op = true) (sb : uB x.op = true) (he : eI x regs = eIb true true true false pd pa pb zd za zb zi) :
    Calls Try.prog 30 #[.agg #[.int .i64 x.op, .int .i64 x.d, .int .i64 x.a, .int .i64 x.b, .int .i64 x.imm], .int .i64 regs] w fun e w' => e = .returned (.int .i64 (eI x regs)) ∧ Below w.heap.size w w' := by
  have HB := Lib.hid ((Below.refl w.heap.size w).alloc (Nat.le_refl _) (.cells #[.int .i64 x.op, .int .i64 x.d, .int .i64 x.a, .int .i64 x.b, .int .i64 x.imm] 56))
  have HPd := Lib.hid hpd; have HPa := Lib.hid hpa; have HPb := Lib.hid hpb
  have Hd := Lib.hid sd; have Ha := Lib.hid sa; have Hb := Lib.hid sb
  have HE1 := Lib.hid he
  clear hpd hpa hpb sd sa sb he
  go_enter Try.func30, Try.ntmps30
  go_wp2_with fail
  refine (rusesD_any x.op true _ Hd.out).mono ?_
  rintro e w' ⟨rfl, rfl⟩
  cases pd
  · go_wp2_with fail
    refine (rin_any x.d regs false _ HPd.out).mono ?_
    rintro e w' ⟨rfl, rfl⟩
    go_wp2
    go_ret
    exact ⟨by rw [HE1.out]; rfl, HB.out⟩
  · go_wp2_with fail
    refine (rin_any x.d regs true _ HPd.out).mono ?_
    rintro e w' ⟨rfl, rfl⟩
    go_wp2_with fail
    refine (rusesA_any x.op true _ Ha.out).mono ?_
    rintro e w' ⟨rfl, rfl⟩
    cases pa
    · go_wp2_with fail
      refine (rin_any x.a regs false _ HPa.out).mono ?_
      rintro e w' ⟨rfl, rfl⟩
      go_wp2
      go_ret
      exact ⟨by rw [HE1.out]; rfl, HB.out⟩
    · go_wp2_with fail
      refine (rin_any x.a regs true _ HPa.out).mono ?_
      rintro e w' ⟨rfl, rfl⟩
      go_wp2_with fail
      refine (rusesB_any x.op true _ Hb.out).mono ?_
      rintro e w' ⟨rfl, rfl⟩
      cases pb
      · go_wp2_with fail
        refine (rin_any x.b regs false _ HPb.out).mono ?_
        rintro e w' ⟨rfl, rfl⟩
        go_wp2
        go_ret
        exact ⟨by rw [HE1.out]; rfl, HB.out⟩
      · go_wp2_with fail
        refine (rin_any x.b regs true _ HPb.out).mono ?_
        rintro e w' ⟨rfl, rfl⟩
        go_wp2_with fail
        refine (rusesD_any x.op true _ Hd.out).mono ?_
        rintro e w' ⟨rfl, rfl⟩
        go_wp2_with fail
        refine (rusesA_any x.op true _ Ha.out).mono ?_
        rintro e w' ⟨rfl, rfl⟩
        go_wp2_with fail
        refine (rusesB_any x.op true _ Hb.out).mono ?_
        rintro e w' ⟨rfl, rfl⟩
        cases zi
        · go_wp2
          go_ret
          exact ⟨by rw [HE1.out]; rfl, HB.out⟩
        · go_wp2
          go_ret
          exact ⟨by rw [HE1.out]; rfl, HB.out⟩

set_option maxRecDepth 100000 in
set_option maxHeartbeats 2000000 in
theorem rinstr_E (x : In) (regs : Int) (w : World) (l1 : 1 ≤ x.op) (l2 : x.op ≤ 17) (s1 : (x.op != 1) = true) (pd pa pb zd za zb zi : Bool) (hpd : inr x.d regs = pd) (hpa : inr x.a regs = pa) (hpb : inr x.b regs = pb) (hzd : (x.d != 0) = zd) (hza : (x.a != 0) = za) (hzb : (x.b != 0) = zb) (hzi : (x.imm != 0) = zi)
    (sd : uD x.op = false) (sa : uA x.op = true) (sb : uB x.op = false) (he : eI x regs = eIb false true false false pd pa pb zd za zb zi) :
    Calls Try.prog 30 #[.agg #[.int .i64 x.op, .int .i64 x.d, .int .i64 x.a, .int .i64 x.b, .int .i64 x.imm], .int .i64 regs] w fun e w' => e = .returned (.int .i64 (eI x regs)) ∧ Below w.heap.size w w' := by
  have HB := Lib.hid ((Below.refl w.heap.size w).alloc (Nat.le_refl _) (.cells #[.int .i64 x.op, .int .i64 x.d, .int .i64 x.a, .int .i64 x.b, .int .i64 x.imm] 56))
  have HPd := Lib.hid hpd; have HPa := Lib.hid hpa; have HPb := Lib.hid hpb
  have Hd := Lib.hid sd; have Ha := Lib.hid sa; have Hb := Lib.hid sb
  have HE1 := Lib.hid he
  clear hpd hpa hpb sd sa sb he
  go_enter Try.func30, Try.ntmps30
  go_wp2_with fail
  refine (rusesD_any x.op false _ Hd.out).mono ?_
  rintro e w' ⟨rfl, rfl⟩
  go_wp2_with fail
  refine (rusesA_any x.op true _ Ha.out).mono ?_
  rintro e w' ⟨rfl, rfl⟩
  cases pa
  · go_wp2_with fail
    refine (rin_any x.a regs false _ HPa.out).mono ?_
    rintro e w' ⟨rfl, rfl⟩
    go_wp2
    go_ret
    exact ⟨by rw [HE1.out]; rfl, HB.out⟩
  · go_wp2_with fail
    refine (rin_any x.a regs true _ HPa.out).mono ?_
    rintro e w' ⟨rfl, rfl⟩
    go_wp2_with fail
    refine (rusesB_any x.op false _ Hb.out).mono ?_
    rintro e w' ⟨rfl, rfl⟩
    go_wp2_with fail
    refine (rusesD_any x.op false _ Hd.out).mono ?_
    rintro e w' ⟨rfl, rfl⟩
    cases zd
    · go_wp2_with fail
      refine (rusesA_any x.op true _ Ha.out).mono ?_
      rintro e w' ⟨rfl, rfl⟩
      go_wp2_with fail
      refine (rusesB_any x.op false _ Hb.out).mono ?_
      rintro e w' ⟨rfl, rfl⟩
      cases zb
      · cases zi
        · go_wp2
          go_ret
          exact ⟨by rw [HE1.out]; rfl, HB.out⟩
        · go_wp2
          go_ret
          exact ⟨by rw [HE1.out]; rfl, HB.out⟩
      · go_wp2
        go_ret
        exact ⟨by rw [HE1.out]; rfl, HB.out⟩
    · go_wp2
      go_ret
      exact ⟨by rw [HE1.out]; rfl, HB.out⟩

set_option maxRecDepth 100000 in
set_option maxHeartbeats 2000000 in
theorem rinstr_any (x : In) (regs : Int) (w : World) :
    Calls Try.prog 30 #[.agg #[.int .i64 x.op, .int .i64 x.d, .int .i64 x.a, .int .i64 x.b, .int .i64 x.imm], .int .i64 regs] w fun e w' => e = .returned (.int .i64 (eI x regs)) ∧ Below w.heap.size w w' := by
  cases hO : srcO x.op
  · have HB := Lib.hid ((Below.refl w.heap.size w).alloc (Nat.le_refl _) (.cells #[.int .i64 x.op, .int .i64 x.d, .int .i64 x.a, .int .i64 x.b, .int .i64 x.imm] 56))
    have HE : Hid (eI x regs = 8) := by rw [Hid, eI, hO]; rfl
    rcases srcO_no hO with h | h
    · clear hO
      go_enter Try.func30, Try.ntmps30
      go_wp2
      go_ret
      exact ⟨by rw [HE.out]; rfl, HB.out⟩
    · clear hO
      have h1 : 1 ≤ x.op := by omega
      go_enter Try.func30, Try.ntmps30
      go_wp2
      go_ret
      exact ⟨by rw [HE.out]; rfl, HB.out⟩
  · obtain ⟨⟨l1, l2⟩, hsh⟩ := shapes hO
    rcases hsh with ⟨sd, sa, sb, si, s1⟩ | ⟨sd, sa, sb, si, s1⟩ | ⟨sd, sa, sb, si, s1⟩ | ⟨sd, sa, sb, si, s1⟩
    · exact rinstr_C x regs w l1 l2 s1 _ _ _ _ _ _ _ rfl rfl rfl rfl rfl rfl rfl sd sa sb (eI_b x regs hO sd sa sb si rfl rfl rfl rfl rfl rfl rfl)
    · exact rinstr_M x regs w l1 l2 s1 _ _ _ _ _ _ _ rfl rfl rfl rfl rfl rfl rfl sd sa sb (eI_b x regs hO sd sa sb si rfl rfl rfl rfl rfl rfl rfl)
    · exact rinstr_B x regs w l1 l2 s1 _ _ _ _ _ _ _ rfl rfl rfl rfl rfl rfl rfl sd sa sb (eI_b x regs hO sd sa sb si rfl rfl rfl rfl rfl rfl rfl)
    · exact rinstr_E x regs w l1 l2 s1 _ _ _ _ _ _ _ rfl rfl rfl rfl rfl rfl rfl sd sa sb (eI_b x regs hO sd sa sb si rfl rfl rfl rfl rfl rfl rfl)

end Go.Proofs.Ytncigbpeempnfaa

/-
  The reference's Term.
-/
namespace Go.Proofs.Ytncigbpeempnfaa
open Go.RowKit
set_option linter.unusedVariables false

theorem fR_off (n v : Int) : fR n (false, v) = true := rfl

theorem fZ_on (v : Int) : fZ (true, v) = true := rfl

theorem fZ_off (v : Int) : fZ (false, v) = !(v != 0) := rfl

theorem eT_1 (t : Tm) (regs blocks : Int) (h : t.kind = 1) {p z1 z2 : Bool} (hp : inr t.to blocks = p) (h1 : (t.a != 0) = z1) (h2 : (t.el != 0) = z2) : eT t regs blocks = if p then (if z1 then 12 else if z2 then 12 else 0) else 11 := by
  subst hp h1 h2
  rw [eT, kO, h]
  simp only [Tm.aF, Tm.toF, Tm.allF, h, okR, okZ, List.all_cons, List.all_nil, Bool.and_true, fR_inr, fZ]
  cases inr t.to blocks <;> cases t.a != 0 <;> cases t.el != 0 <;> rfl

theorem eT_2 (t : Tm) (regs blocks : Int) (h : t.kind = 2) {p q r : Bool} (hp : inr t.a regs = p) (hq : inr t.to blocks = q) (hr : inr t.el blocks = r) : eT t regs blocks = if p then (if q then if r then 0 else 11 else 11) else 9 := by
  subst hp hq hr
  rw [eT, kO, h]
  simp only [Tm.aF, Tm.toF, Tm.allF, h, okR, okZ, List.all_cons, List.all_nil, Bool.and_true, fR_inr, fZ]
  cases inr t.a regs <;> cases inr t.to blocks <;> cases inr t.el blocks <;> rfl

theorem eT_3 (t : Tm) (regs blocks : Int) (h : t.kind = 3) {p z1 z2 : Bool} (hp : inr t.a regs = p) (h1 : (t.to != 0) = z1) (h2 : (t.el != 0) = z2) : eT t regs blocks = if p then (if z1 then 12 else if z2 then 12 else 0) else 9 := by
  subst hp h1 h2
  rw [eT, kO, h]
  simp only [Tm.aF, Tm.toF, Tm.allF, h, okR, okZ, List.all_cons, List.all_nil, Bool.and_true, fR_inr, fZ]
  cases inr t.a regs <;> cases t.to != 0 <;> cases t.el != 0 <;> rfl

set_option maxRecDepth 100000 in
set_option maxHeartbeats 2000000 in
theorem rterm_any (t : Tm) (regs blocks : Int) (w : World) :
    Calls Try.prog 31 #[.agg #[.int .i64 t.kind, .int .i64 t.a, .int .i64 t.to, .int .i64 t.el], .int .i64 regs, .int .i64 blocks] w fun e w' => e = .returned (.int .i64 (eT t regs blocks)) ∧ Below w.heap.size w w' := by
  have HB := Lib.hid ((Below.refl w.heap.size w).alloc (Nat.le_refl _) (.cells #[.int .i64 t.kind, .int .i64 t.a, .int .i64 t.to, .int .i64 t.el] 32))
  by_cases h1 : t.kind = 1
  · have e1 : (t.kind == 1) = true := by simp [h1]
    obtain ⟨p, hp⟩ : ∃ z, inr t.to blocks = z := ⟨_, rfl⟩
    obtain ⟨z1, hz1⟩ : ∃ z, (t.a != 0) = z := ⟨_, rfl⟩
    obtain ⟨z2, hz2⟩ : ∃ z, (t.el != 0) = z := ⟨_, rfl⟩
    have HE := Lib.hid (eT_1 t regs blocks h1 hp hz1 hz2)
    have HP := Lib.hid hp
    clear hp h1
    go_enter Try.func31, Try.ntmps31
    go_wp2_with fail
    cases p
    · refine (rin_any t.to blocks false _ HP.out).mono ?_
      rintro e w' ⟨rfl, rfl⟩
      go_wp2
      go_ret
      exact ⟨by rw [HE.out]; rfl, HB.out⟩
    · refine (rin_any t.to blocks true _ HP.out).mono ?_
      rintro e w' ⟨rfl, rfl⟩
      cases z1
      · cases z2
        · go_wp2
          go_ret
          exact ⟨by rw [HE.out]; rfl, HB.out⟩
        · go_wp2
          go_ret
          exact ⟨by rw [HE.out]; rfl, HB.out⟩
      · go_wp2
        go_ret
        exact ⟨by rw [HE.out]; rfl, HB.out⟩
  · have e1 : (t.kind == 1) = false := by simp [h1]
    by_cases h2 : t.kind = 2
    · have e2 : (t.kind == 2) = true := by simp [h2]
      obtain ⟨p, hp⟩ : ∃ z, inr t.a regs = z := ⟨_, rfl⟩
      obtain ⟨q, hq⟩ : ∃ z, inr t.to blocks = z := ⟨_, rfl⟩
      obtain ⟨r, hr⟩ : ∃ z, inr t.el blocks = z := ⟨_, rfl⟩
      have HE := Lib.hid (eT_2 t regs blocks h2 hp hq hr)
      have HP := Lib.hid hp; have HQ := Lib.hid hq; have HR := Lib.hid hr
      clear hp hq hr h1 h2
      go_enter Try.func31, Try.ntmps31
      go_wp2_with fail
      cases p
      · refine (rin_any t.a regs false _ HP.out).mono ?_
        rintro e w' ⟨rfl, rfl⟩
        go_wp2
        go_ret
        exact ⟨by rw [HE.out]; rfl, HB.out⟩
      · refine (rin_any t.a regs true _ HP.out).mono ?_
        rintro e w' ⟨rfl, rfl⟩
        go_wp2_with fail
        cases q
        · refine (rin_any t.to blocks false _ HQ.out).mono ?_
          rintro e w' ⟨rfl, rfl⟩
          go_wp2
          go_ret
          exact ⟨by rw [HE.out]; rfl, HB.out⟩
        · refine (rin_any t.to blocks true _ HQ.out).mono ?_
          rintro e w' ⟨rfl, rfl⟩
          go_wp2_with fail
          cases r
          · refine (rin_any t.el blocks false _ HR.out).mono ?_
            rintro e w' ⟨rfl, rfl⟩
            go_wp2
            go_ret
            exact ⟨by rw [HE.out]; rfl, HB.out⟩
          · refine (rin_any t.el blocks true _ HR.out).mono ?_
            rintro e w' ⟨rfl, rfl⟩
            go_wp2
            go_ret
            exact ⟨by rw [HE.out]; rfl, HB.out⟩
    · have e2 : (t.kind == 2) = false := by simp [h2]
      by_cases h3 : t.kind = 3
      · have e3 : (t.kind == 3) = true := by simp [h3]
        obtain ⟨p, hp⟩ : ∃ z, inr t.a regs = z := ⟨_, rfl⟩
        obtain ⟨z1, hz1⟩ : ∃ z, (t.to != 0) = z := ⟨_, rfl⟩
        obtain ⟨z2, hz2⟩ : ∃ z, (t.el != 0) = z := ⟨_, rfl⟩
        have HE := Lib.hid (eT_3 t regs blocks h3 hp hz1 hz2)
        have HP := Lib.hid hp
        clear hp h1 h2 h3
        go_enter Try.func31, Try.ntmps31
        go_wp2_with fail
        cases p
        · refine (rin_any t.a regs false _ HP.out).mono ?_
          rintro e w' ⟨rfl, rfl⟩
          go_wp2
          go_ret
          exact ⟨by rw [HE.out]; rfl, HB.out⟩
        · refine (rin_any t.a regs true _ HP.out).mono ?_
          rintro e w' ⟨rfl, rfl⟩
          cases z1
          · cases z2
            · go_wp2
              go_ret
              exact ⟨by rw [HE.out]; rfl, HB.out⟩
            · go_wp2
              go_ret
              exact ⟨by rw [HE.out]; rfl, HB.out⟩
          · go_wp2
            go_ret
            exact ⟨by rw [HE.out]; rfl, HB.out⟩
      · have e3 : (t.kind == 3) = false := by simp [h3]
        have HE : Hid (eT t regs blocks = 16) := by rw [Hid, eT, kO, e1, e2, e3]; rfl
        clear h1 h2 h3
        go_enter Try.func31, Try.ntmps31
        go_wp2
        go_ret
        exact ⟨by rw [HE.out]; rfl, HB.out⟩

end Go.Proofs.Ytncigbpeempnfaa

/-
  Code of both; checkSizes.
-/
namespace Go.Proofs.Ytncigbpeempnfaa
open Go.RowKit
set_option linter.unusedVariables false

set_option maxRecDepth 100000 in
set_option maxHeartbeats 1000000 in
theorem rcode_any (B : Nat) (A : Option Addr) (bs : List Blk) (c : Nat) (args regs : Int) (w : World) (hs : BlksAt w B A bs) (hB : B ≤ w.heap.size) (hm : bs.length ≤ 1000) (hn : codeN bs ≤ 1000000) :
    Calls Try.prog 29 #[.agg #[.int .i64 args, .int .i64 regs, .slice A bs.length c]] w fun e w' => e = .returned (.int .i64 (codeN bs : Nat)) ∧ Below w.heap.size w w' := by
  have HB0 := Lib.hid ((Below.refl w.heap.size w).alloc (Nat.le_refl _) (.cells #[.int .i64 args, .int .i64 regs, .slice A bs.length c] 24))
  have hs1 := (hs.more hB).alloc (Nat.le_refl _) (.cells #[.int .i64 args, .int .i64 regs, .slice A bs.length c] 24)
  have hbox := Row.new w 24 #[.int .i64 args, .int .i64 regs, .slice A bs.length c]
  go_enter Try.func29, Try.ntmps29
  go_wp2_with fail
  generalize w.alloc (.cells #[.int .i64 args, .int .i64 regs, .slice A bs.length c] 24) = W0 at *
  have d2 := hbox.cell 2
  simp only [List.getElem?_toArray, List.getElem?_cons_zero, List.getElem?_cons_succ] at d2
  clear hs hbox
  go_loop [3, 4] (fun s i => ∃ k : Nat, k ≤ bs.length ∧ i = .int .i64 k ∧ s = .int .i64 (codeN (bs.take k) : Nat)) (fun _ i => bs.length - (intOf i).toNat)
  case atStart => exact ⟨0, Nat.zero_le _, rfl, rfl⟩
  case round =>
    obtain ⟨k, hk, rfl, rfl⟩ := hrel
    by_cases hlt : k < bs.length
    · obtain ⟨b, o, rfl, hb, hat⟩ := hs1.at_ hlt
      obtain ⟨A1, c1, hc0, hl1, hl2, _⟩ := hat.code
      have HT := Lib.hid (codeN_step bs k hlt)
      have h2 := codeN_take bs (k + 1)
      rw [HT.out] at h2
      clear hat hs1
      generalize codeN (bs.take k) = s0 at h2 HT
      generalize bs[k] = x at *
      go_wp2
      go_round
      case rel => exact ⟨k + 1, by omega, by go_num, by rw [HT.out]; go_num⟩
      case measure => simp [intOf]; omega
    · obtain rfl : k = bs.length := by omega
      rw [List.take_length]
      go_wp2
      go_ret
      exact ⟨rfl, HB0.out⟩

theorem sizes_ways (args regs : Int) (bs : List Blk) (hm : bs.length ≤ 1000) (hn : codeN bs ≤ 1000000) :
    (args < 0 ∧ eSz args regs bs = 9) ∨ (0 ≤ args ∧ regs < args ∧ eSz args regs bs = 9) ∨ (0 ≤ args ∧ args ≤ regs ∧ ((1048576 < regs ∧ eSz args regs bs = 6) ∨ (regs ≤ 1048576 ∧ ((bs.length = 0 ∧ eSz args regs bs = 14) ∨ (0 < bs.length ∧ eSz args regs bs = 0))))) := by
  unfold eSz
  by_cases h1 : args < 0
  · exact .inl ⟨h1, by rw [if_pos (.inl h1)]⟩
  · by_cases h2 : regs < args
    · exact .inr (.inl ⟨by omega, h2, by rw [if_pos (.inr h2)]⟩)
    · refine .inr (.inr ⟨by omega, by omega, ?_⟩)
      rw [if_neg (by omega)]
      by_cases h3 : 1048576 < regs
      · exact .inl ⟨h3, by rw [if_pos h3]⟩
      · refine .inr ⟨by omega, ?_⟩
        rw [if_neg h3]
        by_cases h4 : bs.length = 0
        · exact .inl ⟨h4, by rw [if_pos h4]⟩
        · exact .inr ⟨by omega, by rw [if_neg h4, if_neg (by omega)]⟩

end Go.Proofs.Ytncigbpeempnfaa

/-
  The reference's Check.
-/
namespace Go.Proofs.Ytncigbpeempnfaa
open Go.RowKit
set_option linter.unusedVariables false

set_option maxRecDepth 100000 in
set_option maxHeartbeats 2000000 in
theorem rcheck_any (B : Nat) (A : Option Addr) (bs : List Blk) (c : Nat) (args regs : Int) (w : World) (hs : BlksAt w B A bs) (hB : B ≤ w.heap.size) (hm : bs.length ≤ 1000) (hn : codeN bs ≤ 1000000) :
    Calls Try.prog 10 #[.agg #[.int .i64 args, .int .i64 regs, .slice A bs.length c]] w fun e w' => e = .returned (.int .i64 (eF args regs bs)) ∧ Below w.heap.size w w' := by
  have HB0 := Lib.hid ((Below.refl w.heap.size w).alloc (Nat.le_refl _) (.cells #[.int .i64 args, .int .i64 regs, .slice A bs.length c] 24))
  have HX := Lib.hid (Row.new w 24 #[.int .i64 args, .int .i64 regs, .slice A bs.length c])
  have HC := Lib.hid (rcode_any B A bs c args regs _ (hs.alloc hB (.cells #[.int .i64 args, .int .i64 regs, .slice A bs.length c] 24)) (by simp; omega) hm hn)
  have hws := sizes_ways args regs bs hm hn
  have hcn : (codeN bs : Int) ≤ 1000000 := by omega
  go_enter Try.func10, Try.ntmps10
  rcases hws with ⟨h1, he⟩ | ⟨h1, h2, he⟩ | ⟨h1, h2, ⟨h3, he⟩ | ⟨h3, ⟨h4, he⟩ | ⟨h4, he⟩⟩⟩
  · have HE : Hid (eF args regs bs = 9) := by rw [Hid, eF, he]; rfl
    clear he
    go_wp2
    go_ret
    exact ⟨by rw [HE.out]; rfl, HB0.out⟩
  · have HE : Hid (eF args regs bs = 9) := by rw [Hid, eF, he]; rfl
    clear he
    go_wp2
    go_ret
    exact ⟨by rw [HE.out]; rfl, HB0.out⟩
  · have HE : Hid (eF args regs bs = 6) := by rw [Hid, eF, he]; rfl
    clear he
    go_wp2
    go_ret
    exact ⟨by rw [HE.out]; rfl, HB0.out⟩
  · have HE : Hid (eF args regs bs = 14) := by rw [Hid, eF, he]; rfl
    have e1 : ((bs.length : Int) == 0) = true := by simp [h4]
    clear he h4
    go_wp2
    go_ret
    exact ⟨by rw [HE.out]; rfl, HB0.out⟩
  · have HE : Hid (eF args regs bs = eBs regs bs.length bs) := by rw [Hid, eF, he]; rfl
    have e1 : ((bs.length : Int) == 0) = false := beq_eq_false_iff_ne.2 (by omega)
    clear he
    go_wp2_with fail
    refine HC.out.mono ?_
    rintro e W1 ⟨rfl, hb1⟩
    have HB1 := Lib.hid (HB0.out.trans (hb1.mono HB0.out.size))
    have HX1 := Lib.hid (HX.out.below hb1 HX.out.lt)
    clear hb1 HC HB0 HX e1 h1 h2 h3 h4
    generalize codeN bs = cn at hcn
    go_wp2
    clear hcn
    go_loopg [3] bs.length (fun g i wr => ∃ k : Nat, k + g = bs.length ∧ i = .int .i64 k ∧ Hid (eBs regs bs.length bs = eBs regs bs.length (bs.drop k)) ∧ Hid (Below w.heap.size w wr) ∧ Hid (Row wr w.heap.size 24 #[.int .i64 args, .int .i64 regs, .slice A bs.length c]))
    case atStart => exact ⟨0, by omega, rfl, rfl, HB1.out, HX1.out⟩
    case round =>
      obtain ⟨k, hkg, rfl, HT, HB, HR⟩ := hrel
      have d1 := HR.out.cell 1; have d2 := HR.out.cell 2
      have hlz : w.heap.size < wr.heap.size := HR.out.lt
      simp only [List.getElem?_toArray, List.getElem?_cons_zero, List.getElem?_cons_succ] at d1 d2
      cases gk with
      | zero =>
        obtain rfl : k = bs.length := by omega
        rw [List.drop_length] at HT
        have HE2 : Hid (eF args regs bs = 0) := by rw [Hid, HE.out, HT.out]; rfl
        go_wp2
        go_ret
        exact ⟨by rw [HE2.out]; rfl, HB.out⟩
      | succ g =>
        have hlt : k < bs.length := by omega
        have hs1 := (hs.more hB).below HB.out
        obtain ⟨b, o, rfl, hb, hat⟩ := hs1.at_ hlt
        have HS := Lib.hid (HT.out.trans (eBs_step regs bs.length bs k hlt))
        obtain ⟨A1, c1, hc0, hl1, hl2, hin⟩ := hat.code
        have hc1 := hat.t0; have hc2 := hat.t1; have hc3 := hat.t2; have hc4 := hat.t3
        have HB2 := Lib.hid (HB.out.alloc HB.out.size (.cells #[.slice A1 bs[k].code.length c1, .int .i64 bs[k].term.kind, .int .i64 bs[k].term.a, .int .i64 bs[k].term.to, .int .i64 bs[k].term.el] 34))
        have HR2 := Lib.hid (HR.out.alloc (.cells #[.slice A1 bs[k].code.length c1, .int .i64 bs[k].term.kind, .int .i64 bs[k].term.a, .int .i64 bs[k].term.to, .int .i64 bs[k].term.el] 34))
        have HP2 := Lib.hid (Row.new wr 34 #[.slice A1 bs[k].code.length c1, .int .i64 bs[k].term.kind, .int .i64 bs[k].term.a, .int .i64 bs[k].term.to, .int .i64 bs[k].term.el])
        have HIN := Lib.hid (show InsAt wr w.heap.size A1 bs[k].code from hin)
        have hyl : bs[k].code.length ≤ 1000000 := by have := codeN_mem bs k hlt; omega
        have hz := HB.out.size
        clear hat HT HB HR hs hs1 HX1 HB1 hin
        generalize bs[k] = y at *
        obtain ⟨wo, hwo⟩ : ∃ z, z = wr := ⟨_, rfl⟩
        subst hwo
        go_wp2
        clear hc0 hc1 hc2 hc3 hc4 d1 d2
        go_loopg [5] y.code.length (fun g2 j wx => ∃ m : Nat, m + g2 = y.code.length ∧ j = .int .i64 m ∧ Hid (eIs regs y.code = eIs regs (y.code.drop m)) ∧ Hid (Below w.heap.size w wx) ∧ Hid (Row wx w.heap.size 24 #[.int .i64 args, .int .i64 regs, .slice (some ⟨b, o, none⟩) bs.length c]) ∧ Hid (Row wx wo.heap.size 34 #[.slice A1 y.code.length c1, .int .i64 y.term.kind, .int .i64 y.term.a, .int .i64 y.term.to, .int .i64 y.term.el]) ∧ Hid (InsAt wx w.heap.size A1 y.code))
        case atStart => exact ⟨0, by omega, rfl, rfl, HB2.out, HR2.out, HP2.out, HIN.out.keep fun p hp => World.cell?_alloc_lt wo _ p (by omega)⟩
        case round =>
          obtain ⟨m, hmg, rfl, HI, HBx, HRx, HPx, HIx⟩ := hrel
          have d0 := HPx.out.cell 0
          have d1 := HRx.out.cell 1; have d2 := HRx.out.cell 2
          simp only [List.getElem?_toArray, List.getElem?_cons_zero, List.getElem?_cons_succ] at d0 d1 d2
          cases gk with
          | zero =>
            obtain rfl : m = y.code.length := by omega
            rw [List.drop_length] at HI
            have HEB : Hid (eB y regs bs.length = eT y.term regs bs.length) := by rw [Hid, eB, HI.out]; rfl
            have f1 := HPx.out.cell 1; have f2 := HPx.out.cell 2; have f3 := HPx.out.cell 3; have f4 := HPx.out.cell 4
            simp only [List.getElem?_toArray, List.getElem?_cons_zero, List.getElem?_cons_succ] at f1 f2 f3 f4
            go_wp2_with fail
            refine (rterm_any y.term regs bs.length _).mono ?_
            rintro e W2 ⟨rfl, hb2⟩
            have HB3 := Lib.hid (HBx.out.trans (hb2.mono HBx.out.size))
            have HR3 := Lib.hid (HRx.out.below hb2 HRx.out.lt)
            clear hb2 d0 d1 d2 f1 f2 f3 f4 HPx HRx HBx
            obtain ⟨v, hv⟩ : ∃ z, eT y.term regs bs.length = z := ⟨_, rfl⟩
            rw [hv] at HEB ⊢
            clear hv
            by_cases h0 : v = 0
            · have e0 : (v != 0) = false := by simp [h0]
              have HS2 : Hid (eBs regs bs.length bs = eBs regs bs.length (bs.drop (k + 1))) := by rw [Hid, HS.out, HEB.out, if_pos h0]
              clear HS h0
              go_wp2
              go_roundg g
              case measure => omega
              case rel => exact ⟨k + 1, by omega, by go_num, HS2.out, HB3.out, HR3.out⟩
            · have e0 : (v != 0) = true := by simp [h0]
              have HE2 : Hid (eF args regs bs = v) := by rw [Hid, HE.out, HS.out, HEB.out, if_neg h0]
              clear HS h0
              go_wp2
              go_ret
              exact ⟨by rw [HE2.out]; rfl, HB3.out⟩
          | succ g2 =>
            have hlm : m < y.code.length := by omega
            obtain ⟨b1, o1, rfl, hb1, hin⟩ := HIx.out.at_ hlm
            have HJ := Lib.hid (HI.out.trans (eIs_step regs y.code m hlm))
            have i0 := hin.c0; have i1 := hin.c1; have i2 := hin.c2; have i3 := hin.c3; have i4 := hin.c4
            have HV := Lib.hid (fun W => rinstr_any y.code[m] regs W)
            obtain ⟨v, hv⟩ : ∃ z, eI y.code[m] regs = z := ⟨_, rfl⟩
            rw [hv] at HJ
            simp only [hv] at HV
            clear hin hv
            generalize y.code[m] = x at *
            have HXx := Lib.hid (And.intro d0 (And.intro d1 (And.intro i0 (And.intro i1 (And.intro i2 (And.intro i3 i4))))))
            have hzx := HBx.out.size
            have hzo : w.heap.size < wr.heap.size := HRx.out.lt
            have hzp : wo.heap.size < wr.heap.size := HPx.out.lt
            have HVV : Hid (∀ w0, (∃ m, w0 = wr.drewN m) → Calls Try.prog 30 #[.agg #[.int .i64 x.op, .int .i64 x.d, .int .i64 x.a, .int .i64 x.b, .int .i64 x.imm], .int .i64 regs] w0 fun e w' => e = .returned (.int .i64 v) ∧ Below wr.heap.size wr w') := fun w0 ⟨m, hm⟩ => by
              subst hm
              refine (HV.out _).mono ?_
              rintro e w' ⟨rfl, h1⟩
              exact ⟨rfl, below_unN h1 (Nat.le_refl _)⟩
            clear HV
            go_wp2_with fail
            go_region_held3 (fun w' => w'.cell? ⟨wo.heap.size, 0, none⟩ = some (.slice (some ⟨b1, o1, none⟩) y.code.length c1) ∧ w'.cell? ⟨w.heap.size, 1, none⟩ = some (.int .i64 regs) ∧ w'.cell? ⟨b1, o1 + m * 5, none⟩ = some (.int .i64 x.op) ∧ w'.cell? ⟨b1, o1 + m * 5 + 1, none⟩ = some (.int .i64 x.d) ∧ w'.cell? ⟨b1, o1 + m * 5 + 2, none⟩ = some (.int .i64 x.a) ∧ w'.cell? ⟨b1, o1 + m * 5 + 3, none⟩ = some (.int .i64 x.b) ∧ w'.cell? ⟨b1, o1 + m * 5 + 4, none⟩ = some (.int .i64 x.imm)) (first | exact HXx.out | exact hXa) (first
              | (go_at_call 30; go_must (((with_reducible refine (HVV.out _ (by first | exact ⟨1, rfl⟩ | exact ⟨0, rfl⟩ | exact ⟨_, rfl⟩)).mono ?_); rintro e Wa ⟨rfl, hb⟩; have HWa := Lib.hid hb; have hXa := (And.intro ((hb.cell (p := ⟨wo.heap.size, 0, none⟩) hzp).trans HXx.out.1) (And.intro ((hb.cell (p := ⟨w.heap.size, 1, none⟩) hzo).trans HXx.out.2.1) (And.intro ((hb.cell (p := ⟨b1, o1 + m * 5, none⟩) (by show b1 < _; omega)).trans HXx.out.2.2.1) (And.intro ((hb.cell (p := ⟨b1, o1 + m * 5 + 1, none⟩) (by show b1 < _; omega)).trans HXx.out.2.2.2.1) (And.intro ((hb.cell (p := ⟨b1, o1 + m * 5 + 2, none⟩) (by show b1 < _; omega)).trans HXx.out.2.2.2.2.1) (And.intro ((hb.cell (p := ⟨b1, o1 + m * 5 + 3, none⟩) (by show b1 < _; omega)).trans HXx.out.2.2.2.2.2.1) ((hb.cell (p := ⟨b1, o1 + m * 5 + 4, none⟩) (by show b1 < _; omega)).trans HXx.out.2.2.2.2.2.2))))))); clear hb)))
              )
            have HB3 := Lib.hid (HBx.out.trans (HWa.out.mono hzx))
            have HR3 := Lib.hid (HRx.out.below HWa.out hzo)
            have HP3 := Lib.hid (HPx.out.below HWa.out hzp)
            have HI3 := Lib.hid (HIx.out.below (HWa.out.mono hzx))
            clear hXa HXx HVV HWa d0 d1 d2 i0 i1 i2 i3 i4 HBx HRx HPx HIx
            by_cases h0 : v = 0
            · have e0 : (v != 0) = false := by simp [h0]
              have HS2 : Hid (eIs regs y.code = eIs regs (y.code.drop (m + 1))) := by rw [Hid, HJ.out, if_pos h0]
              clear HJ h0
              go_wp2
              go_roundg g2
              case measure => omega
              case rel => exact ⟨m + 1, by omega, by go_num, HS2.out, HB3.out, HR3.out, HP3.out, HI3.out⟩
            · have e0 : (v != 0) = true := by simp [h0]
              have HEB : Hid (eB y regs bs.length = v) := by rw [Hid, eB, HJ.out, if_neg h0, if_neg h0]
              have HE2 : Hid (eF args regs bs = v) := by rw [Hid, HE.out, HS.out, HEB.out, if_neg h0]
              clear HS HJ h0
              go_wp2
              go_ret
              exact ⟨by rw [HE2.out]; rfl, HB3.out⟩

end Go.Proofs.Ytncigbpeempnfaa

/-
  The program's functions on one instruction: isMove, extend, moveError, otherError, the finder and its two functions, Instr.
-/
namespace Go.Proofs.Ytncigbpeempnfaa
open Go.RowKit
set_option linter.unusedVariables false

/-- The first field of a move that is not 0. -/
theorem zf_ways (x : Mi) : (x.zf = true ∧ ((x.d != 0) = true ∨ ((x.d != 0) = false ∧ ((x.a != 0) = true ∨ ((x.a != 0) = false ∧ ((x.b != 0) = true ∨ ((x.b != 0) = false ∧ (x.imm != 0) = true))))))) ∨
    (x.zf = false ∧ (x.d != 0) = false ∧ (x.a != 0) = false ∧ (x.b != 0) = false ∧ (x.imm != 0) = false) := by
  unfold Mi.zf
  cases (x.d != 0) <;> cases (x.a != 0) <;> cases (x.b != 0) <;> cases (x.imm != 0) <;> decide

end Go.Proofs.Ytncigbpeempnfaa

/-
  The finder: newFinder, find, and the program's Instr.
-/
namespace Go.Proofs.Ytncigbpeempnfaa
open Go.RowKit
set_option linter.unusedVariables false

/-- The blocks p and q hold these numbers. -/
structure Fin2 (w : World) (p q : Nat) (regs slots : Int) : Prop where
  p : w.cell? ⟨p, 0, none⟩ = some (.int .i64 regs)
  q : w.cell? ⟨q, 0, none⟩ = some (.int .i64 slots)

theorem Fin2.lt {w : World} {p q : Nat} {regs slots : Int} (h : Fin2 w p q regs slots) : p < w.heap.size ∧ q < w.heap.size :=
  ⟨World.block_lt_of_cell? w _ h.p, World.block_lt_of_cell? w _ h.q⟩

theorem Fin2.below {w w' : World} {p q B : Nat} {regs slots : Int} (h : Fin2 w p q regs slots) (hb : Below B w w') (hp : p < B) (hq : q < B) : Fin2 w' p q regs slots :=
  ⟨(hb.cell (p := ⟨p, 0, none⟩) hp).trans h.p, (hb.cell (p := ⟨q, 0, none⟩) hq).trans h.q⟩

theorem Fin2.next {w w' : World} {p q : Nat} {regs slots : Int} (h : Fin2 w p q regs slots) (hb : Below w.heap.size w w') : Fin2 w' p q regs slots := h.below hb h.lt.1 h.lt.2

section
variable {w : World} {x : Mi} {W W' : World}

theorem blw_drew (w : World) (n : Nat) : Below w.heap.size w (w.drewN n) := blw_drewN (Below.refl _ _) n

theorem Fin2.drewN {p q : Nat} {regs slots : Int} (h : Fin2 W p q regs slots) (n : Nat) : Fin2 (W.drewN n) p q regs slots := h.next (blw_drew W n)

theorem Fin2.drew {p q : Nat} {regs slots : Int} (h : Fin2 W p q regs slots) : Fin2 W.drew p q regs slots := h.drewN 1

end

end Go.Proofs.Ytncigbpeempnfaa

/-
  Code of both; checkSizes; checkCode.
-/
namespace Go.Proofs.Ytncigbpeempnfaa
open Go.RowKit
set_option linter.unusedVariables false

theorem msizes_ways (args regs slots : Int) (bs : List MBlk) (hm : bs.length ≤ 1000) (hn : mcodeN bs ≤ 1000000) :
    (args < 0 ∧ eMSz args regs slots bs = 10) ∨ (0 ≤ args ∧ slots < args ∧ eMSz args regs slots bs = 10) ∨ (0 ≤ args ∧ args ≤ slots ∧ ((regs < 0 ∧ eMSz args regs slots bs = 9) ∨ (0 ≤ regs ∧ ((1048576 < slots ∧ eMSz args regs slots bs = 6) ∨
      (slots ≤ 1048576 ∧ ((1048576 < regs ∧ eMSz args regs slots bs = 6) ∨ (regs ≤ 1048576 ∧ ((bs.length = 0 ∧ eMSz args regs slots bs = 14) ∨ (0 < bs.length ∧ eMSz args regs slots bs = 0))))))))) := by
  unfold eMSz
  by_cases h1 : args < 0
  · exact .inl ⟨h1, by rw [if_pos (.inl h1)]⟩
  · by_cases h2 : slots < args
    · exact .inr (.inl ⟨by omega, h2, by rw [if_pos (.inr h2)]⟩)
    · refine .inr (.inr ⟨by omega, by omega, ?_⟩)
      rw [if_neg (by omega)]
      by_cases h0 : regs < 0
      · exact .inl ⟨h0, by rw [if_pos h0]⟩
      · refine .inr ⟨by omega, ?_⟩
        rw [if_neg h0]
        by_cases h3 : 1048576 < slots
        · exact .inl ⟨h3, by rw [if_pos (.inl h3)]⟩
        · refine .inr ⟨by omega, ?_⟩
          by_cases h5 : 1048576 < regs
          · exact .inl ⟨h5, by rw [if_pos (.inr h5)]⟩
          · refine .inr ⟨by omega, ?_⟩
            rw [if_neg (by omega)]
            by_cases h4 : bs.length = 0
            · exact .inl ⟨h4, by rw [if_pos h4]⟩
            · exact .inr ⟨by omega, by rw [if_neg h4, if_neg (by omega)]⟩

end Go.Proofs.Ytncigbpeempnfaa

/-
  The reference's Instr of layer 8.
-/
namespace Go.Proofs.Ytncigbpeempnfaa
open Go.RowKit
set_option linter.unusedVariables false

theorem mopc_ways (op : Int) : (mopc op = false ∧ (op < 1 ∨ 18 < op ∨ op = 2)) ∨ (mopc op = true ∧ 1 ≤ op ∧ op ≤ 18 ∧ (op == 2) = false) := by
  unfold mopc uO
  by_cases h : 1 ≤ op ∧ op ≤ 18
  · rw [decide_eq_true h]
    by_cases h2 : op = 2
    · left; rw [h2]; exact ⟨rfl, by omega⟩
    · right
      have : (op == 2) = false := beq_eq_false_iff_ne.2 h2
      rw [this]
      exact ⟨rfl, h.1, h.2, rfl⟩
  · left
    rw [decide_eq_false h]
    exact ⟨rfl, by omega⟩

end Go.Proofs.Ytncigbpeempnfaa

/-
  Moves, of the program and of the reference.
-/
namespace Go.Proofs.Ytncigbpeempnfaa
open Go.RowKit
set_option linter.unusedVariables false

end Go.Proofs.Ytncigbpeempnfaa

/-
  The reference's Check of layer 8.
-/
namespace Go.Proofs.Ytncigbpeempnfaa
open Go.RowKit
set_option linter.unusedVariables false

section
variable {w W W' : World} {args regs slots : Int} {A A1 : Option Addr} {n c z c1 : Nat} {y : MBlk}

theorem MisAt.get {B b o m : Nat} {xs : List Mi} (h : MisAt W B (some ⟨b, o, none⟩) xs) (hm : m < xs.length) : xs[m].At W b (o + m * 7) := by
  obtain ⟨b', o', e, hb, hc⟩ := h.at_ hm
  injection e with e
  injection e with e1 e2
  subst e1
  subst e2
  exact hc

end

end Go.Proofs.Ytncigbpeempnfaa
