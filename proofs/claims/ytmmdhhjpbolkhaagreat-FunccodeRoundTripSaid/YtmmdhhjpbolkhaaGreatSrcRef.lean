/-
  The reference's in, Instr and Term.
-/
import Derived.Test.YtmmdhhjpbolkhaaGreatPk1
import Derived.LoopTactic
import Derived.Below
namespace Go.Proofs.YtmmdhhjpbolkhaaGreat
open Go.RowKit
set_option linter.unusedVariables false

def inr (v n : Int) : Bool := decide (0 ≤ v) && decide (v < n)

theorem fR_inr (n : Int) (u : Bool) (v : Int) : fR n (u, v) = (!u || inr v n) := by
  cases u
  · rfl
  · simp only [fR, inr, Bool.true_and, Bool.not_true, Bool.false_or, Bool.not_or]
    congr 1
    · by_cases h : v < 0
      · rw [decide_eq_true h, decide_eq_false (by omega)]; rfl
      · rw [decide_eq_false h, decide_eq_true (by omega)]; rfl
    · by_cases h : n ≤ v
      · rw [decide_eq_true h, decide_eq_false (by omega)]; rfl
      · rw [decide_eq_false h, decide_eq_true (by omega)]; rfl

set_option maxRecDepth 100000 in
theorem rin_any (v n : Int) (b : Bool) (w : World) (hb : inr v n = b) :
    Calls Tryz.prog 53 #[.int .i64 v, .int .i64 n] w fun e w' => e = .returned (.bool b) ∧ w = w' := by
  subst hb
  by_cases h0 : 0 ≤ v
  · by_cases h1 : v < n
    · rw [inr, decide_eq_true h0, decide_eq_true h1]
      go_enter Tryz.func53, Tryz.ntmps53
      go_wp2
      go_ret
      exact ⟨rfl, rfl⟩
    · rw [inr, decide_eq_true h0, decide_eq_false h1]
      go_enter Tryz.func53, Tryz.ntmps53
      go_wp2
      go_ret
      exact ⟨rfl, rfl⟩
  · rw [inr, decide_eq_false h0, Bool.false_and]
    go_enter Tryz.func53, Tryz.ntmps53
    go_wp2
    go_ret
    exact ⟨rfl, rfl⟩

/-- The error of an instruction, by the tests' outcomes. -/
def eIb (d a b i pd pa pb zd za zb zi : Bool) : Int :=
  if (!d || pd) && (!a || pa) && (!b || pb) then if (d || !zd) && (a || !za) && (b || !zb) && (i || !zi) then 0 else 12 else 9

theorem eI_b (x : In) (regs : Int) {d a b i pd pa pb zd za zb zi : Bool} (ho : srcO x.op = true) (hd : uD x.op = d) (ha : uA x.op = a) (hb : uB x.op = b) (hi : uI x.op = i)
    (h1 : inr x.d regs = pd) (h2 : inr x.a regs = pa) (h3 : inr x.b regs = pb) (z1 : (x.d != 0) = zd) (z2 : (x.a != 0) = za) (z3 : (x.b != 0) = zb) (z4 : (x.imm != 0) = zi) : eI x regs = eIb d a b i pd pa pb zd za zb zi := by
  subst hd ha hb hi h1 h2 h3 z1 z2 z3 z4
  rw [eI, ho, eIb]
  simp only [okR, okZ, In.regF, In.allF, List.all_cons, List.all_nil, fR_inr, fZ, Bool.and_true, Bool.not_and, Bool.not_not, Bool.and_assoc, if_true]

theorem shapes {op : Int} (h : srcO op = true) : (1 ≤ op ∧ op ≤ 17) ∧ ((uD op = true ∧ uA op = false ∧ uB op = false ∧ uI op = true ∧ (op != 1) = false) ∨ (uD op = true ∧ uA op = true ∧ uB op = false ∧ uI op = false ∧ (op != 1) = true) ∨
    (uD op = true ∧ uA op = true ∧ uB op = true ∧ uI op = false ∧ (op != 1) = true) ∨ (uD op = false ∧ uA op = true ∧ uB op = false ∧ uI op = false ∧ (op != 1) = true)) := by
  have h1 : 1 ≤ op ∧ op ≤ 17 := by
    simp only [srcO, uO, Bool.and_eq_true, decide_eq_true_eq, Bool.not_eq_true', beq_eq_false_iff_ne] at h
    omega
  refine ⟨h1, ?_⟩
  rcases (by omega : op = 1 ∨ (2 ≤ op ∧ op ≤ 4) ∨ (5 ≤ op ∧ op ≤ 16) ∨ op = 17) with h | h | h | h
  · subst h; exact .inl ⟨rfl, rfl, rfl, rfl, rfl⟩
  · exact .inr (.inl ⟨decide_eq_true (by omega), decide_eq_true (by omega), decide_eq_false (by omega), decide_eq_false (by omega), by simp; omega⟩)
  · exact .inr (.inr (.inl ⟨decide_eq_true (by omega), decide_eq_true (by omega), decide_eq_true (by omega), decide_eq_false (by omega), by simp; omega⟩))
  · subst h; exact .inr (.inr (.inr ⟨rfl, rfl, rfl, rfl, rfl⟩))

theorem srcO_no {op : Int} (h : srcO op = false) : op < 1 ∨ 17 < op := by
  by_cases h1 : 1 ≤ op ∧ op ≤ 17
  · have : srcO op = true := by
      simp only [srcO, uO, Bool.and_eq_true, decide_eq_true_eq, Bool.not_eq_true', beq_eq_false_iff_ne]
      omega
    rw [h] at this
    cases this
  · omega

set_option maxRecDepth 100000 in
set_option maxHeartbeats 2000000 in
theorem rinstr_C (x : In) (regs : Int) (w : World) (l1 : 1 ≤ x.op) (l2 : x.op ≤ 17) (s1 : (x.op != 1) = false) (pd pa pb zd za zb zi : Bool) (hpd : inr x.d regs = pd) (hpa : inr x.a regs = pa) (hpb : inr x.b regs = pb) (hzd : (x.d != 0) = zd) (hza : (x.a != 0) = za) (hzb : (x.b != 0) = zb) (hzi : (x.imm != 0) = zi)
    (sd : uD x.op = true) (sa : uA x.op = false) (sb : uB x.op = false) (he : eI x regs = eIb true false false true pd pa pb zd za zb zi) :
    Calls Tryz.prog 27 #[.agg #[.int .i64 x.op, .int .i64 x.d, .int .i64 x.a, .int .i64 x.b, .int .i64 x.imm], .int .i64 regs] w fun e w' => e = .returned (.int .i64 (eI x regs)) ∧ Below w.heap.size w w' := by
  have HB := Lib.hid ((Below.refl w.heap.size w).alloc (Nat.le_refl _) (.cells #[.int .i64 x.op, .int .i64 x.d, .int .i64 x.a, .int .i64 x.b, .int .i64 x.imm] 66))
  have HPd := Lib.hid hpd; have HPa := Lib.hid hpa; have HPb := Lib.hid hpb
  have Hd := Lib.hid sd; have Ha := Lib.hid sa; have Hb := Lib.hid sb
  have HE1 := Lib.hid he
  clear hpd hpa hpb sd sa sb he
  go_enter Tryz.func27, Tryz.ntmps27
  go_wp2_with fail
  refine (rusesD_any x.op true _ Hd.out).mono ?_
  rintro e w' ⟨rfl, rfl⟩
  cases pd
  · go_wp2_with fail
    refine (rin_any x.d regs false _ HPd.out).mono ?_
    rintro e w' ⟨rfl, rfl⟩
    go_wp2
    go_ret
    exact ⟨by rw [HE1.out]; rfl, HB.out⟩
  · go_wp2_with fail
    refine (rin_any x.d regs true _ HPd.out).mono ?_
    rintro e w' ⟨rfl, rfl⟩
    go_wp2_with fail
    refine (rusesA_any x.op false _ Ha.out).mono ?_
    rintro e w' ⟨rfl, rfl⟩
    go_wp2_with fail
    refine (rusesB_any x.op false _ Hb.out).mono ?_
    rintro e w' ⟨rfl, rfl⟩
    go_wp2_with fail
    refine (rusesD_any x.op true _ Hd.out).mono ?_
    rintro e w' ⟨rfl, rfl⟩
    go_wp2_with fail
    refine (rusesA_any x.op false _ Ha.out).mono ?_
    rintro e w' ⟨rfl, rfl⟩
    cases za
    · go_wp2_with fail
      refine (rusesB_any x.op false _ Hb.out).mono ?_
      rintro e w' ⟨rfl, rfl⟩
      cases zb
      · go_wp2
        go_ret
        exact ⟨by rw [HE1.out]; rfl, HB.out⟩
      · go_wp2
        go_ret
        exact ⟨by rw [HE1.out]; rfl, HB.out⟩
    · go_wp2
      go_ret
      exact ⟨by rw [HE1.out]; rfl, HB.out⟩

set_option maxRecDepth 100000 in
set_option maxHeartbeats 2000000 in
theorem rinstr_M (x : In) (regs : Int) (w : World) (l1 : 1 ≤ x.op) (l2 : x.op ≤ 17) (s1 : (x.op != 1) = true) (pd pa pb zd za zb zi : Bool) (hpd : inr x.d regs = pd) (hpa : inr x.a regs = pa) (hpb : inr x.b regs = pb) (hzd : (x.d != 0) = zd) (hza : (x.a != 0) = za) (hzb : (x.b != 0) = zb) (hzi : (x.imm != 0) = zi)
    (sd : uD x.op = true) (sa : uA x.op = true) (sb : uB x.op = false) (he : eI x regs = eIb true true false false pd pa pb zd za zb zi) :
    Calls Tryz.prog 27 #[.agg #[.int .i64 x.op, .int .i64 x.d, .int .i64 x.a, .int .i64 x.b, .int .i64 x.imm], .int .i64 regs] w fun e w' => e = .returned (.int .i64 (eI x regs)) ∧ Below w.heap.size w w' := by
  have HB := Lib.hid ((Below.refl w.heap.size w).alloc (Nat.le_refl _) (.cells #[.int .i64 x.op, .int .i64 x.d, .int .i64 x.a, .int .i64 x.b, .int .i64 x.imm] 66))
  have HPd := Lib.hid hpd; have HPa := Lib.hid hpa; have HPb := Lib.hid hpb
  have Hd := Lib.hid sd; have Ha := Lib.hid sa; have Hb := Lib.hid sb
  have HE1 := Lib.hid he
  clear hpd hpa hpb sd sa sb he
  go_enter Tryz.func27, Tryz.ntmps27
  go_wp2_with fail
  refine (rusesD_any x.op true _ Hd.out).mono ?_
  rintro e w' ⟨rfl, rfl⟩
  cases pd
  · go_wp2_with fail
    refine (rin_any x.d regs false _ HPd.out).mono ?_
    rintro e w' ⟨rfl, rfl⟩
    go_wp2
    go_ret
    exact ⟨by rw [HE1.out]; rfl, HB.out⟩
  · go_wp2_with fail
    refine (rin_any x.d regs true _ HPd.out).mono ?_
    rintro e w' ⟨rfl, rfl⟩
    go_wp2_with fail
    refine (rusesA_any x.op true _ Ha.out).mono ?_
    rintro e w' ⟨rfl, rfl⟩
    cases pa
    · go_wp2_with fail
      refine (rin_any x.a regs false _ HPa.out).mono ?_
      rintro e w' ⟨rfl, rfl⟩
      go_wp2
      go_ret
      exact ⟨by rw [HE1.out]; rfl, HB.out⟩
    · go_wp2_with fail
      refine (rin_any x.a regs true _ HPa.out).mono ?_
      rintro e w' ⟨rfl, rfl⟩
      go_wp2_with fail
      refine (rusesB_any x.op false _ Hb.out).mono ?_
      rintro e w' ⟨rfl, rfl⟩
      go_wp2_with fail
      refine (rusesD_any x.op true _ Hd.out).mono ?_
      rintro e w' ⟨rfl, rfl⟩
      go_wp2_with fail
      refine (rusesA_any x.op true _ Ha.out).mono ?_
      rintro e w' ⟨rfl, rfl⟩
      go_wp2_with fail
      refine (rusesB_any x.op false _ Hb.out).mono ?_
      rintro e w' ⟨rfl, rfl⟩
      cases zb
      · cases zi
        · go_wp2
          go_ret
          exact ⟨by rw [HE1.out]; rfl, HB.out⟩
        · go_wp2
          go_ret
          exact ⟨by rw [HE1.out]; rfl, HB.out⟩
      · go_wp2
        go_ret
        exact ⟨by rw [HE1.out]; rfl, HB.out⟩

set_option maxRecDepth 100000 in
set_option maxHeartbeats 2000000 in
theorem rinstr_B (x : In) (regs : Int) (w : World) (l1 : 1 ≤ x.op) (l2 : x.op ≤ 17) (s1 : (x.op != 1) = true) (pd pa pb zd za zb zi : Bool) (hpd : inr x.d regs = pd) (hpa : inr x.a regs = pa) (hpb : inr x.b regs = pb) (hzd : (x.d != 0) = zd) (hza : (x.a != 0) = za) (hzb : (x.b != 0) = zb) (hzi : (x.imm != 0) = zi)
    (sd : uD x.op = true) (sa : uA x.op = true) (sb : uB x.op = true) (he : eI x regs = eIb true true true false pd pa pb zd za zb zi) :
    Calls Tryz.prog 27 #[.agg #[.int .i64 x.op, .int .i64 x.d, .int .i64 x.a, .int .i64 x.b, .int .i64 x.imm], .int .i64 regs] w fun e w' => e = .returned (.int .i64 (eI x regs)) ∧ Below w.heap.size w w' := by
  have HB := Lib.hid ((Below.refl w.heap.size w).alloc (Nat.le_refl _) (.cells #[.int .i64 x.op, .int .i64 x.d, .int .i64 x.a, .int .i64 x.b, .int .i64 x.imm] 66))
  have HPd := Lib.hid hpd; have HPa := Lib.hid hpa; have HPb := Lib.hid hpb
  have Hd := Lib.hid sd; have Ha := Lib.hid sa; have Hb := Lib.hid sb
  have HE1 := Lib.hid he
  clear hpd hpa hpb sd sa sb he
  go_enter Tryz.func27, Tryz.ntmps27
  go_wp2_with fail
  refine (rusesD_any x.op true _ Hd.out).mono ?_
  rintro e w' ⟨rfl, rfl⟩
  cases pd
  · go_wp2_with fail
    refine (rin_any x.d regs false _ HPd.out).mono ?_
    rintro e w' ⟨rfl, rfl⟩
    go_wp2
    go_ret
    exact ⟨by rw [HE1.out]; rfl, HB.out⟩
  · go_wp2_with fail
    refine (rin_any x.d regs true _ HPd.out).mono ?_
    rintro e w' ⟨rfl, rfl⟩
    go_wp2_with fail
    refine (rusesA_any x.op true _ Ha.out).mono ?_
    rintro e w' ⟨rfl, rfl⟩
    cases pa
    · go_wp2_with fail
      refine (rin_any x.a regs false _ HPa.out).mono ?_
      rintro e w' ⟨rfl, rfl⟩
      go_wp2
      go_ret
      exact ⟨by rw [HE1.out]; rfl, HB.out⟩
    · go_wp2_with fail
      refine (rin_any x.a regs true _ HPa.out).mono ?_
      rintro e w' ⟨rfl, rfl⟩
      go_wp2_with fail
      refine (rusesB_any x.op true _ Hb.out).mono ?_
      rintro e w' ⟨rfl, rfl⟩
      cases pb
      · go_wp2_with fail
        refine (rin_any x.b regs false _ HPb.out).mono ?_
        rintro e w' ⟨rfl, rfl⟩
        go_wp2
        go_ret
        exact ⟨by rw [HE1.out]; rfl, HB.out⟩
      · go_wp2_with fail
        refine (rin_any x.b regs true _ HPb.out).mono ?_
        rintro e w' ⟨rfl, rfl⟩
        go_wp2_with fail
        refine (rusesD_any x.op true _ Hd.out).mono ?_
        rintro e w' ⟨rfl, rfl⟩
        go_wp2_with fail
        refine (rusesA_any x.op true _ Ha.out).mono ?_
        rintro e w' ⟨rfl, rfl⟩
        go_wp2_with fail
        refine (rusesB_any x.op true _ Hb.out).mono ?_
        rintro e w' ⟨rfl, rfl⟩
        cases zi
        · go_wp2
          go_ret
          exact ⟨by rw [HE1.out]; rfl, HB.out⟩
        · go_wp2
          go_ret
          exact ⟨by rw [HE1.out]; rfl, HB.out⟩

set_option maxRecDepth 100000 in
set_option maxHeartbeats 2000000 in
theorem rinstr_E (x : In) (regs : Int) (w : World) (l1 : 1 ≤ x.op) (l2 : x.op ≤ 17) (s1 : (x.op != 1) = true) (pd pa pb zd za zb zi : Bool) (hpd : inr x.d regs = pd) (hpa : inr x.a regs = pa) (hpb : inr x.b regs = pb) (hzd : (x.d != 0) = zd) (hza : (x.a != 0) = za) (hzb : (x.b != 0) = zb) (hzi : (x.imm != 0) = zi)
    (sd : uD x.op = false) (sa : uA x.op = true) (sb : uB x.op = false) (he : eI x regs = eIb false true false false pd pa pb zd za zb zi) :
    Calls Tryz.prog 27 #[.agg #[.int .i64 x.op, .int .i64 x.d, .int .i64 x.a, .int .i64 x.b, .int .i64 x.imm], .int .i64 regs] w fun e w' => e = .returned (.int .i64 (eI x regs)) ∧ Below w.heap.size w w' := by
  have HB := Lib.hid ((Below.refl w.heap.size w).alloc (Nat.le_refl _) (.cells #[.int .i64 x.op, .int .i64 x.d, .int .i64 x.a, .int .i64 x.b, .int .i64 x.imm] 66))
  have HPd := Lib.hid hpd; have HPa := Lib.hid hpa; have HPb := Lib.hid hpb
  have Hd := Lib.hid sd; have Ha := Lib.hid sa; have Hb := Lib.hid sb
  have HE1 := Lib.hid he
  clear hpd hpa hpb sd sa sb he
  go_enter Tryz.func27, Tryz.ntmps27
  go_wp2_with fail
  refine (rusesD_any x.op false _ Hd.out).mono ?_
  rintro e w' ⟨rfl, rfl⟩
  go_wp2_with fail
  refine (rusesA_any x.op true _ Ha.out).mono ?_
  rintro e w' ⟨rfl, rfl⟩
  cases pa
  · go_wp2_with fail
    refine (rin_any x.a regs false _ HPa.out).mono ?_
    rintro e w' ⟨rfl, rfl⟩
    go_wp2
    go_ret
    exact ⟨by rw [HE1.out]; rfl, HB.out⟩
  · go_wp2_with fail
    refine (rin_any x.a regs true _ HPa.out).mono ?_
    rintro e w' ⟨rfl, rfl⟩
    go_wp2_with fail
    refine (rusesB_any x.op false _ Hb.out).mono ?_
    rintro e w' ⟨rfl, rfl⟩
    go_wp2_with fail
    refine (rusesD_any x.op false _ Hd.out).mono ?_
    rintro e w' ⟨rfl, rfl⟩
    cases zd
    · go_wp2_with fail
      refine (rusesA_any x.op true _ Ha.out).mono ?_
      rintro e w' ⟨rfl, rfl⟩
      go_wp2_with fail
      refine (rusesB_any x.op false _ Hb.out).mono ?_
      rintro e w' ⟨rfl, rfl⟩
      cases zb
      · cases zi
        · go_wp2
          go_ret
          exact ⟨by rw [HE1.out]; rfl, HB.out⟩
        · go_wp2
          go_ret
          exact ⟨by rw [HE1.out]; rfl, HB.out⟩
      · go_wp2
        go_ret
        exact ⟨by rw [HE1.out]; rfl, HB.out⟩
    · go_wp2
      go_ret
      exact ⟨by rw [HE1.out]; rfl, HB.out⟩

set_option maxRecDepth 100000 in
set_option maxHeartbeats 2000000 in
theorem rinstr_any (x : In) (regs : Int) (w : World) :
    Calls Tryz.prog 27 #[.agg #[.int .i64 x.op, .int .i64 x.d, .int .i64 x.a, .int .i64 x.b, .int .i64 x.imm], .int .i64 regs] w fun e w' => e = .returned (.int .i64 (eI x regs)) ∧ Below w.heap.size w w' := by
  cases hO : srcO x.op
  · have HB := Lib.hid ((Below.refl w.heap.size w).alloc (Nat.le_refl _) (.cells #[.int .i64 x.op, .int .i64 x.d, .int .i64 x.a, .int .i64 x.b, .int .i64 x.imm] 66))
    have HE : Hid (eI x regs = 8) := by rw [Hid, eI, hO]; rfl
    rcases srcO_no hO with h | h
    · clear hO
      go_enter Tryz.func27, Tryz.ntmps27
      go_wp2
      go_ret
      exact ⟨by rw [HE.out]; rfl, HB.out⟩
    · clear hO
      have h1 : 1 ≤ x.op := by omega
      go_enter Tryz.func27, Tryz.ntmps27
      go_wp2
      go_ret
      exact ⟨by rw [HE.out]; rfl, HB.out⟩
  · obtain ⟨⟨l1, l2⟩, hsh⟩ := shapes hO
    rcases hsh with ⟨sd, sa, sb, si, s1⟩ | ⟨sd, sa, sb, si, s1⟩ | ⟨sd, sa, sb, si, s1⟩ | ⟨sd, sa, sb, si, s1⟩
    · exact rinstr_C x regs w l1 l2 s1 _ _ _ _ _ _ _ rfl rfl rfl rfl rfl rfl rfl sd sa sb (eI_b x regs hO sd sa sb si rfl rfl rfl rfl rfl rfl rfl)
    · exact rinstr_M x regs w l1 l2 s1 _ _ _ _ _ _ _ rfl rfl rfl rfl rfl rfl rfl sd sa sb (eI_b x regs hO sd sa sb si rfl rfl rfl rfl rfl rfl rfl)
    · exact rinstr_B x regs w l1 l2 s1 _ _ _ _ _ _ _ rfl rfl rfl rfl rfl rfl rfl sd sa sb (eI_b x regs hO sd sa sb si rfl rfl rfl rfl rfl rfl rfl)
    · exact rinstr_E x regs w l1 l2 s1 _ _ _ _ _ _ _ rfl rfl rfl rfl rfl rfl rfl sd sa sb (eI_b x regs hO sd sa sb si rfl rfl rfl rfl rfl rfl rfl)

end Go.Proofs.YtmmdhhjpbolkhaaGreat
