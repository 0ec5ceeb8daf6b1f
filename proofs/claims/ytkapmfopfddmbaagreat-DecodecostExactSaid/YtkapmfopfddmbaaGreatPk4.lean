import Derived.Test.YtkapmfopfddmbaaGreatPk1
import Derived.Deep.WholeRow
import Derived.BigRegion
import Derived.Deep.Cut
import Derived.Deep.CutRange

/-
  The reference of layer 17: Number; results that are a number and a struct.
-/
namespace Go.Proofs.YtkapmfopfddmbaaGreat
open Go.RowKit
set_option linter.unusedVariables false
set_option linter.unusedSimpArgs false

theorem results_tmp_row {P : Program} {fn : Func} {t p : Tmp} {ty : TypeId} (h : fn.results = #[.tmp t, .cell p ty]) (tmps : Array Value) (w : World) (g : Nat) (T : TypeId) (cs : Array Value) (fr : Nat × Nat) (d : TypeDesc) {v : Value} (hv : tmps.getD t undef = v)
    (hp : tmps.getD p undef = .pointer (some ⟨g, 0, none⟩)) (hg : w.heap[g]? = some (.cells cs T fr))
    (hu : P.underlying ty = some d) (hd : (match d with | .struct _ | .array _ _ => true | _ => false) = true) (hi : (P.info? ty).map (·.size) = some cs.size) :
    (results fn tmps).run P w = .ok (.tuple #[v, .agg cs]) w := by
  subst hv
  have hp' : tmps[p]?.getD undef = .pointer (some ⟨g, 0, none⟩) := by simpa using hp
  simp [results, h, hp', asAddr, run_loadVar_row w g T ty cs fr d hg hu hd hi, Sem.run_bind, Result.andThen]

theorem results_row_row {P : Program} {fn : Func} {q p : Tmp} {ty ty' : TypeId} (h : fn.results = #[.cell q ty', .cell p ty]) (tmps : Array Value) (w : World) (g g' : Nat) (T T' : TypeId) (cs cs' : Array Value) (fr fr' : Nat × Nat) (d d' : TypeDesc)
    (hp : tmps.getD p undef = .pointer (some ⟨g, 0, none⟩)) (hg : w.heap[g]? = some (.cells cs T fr))
    (hu : P.underlying ty = some d) (hd : (match d with | .struct _ | .array _ _ => true | _ => false) = true) (hi : (P.info? ty).map (·.size) = some cs.size)
    (hp2 : tmps.getD q undef = .pointer (some ⟨g', 0, none⟩)) (hg2 : w.heap[g']? = some (.cells cs' T' fr'))
    (hu2 : P.underlying ty' = some d') (hd2 : (match d' with | .struct _ | .array _ _ => true | _ => false) = true) (hi2 : (P.info? ty').map (·.size) = some cs'.size) :
    (results fn tmps).run P w = .ok (.tuple #[.agg cs', .agg cs]) w := by
  have hp' : tmps[p]?.getD undef = .pointer (some ⟨g, 0, none⟩) := by simpa using hp
  have hp2' : tmps[q]?.getD undef = .pointer (some ⟨g', 0, none⟩) := by simpa using hp2
  simp [results, h, hp', hp2', asAddr, run_loadVar_row w g T ty cs fr d hg hu hd hi, run_loadVar_row w g' T' ty' cs' fr' d' hg2 hu2 hd2 hi2, Sem.run_bind, Result.andThen]

/-- An input as a value: what memory shows of it. -/
structure IpV (w : World) (B : Nat) (A : Option Addr) (c : Nat) (s : Ip) : Prop where
  see : Sees w B A (bts s.rest)
  le : s.rest.length ≤ c
  cm : c ≤ maxLen
  byt : Byt s.rest
  sm : s.rest.length ≤ 100000

section
variable {w w' : World} {B : Nat} {A : Option Addr} {c : Nat} {s : Ip}

theorem IpV.below (h : IpV w B A c s) (hb : Below B w w') : IpV w' B A c s := ⟨h.see.below hb, h.le, h.cm, h.byt, h.sm⟩

theorem IpV.nil (w : World) (B : Nat) (e : Int) : IpV w B none 0 ⟨[], e⟩ := ⟨fun h => absurd rfl h, Nat.le_refl _, Nat.zero_le _, fun x hx => by simp at hx, Nat.zero_le _⟩

theorem IpV.drop (h : IpV w B A c s) {n : Nat} (hn : n ≤ s.rest.length) (e : Int) : ∃ A', (∀ (b o : Nat), A = some ⟨b, o, none⟩ → A' = (if c = n then A else some ⟨b, o + n, none⟩)) ∧ (A = none → A' = none) ∧ IpV w B A' (c - n) ⟨s.rest.drop n, e⟩ := by
  have hl : (s.rest.drop n).length = s.rest.length - n := List.length_drop ..
  have h1 := h.le
  have h2 := h.cm
  have h3 := h.sm
  by_cases he : s.rest.drop n = []
  · rcases A with _ | ⟨b, o, sp⟩
    · exact ⟨none, fun b o e => (by cases e), fun _ => rfl, by rw [he]; exact fun h => absurd rfl h, by show _ ≤ _; rw [hl]; omega, by omega, fun x hx => h.byt x (List.mem_of_mem_drop hx), by show _ ≤ _; rw [hl]; omega⟩
    · refine ⟨if c = n then some ⟨b, o, sp⟩ else some ⟨b, o + n, none⟩, fun b' o' e => ?_, fun e => (by cases e), by rw [he]; exact fun h => absurd rfl h, by show _ ≤ _; rw [hl]; omega, by omega, fun x hx => h.byt x (List.mem_of_mem_drop hx), by show _ ≤ _; rw [hl]; omega⟩
      injection e with e
      injection e with e1 e2 e3
      subst e1 e2 e3
      rfl
  · have hne : n < s.rest.length := by
      rcases Nat.lt_or_ge n s.rest.length with h9 | h9
      · exact h9
      · exact absurd (List.drop_eq_nil_of_le h9) he
    obtain ⟨b, o, rfl, hb, hc⟩ := h.see (by intro e; have := congrArg List.length e; simp [bts] at this; rw [this] at hne; simp at hne)
    refine ⟨if c = n then some ⟨b, o, none⟩ else some ⟨b, o + n, none⟩, fun b' o' e => ?_, fun e => (by cases e), ?_, by show _ ≤ _; rw [hl]; omega, by omega, fun x hx => h.byt x (List.mem_of_mem_drop hx), by show _ ≤ _; rw [hl]; omega⟩
    · injection e with e
      injection e with e1 e2
      subst e1 e2
      rfl
    · rw [if_neg (by omega)]
      intro _
      refine ⟨b, o + n, rfl, hb, fun i u hu => ?_⟩
      rw [Nat.add_assoc]
      refine hc (n + i) u ?_
      simp only [bts, List.getElem?_map] at hu ⊢
      rw [List.getElem?_drop] at hu
      exact hu

end

/-- The facts on Get's answer. -/
theorem get_facts {l : List Nat} (hb : Byt l) : ((getS l).2.2 = 0 → 1 ≤ (getS l).2.1 ∧ (getS l).2.1 ≤ l.length) ∧ (getS l).1 ≤ 18446744073709551615 := by
  refine ⟨fun he => ?_, ?_⟩
  · obtain ⟨k1, k2, _⟩ := getS_canon (x := (getS l).1) (n := (getS l).2.1) hb (by rw [← he])
    exact ⟨k1, k2⟩
  · rcases getS_kinds l with ⟨x, n, e⟩ | e | e
    · have := getS_lt hb e; rw [e]; dsimp only; omega
    · rw [e]; decide
    · rw [e]; decide

/-- What a reading function of the reference returns. -/
def RQ (w : World) (B : Nat) (x : Int) (t : Ip) (e : Ending) (w' : World) : Prop :=
  ∃ A' c', e = .returned (.tuple #[.int .i64 x, .agg #[.slice A' t.rest.length c', .int .i64 t.err]]) ∧ IpV w' B A' c' t ∧ Below w.heap.size w w'

end Go.Proofs.YtkapmfopfddmbaaGreat

/-
  The reference of layer 17: the first byte.
-/
namespace Go.Proofs.YtkapmfopfddmbaaGreat
open Go.RowKit
set_option linter.unusedVariables false
set_option linter.unusedSimpArgs false

end Go.Proofs.YtkapmfopfddmbaaGreat

/-
  The reference of layer 17: a location.
-/
namespace Go.Proofs.YtkapmfopfddmbaaGreat
open Go.RowKit
set_option linter.unusedVariables false
set_option linter.unusedSimpArgs false

end Go.Proofs.YtkapmfopfddmbaaGreat

/-
  What layer 17 reads is what it writes, as facts on data.
-/
namespace Go.Proofs.YtkapmfopfddmbaaGreat
open Go.RowKit
set_option linter.unusedVariables false

/-- A valid instruction's fields. -/
structure MOk (regs n : Int) (m : Mi) : Prop where
  r1 : fR regs (uD m.op, m.d) = true
  r2 : fR regs (uA m.op, m.a) = true
  r3 : fR regs (uB m.op, m.b) = true
  z1 : fZ (uD m.op, m.d) = true
  z2 : fZ (uA m.op, m.a) = true
  z3 : fZ (uB m.op, m.b) = true
  z4 : fZ (m.op == 1, m.imm) = true
  l1 : ((m.op == 18) = true → locS m.dst regs n = true) ∧ ((m.op == 18) = false → m.dst = 0)
  l2 : ((m.op == 18) = true → locS m.src regs n = true) ∧ ((m.op == 18) = false → m.src = 0)
  l3 : (m.op == 18) = true → ¬ (m.dst % 2 = 1 ∧ m.src % 2 = 1)

theorem fZ_iff {b : Bool} {v : Int} : fZ (b, v) = true ↔ (b = false → v = 0) := by cases b <;> simp [fZ]

theorem fR_iff {b : Bool} {n v : Int} : fR n (b, v) = true ↔ (b = true → 0 ≤ v ∧ v < n) := by cases b <;> simp [fR]

theorem eM_iff {regs n : Int} {m : Mi} : eM m regs n = 0 ↔ (1 ≤ m.op ∧ m.op ≤ 18 ∧ m.op ≠ 2) ∧ MOk regs n m := by
  have ho : mopc m.op = true ↔ 1 ≤ m.op ∧ m.op ≤ 18 ∧ m.op ≠ 2 := by
    simp [mopc, uO]
    omega
  unfold eM
  by_cases h0 : mopc m.op = true
  · rw [if_pos h0]
    have h1 := ho.1 h0
    by_cases h2 : m.mv = true
    · rw [if_pos h2]
      have h3 : m.op = 18 := by simpa [Mi.mv] using h2
      have e1 : uD m.op = false := by simp [uD, h3]
      have e2 : uA m.op = false := by simp [uA, h3]
      have e3 : uB m.op = false := by simp [uB, h3]
      have e4 : (m.op == 1) = false := by simp [h3]
      have e5 : (m.op == 18) = true := by simp [h3]
      unfold eMv
      constructor
      · intro h
        have hb : m.bad regs n = false := by
          rcases hh : m.bad regs n with _ | _
          · rfl
          · rw [hh] at h; simp at h
        have hz : m.zf = false := by
          rcases hh : m.zf with _ | _
          · rfl
          · rw [hb, hh] at h; simp at h
        simp only [Mi.bad, Bool.or_eq_false_iff, Bool.not_eq_false', Bool.and_eq_false_iff, decide_eq_false_iff_not] at hb
        simp only [Mi.zf, Bool.or_eq_false_iff, bne_eq_false_iff_eq] at hz
        obtain ⟨⟨b1, b2⟩, b3⟩ := hb
        obtain ⟨⟨⟨z1, z2⟩, z3⟩, z4⟩ := hz
        exact ⟨h1, fR_iff.2 (by rw [e1]; simp), fR_iff.2 (by rw [e2]; simp), fR_iff.2 (by rw [e3]; simp), fZ_iff.2 fun _ => z1, fZ_iff.2 fun _ => z2, fZ_iff.2 fun _ => z3, fZ_iff.2 fun _ => z4,
          ⟨fun _ => b1, by rw [e5]; simp⟩, ⟨fun _ => b2, by rw [e5]; simp⟩, fun _ hh => b3.elim (fun g => g hh.1) (fun g => g hh.2)⟩
      · rintro ⟨_, hm⟩
        have z1 := fZ_iff.1 hm.z1 e1
        have z2 := fZ_iff.1 hm.z2 e2
        have z3 := fZ_iff.1 hm.z3 e3
        have z4 := fZ_iff.1 hm.z4 e4
        have hb : m.bad regs n = false := by
          simp only [Mi.bad, hm.l1.1 e5, hm.l2.1 e5, Bool.not_true, Bool.false_or, Bool.and_eq_false_iff, decide_eq_false_iff_not]
          have := hm.l3 e5
          omega
        have hz : m.zf = false := by simp [Mi.zf, z1, z2, z3, z4]
        rw [hb, hz]
        rfl
    · rw [if_neg h2]
      have h3 : m.op ≠ 18 := by simpa [Mi.mv] using h2
      have e5 : (m.op == 18) = false := by simp [h3]
      have hs : srcO m.ins.op = true := by
        show (uO m.op && !(m.op == 18)) = true
        simp [uO, h3]
        omega
      have hi : uI m.op = (m.op == 1) := by
        unfold uI
        by_cases h9 : m.op = 1 <;> simp [h9]
      unfold eOt eI
      rw [if_pos hs]
      have hR : okR regs m.ins.regF = true ↔ fR regs (uD m.op, m.d) = true ∧ fR regs (uA m.op, m.a) = true ∧ fR regs (uB m.op, m.b) = true := by
        show ([(uD m.op, m.d), (uA m.op, m.a), (uB m.op, m.b)].all (fR regs)) = true ↔ _
        simp [List.all]
      have hZ : okZ m.ins.allF = true ↔ fZ (uD m.op, m.d) = true ∧ fZ (uA m.op, m.a) = true ∧ fZ (uB m.op, m.b) = true ∧ fZ (m.op == 1, m.imm) = true := by
        show ([(uD m.op, m.d), (uA m.op, m.a), (uB m.op, m.b), (uI m.op, m.imm)].all fZ) = true ↔ _
        rw [hi]
        simp [List.all]
      constructor
      · intro h
        by_cases hr : okR regs m.ins.regF = true
        · rw [if_pos hr] at h
          by_cases hz : okZ m.ins.allF = true
          · rw [if_pos hz] at h
            have hd : (m.dst != 0 || m.src != 0) = false := by
              rcases hh : (m.dst != 0 || m.src != 0) with _ | _
              · rfl
              · rw [hh] at h; simp at h
            simp only [Bool.or_eq_false_iff, bne_eq_false_iff_eq] at hd
            obtain ⟨a1, a2, a3⟩ := hR.1 hr
            obtain ⟨b1, b2, b3, b4⟩ := hZ.1 hz
            exact ⟨h1, a1, a2, a3, b1, b2, b3, b4, ⟨by rw [e5]; simp, fun _ => hd.1⟩, ⟨by rw [e5]; simp, fun _ => hd.2⟩, by rw [e5]; simp⟩
          · rw [if_neg hz] at h; simp at h
        · rw [if_neg hr] at h; simp at h
      · rintro ⟨_, hm⟩
        rw [if_pos (hR.2 ⟨hm.r1, hm.r2, hm.r3⟩), if_pos (hZ.2 ⟨hm.z1, hm.z2, hm.z3, hm.z4⟩), hm.l1.2 e5, hm.l2.2 e5]
        rfl
  · rw [if_neg h0]
    exact ⟨fun h => by simp at h, fun h => absurd (ho.2 h.1) h0⟩

/-- A source instruction. -/
theorem eI_iff {regs n : Int} {m : Mi} (hd : m.dst = 0) (hs : m.src = 0) : eI m.ins regs = 0 ↔ (1 ≤ m.op ∧ m.op ≤ 17) ∧ MOk regs n m := by
  have hi : uI m.op = (m.op == 1) := by
    unfold uI
    by_cases h9 : m.op = 1 <;> simp [h9]
  have hR : okR regs m.ins.regF = true ↔ fR regs (uD m.op, m.d) = true ∧ fR regs (uA m.op, m.a) = true ∧ fR regs (uB m.op, m.b) = true := by
    show ([(uD m.op, m.d), (uA m.op, m.a), (uB m.op, m.b)].all (fR regs)) = true ↔ _
    simp [List.all]
  have hZ : okZ m.ins.allF = true ↔ fZ (uD m.op, m.d) = true ∧ fZ (uA m.op, m.a) = true ∧ fZ (uB m.op, m.b) = true ∧ fZ (m.op == 1, m.imm) = true := by
    show ([(uD m.op, m.d), (uA m.op, m.a), (uB m.op, m.b), (uI m.op, m.imm)].all fZ) = true ↔ _
    rw [hi]
    simp [List.all]
  have hO : srcO m.ins.op = true ↔ 1 ≤ m.op ∧ m.op ≤ 17 := by
    show (uO m.op && !(m.op == 18)) = true ↔ _
    simp [uO]
    omega
  unfold eI
  constructor
  · intro h
    by_cases ho : srcO m.ins.op = true
    · rw [if_pos ho] at h
      by_cases hr : okR regs m.ins.regF = true
      · rw [if_pos hr] at h
        by_cases hz : okZ m.ins.allF = true
        · obtain ⟨a1, a2, a3⟩ := hR.1 hr
          obtain ⟨b1, b2, b3, b4⟩ := hZ.1 hz
          have e5 : (m.op == 18) = false := by
            have := hO.1 ho
            simp
            omega
          exact ⟨hO.1 ho, a1, a2, a3, b1, b2, b3, b4, ⟨by rw [e5]; simp, fun _ => hd⟩, ⟨by rw [e5]; simp, fun _ => hs⟩, by rw [e5]; simp⟩
        · rw [if_neg hz] at h; simp at h
      · rw [if_neg hr] at h; simp at h
    · rw [if_neg ho] at h; simp at h
  · rintro ⟨ho, hm⟩
    rw [if_pos (hO.2 ho), if_pos (hR.2 ⟨hm.r1, hm.r2, hm.r3⟩), if_pos (hZ.2 ⟨hm.z1, hm.z2, hm.z3, hm.z4⟩)]

theorem ReadOk.mok {op regs n : Int} {s t : Ip} {m : Mi} (h : ReadOk op regs n s m t) : MOk regs n m := by
  have e := h.op_
  subst e
  exact ⟨h.r1, h.r2, h.r3, h.z1, h.z2, h.z3, h.z4, h.l1, h.l2, h.l3⟩

/-- What is decoded is valid, and is encoded as it was. -/
theorem machE_ok {regs n : Int} {l : List Nat} (hb : Byt l) (h : (machE regs n ⟨l, 0⟩).2.err = 0) :
    eM (machE regs n ⟨l, 0⟩).1 regs n = 0 ∧ InI (machE regs n ⟨l, 0⟩).1.imm ∧ l = encM (machE regs n ⟨l, 0⟩).1 ++ (machE regs n ⟨l, 0⟩).2.rest := by
  unfold machE at *
  by_cases h0 : (firstE 18 2 8 ⟨l, 0⟩).2.err ≠ 0
  · rw [if_pos h0] at h; exact absurd h h0
  · rw [if_neg h0] at *
    obtain ⟨_, p1, p2, p3, p4, p5⟩ := firstE_ok (most := 18) (nt := 2) (why := 8) (s := ⟨l, 0⟩) hb (by decide) (by omega)
    have hb2 : Byt (firstE 18 2 8 ⟨l, 0⟩).2.rest := Byt.tail (l := [(firstE 18 2 8 ⟨l, 0⟩).1.toNat]) (by rw [List.singleton_append, ← p5]; exact hb)
    have hr := readE_ok hb2 h
    refine ⟨eM_iff.2 ⟨by rw [hr.op_]; exact ⟨p1, p2, p3⟩, hr.mok⟩, hr.i4, ?_⟩
    have p5 : l = (firstE 18 2 8 ⟨l, 0⟩).1.toNat :: (firstE 18 2 8 ⟨l, 0⟩).2.rest := p5
    have hby := hr.bytes
    rw [hby] at p5
    refine p5.trans ?_
    unfold encM
    rw [hr.op_, List.cons_append]

theorem instrE_ok {regs : Int} {l : List Nat} (hb : Byt l) (h : (instrE regs ⟨l, 0⟩).2.err = 0) :
    eI (instrE regs ⟨l, 0⟩).1.ins regs = 0 ∧ InI (instrE regs ⟨l, 0⟩).1.imm ∧ l = encM (instrE regs ⟨l, 0⟩).1 ++ (instrE regs ⟨l, 0⟩).2.rest ∧ (instrE regs ⟨l, 0⟩).1.dst = 0 ∧ (instrE regs ⟨l, 0⟩).1.src = 0 := by
  unfold instrE at *
  by_cases h0 : (firstE 17 0 8 ⟨l, 0⟩).2.err ≠ 0
  · rw [if_pos h0] at h; exact absurd h h0
  · rw [if_neg h0] at *
    obtain ⟨_, p1, p2, p3, p4, p5⟩ := firstE_ok (most := 17) (nt := 0) (why := 8) (s := ⟨l, 0⟩) hb (by decide) (by omega)
    have hb2 : Byt (firstE 17 0 8 ⟨l, 0⟩).2.rest := Byt.tail (l := [(firstE 17 0 8 ⟨l, 0⟩).1.toNat]) (by rw [List.singleton_append, ← p5]; exact hb)
    have hr := readE_ok hb2 h
    have e5 : ((firstE 17 0 8 ⟨l, 0⟩).1 == 18) = false := by simp; omega
    have hd := hr.l1.2 e5
    have hs := hr.l2.2 e5
    refine ⟨(eI_iff hd hs).2 ⟨by rw [hr.op_]; exact ⟨p1, p2⟩, hr.mok⟩, hr.i4, ?_, hd, hs⟩
    have p5 : l = (firstE 17 0 8 ⟨l, 0⟩).1.toNat :: (firstE 17 0 8 ⟨l, 0⟩).2.rest := p5
    have hby := hr.bytes
    rw [hby] at p5
    refine p5.trans ?_
    unfold encM
    rw [hr.op_, List.cons_append]

/-- A step that reads the piece p as v, and has too few bytes at each proper prefix of it. -/
structure Cuts (f : Ip → Int × Ip) (p : List Nat) (v : Int) : Prop where
  get : ∀ q, f ⟨p ++ q, 0⟩ = (v, ⟨q, 0⟩)
  cut : ∀ j, j < p.length → f ⟨p.take j, 0⟩ = (0, ⟨[], 1⟩)
  err : ∀ s : Ip, s.err ≠ 0 → f s = (0, s)

theorem Cuts.at_ {f : Ip → Int × Ip} {p : List Nat} {v : Int} (h : Cuts f p v) (q : List Nat) (j : Nat) :
    (j < p.length ∧ f ⟨(p ++ q).take j, 0⟩ = (0, ⟨[], 1⟩)) ∨ (p.length ≤ j ∧ f ⟨(p ++ q).take j, 0⟩ = (v, ⟨q.take (j - p.length), 0⟩)) := by
  by_cases hj : j < p.length
  · refine .inl ⟨hj, ?_⟩
    rw [List.take_append_of_le_length (by omega)]
    exact h.cut j hj
  · refine .inr ⟨by omega, ?_⟩
    rw [List.take_append, List.take_of_length_le (by omega)]
    exact h.get _

theorem numE_cuts {bd why v : Int} (h0 : 0 ≤ v) (h1 : v < bd) (h2 : v ≤ 18446744073709551615) : Cuts (numE bd why) (putS v.toNat) v := by
  refine ⟨fun q => ?_, fun j hj => ?_, fun s hs => numE_err hs⟩
  · have e := getS_putS v.toNat q (by omega)
    unfold numE
    rw [if_neg (by simp)]
    dsimp only
    rw [e]
    rw [if_neg (by simp), if_neg (by dsimp only; omega)]
    dsimp only
    rw [List.drop_left, Int.toNat_of_nonneg h0]
  · have e := getS_prefix v.toNat j hj
    unfold numE
    rw [if_neg (by simp)]
    dsimp only
    rw [e]
    rw [if_pos (by simp)]
    rfl

theorem optE_cuts {b : Bool} {bd why v : Int} (h : fR bd (b, v) = true) (hz : fZ (b, v) = true) (h2 : bd ≤ 18446744073709551615) : Cuts (optE b bd why) (encO b v) v := by
  cases b
  · have e := fZ_iff.1 hz rfl
    subst e
    exact ⟨fun q => rfl, fun j hj => by simp [encO] at hj, fun s hs => optE_err hs⟩
  · obtain ⟨k1, k2⟩ := fR_iff.1 h rfl
    have hc := numE_cuts (why := why) k1 k2 (by omega)
    exact ⟨hc.get, hc.cut, hc.err⟩

theorem immE_cuts {b : Bool} {v : Int} (hz : fZ (b, v) = true) (hv : InI v) : Cuts (immE b) (encO b (zz v)) v := by
  cases b
  · have e := fZ_iff.1 hz rfl
    subst e
    exact ⟨fun q => by simp [immE, encO], fun j hj => by simp [encO] at hj, fun s hs => immE_err hs⟩
  · have hu := zz_in hv
    refine ⟨fun q => ?_, fun j hj => ?_, fun s hs => immE_err hs⟩
    · have e := getS_putS (zz v).toNat q (by unfold InU at hu; omega)
      unfold immE encO
      rw [if_pos ⟨rfl, rfl⟩, if_pos rfl]
      dsimp only
      rw [e]
      rw [if_neg (by simp)]
      dsimp only
      rw [List.drop_left, Int.toNat_of_nonneg hu.1, uz_zz]
    · have e := getS_prefix (zz v).toNat j (by simpa [encO] using hj)
      unfold immE encO
      rw [if_pos ⟨rfl, rfl⟩, if_pos rfl]
      dsimp only
      rw [e]
      rw [if_pos (by simp)]
      rfl

theorem locS_max {l r n : Int} (h : locS l r n = true) (hr : r ≤ 1000000000) (hn : n ≤ 1000000000) : l < 4611686018427387904 := by
  unfold locS at h
  split at h
  · cases h
  · split at h
    · have := of_decide_eq_true h; omega
    · have := of_decide_eq_true h; omega

theorem olocE_cuts {b : Bool} {r n v : Int} (h : (b = true → locS v r n = true) ∧ (b = false → v = 0)) (hr : r ≤ 1000000000) (hn : n ≤ 1000000000) : Cuts (olocE b r n) (encO b v) v := by
  cases b
  · have e := h.2 rfl
    subst e
    exact ⟨fun q => by simp [olocE, encO], fun j hj => by simp [encO] at hj, fun s hs => olocE_err hs⟩
  · have hl := h.1 rfl
    have h0 := locS_nn hl
    have h1 := locS_max hl hr hn
    have hc := numE_cuts (bd := 4611686018427387904) (why := 10) h0 h1 (by omega)
    refine ⟨fun q => ?_, fun j hj => ?_, fun s hs => olocE_err hs⟩
    · have e := hc.get q
      unfold olocE encO locE
      rw [if_pos ⟨rfl, rfl⟩, if_pos rfl, e]
      rw [if_neg (by rw [hl]; simp)]
    · have e := hc.cut j (by simpa [encO] using hj)
      unfold olocE encO locE
      rw [if_pos ⟨rfl, rfl⟩, if_pos rfl, e]
      rw [if_neg (by simp)]

/-- The fields behind the opcode. -/
def encF (m : Mi) : List Nat := encO (uD m.op) m.d ++ (encO (uA m.op) m.a ++ (encO (uB m.op) m.b ++ (encO (m.op == 1) (zz m.imm) ++ (encO (m.op == 18) m.dst ++ encO (m.op == 18) m.src))))

theorem encM_eq (m : Mi) : encM m = m.op.toNat :: encF m := rfl

theorem readE_err {op regs n : Int} {s : Ip} (h : s.err ≠ 0) : readE op regs n s = (Mi0, s) := by
  have h1 : dE op regs s = (0, s) := optE_err h
  have h2 : aE op regs s = (0, s) := by unfold aE; rw [h1]; exact optE_err h
  have h3 : bE op regs s = (0, s) := by unfold bE; rw [h2]; exact optE_err h
  have h4 : iE op regs s = (0, s) := by unfold iE; rw [h3]; exact immE_err h
  have h5 : xE op regs n s = (0, s) := by unfold xE; rw [h4]; exact olocE_err h
  have h6 : yE op regs n s = (0, s) := by unfold yE; rw [h5]; exact olocE_err h
  have h7 : zE op regs n s = s := by unfold zE; rw [h6]; exact twoE_err h
  unfold readE
  rw [h7, if_pos h]

theorem readE_at {regs n : Int} {m : Mi} (hm : MOk regs n m) (hi : InI m.imm) (hr : regs ≤ 1000000000) (hn : n ≤ 1000000000) (q : List Nat) (j : Nat) :
    (j < (encF m).length ∧ readE m.op regs n ⟨(encF m ++ q).take j, 0⟩ = (Mi0, ⟨[], 1⟩)) ∨ ((encF m).length ≤ j ∧ readE m.op regs n ⟨(encF m ++ q).take j, 0⟩ = (m, ⟨q.take (j - (encF m).length), 0⟩)) := by
  have C1 := optE_cuts (why := 9) hm.r1 hm.z1 (by omega)
  have C2 := optE_cuts (why := 9) hm.r2 hm.z2 (by omega)
  have C3 := optE_cuts (why := 9) hm.r3 hm.z3 (by omega)
  have C4 := immE_cuts hm.z4 hi
  have C5 := olocE_cuts hm.l1 hr hn
  have C6 := olocE_cuts hm.l2 hr hn
  have E : (⟨[], 1⟩ : Ip).err ≠ 0 := by decide
  generalize hp1 : encO (uD m.op) m.d = p1 at *
  generalize hp2 : encO (uA m.op) m.a = p2 at *
  generalize hp3 : encO (uB m.op) m.b = p3 at *
  generalize hp4 : encO (m.op == 1) (zz m.imm) = p4 at *
  generalize hp5 : encO (m.op == 18) m.dst = p5 at *
  generalize hp6 : encO (m.op == 18) m.src = p6 at *
  have hF : encF m = p1 ++ (p2 ++ (p3 ++ (p4 ++ (p5 ++ p6)))) := by unfold encF; rw [hp1, hp2, hp3, hp4, hp5, hp6]
  have hl : (encF m).length = p1.length + p2.length + p3.length + p4.length + p5.length + p6.length := by rw [hF]; simp only [List.length_append]; omega
  have hA : encF m ++ q = p1 ++ (p2 ++ (p3 ++ (p4 ++ (p5 ++ (p6 ++ q))))) := by rw [hF]; simp only [List.append_assoc]
  rw [hA, hl]
  obtain ⟨s, hs⟩ : ∃ s : Ip, s = ⟨(p1 ++ (p2 ++ (p3 ++ (p4 ++ (p5 ++ (p6 ++ q)))))).take j, 0⟩ := ⟨_, rfl⟩
  rw [← hs]
  have bad : ∀ x : Ip, x.err ≠ 0 → zE m.op regs n s = x → readE m.op regs n s = (Mi0, x) := fun x hx hz => by unfold readE; rw [hz, if_pos hx]
  have z7 : ∀ x : Ip, x.err ≠ 0 → (yE m.op regs n s).2 = x → zE m.op regs n s = x := fun x hx hy => by unfold zE; rw [hy]; exact twoE_err hx
  have z6 : ∀ x : Ip, x.err ≠ 0 → (xE m.op regs n s).2 = x → zE m.op regs n s = x := fun x hx hy => z7 x hx (by unfold yE; rw [hy, olocE_err hx])
  have z5 : ∀ x : Ip, x.err ≠ 0 → (iE m.op regs s).2 = x → zE m.op regs n s = x := fun x hx hy => z6 x hx (by unfold xE; rw [hy, olocE_err hx])
  have z4 : ∀ x : Ip, x.err ≠ 0 → (bE m.op regs s).2 = x → zE m.op regs n s = x := fun x hx hy => z5 x hx (by unfold iE; rw [hy, immE_err hx])
  have z3 : ∀ x : Ip, x.err ≠ 0 → (aE m.op regs s).2 = x → zE m.op regs n s = x := fun x hx hy => z4 x hx (by unfold bE; rw [hy, optE_err hx])
  have z2 : ∀ x : Ip, x.err ≠ 0 → (dE m.op regs s).2 = x → zE m.op regs n s = x := fun x hx hy => z3 x hx (by unfold aE; rw [hy, optE_err hx])
  rcases C1.at_ (p2 ++ (p3 ++ (p4 ++ (p5 ++ (p6 ++ q))))) j with ⟨g1, e1⟩ | ⟨g1, e1⟩
  · rw [← hs] at e1
    exact .inl ⟨by omega, bad _ E (z2 _ E (by unfold dE; rw [e1]))⟩
  · rw [← hs] at e1
    have e1 : dE m.op regs s = _ := e1
    rcases C2.at_ (p3 ++ (p4 ++ (p5 ++ (p6 ++ q)))) (j - p1.length) with ⟨g2, e2⟩ | ⟨g2, e2⟩
    · exact .inl ⟨by omega, bad _ E (z3 _ E (by unfold aE; rw [e1]; dsimp only; rw [e2]))⟩
    · have e2 : aE m.op regs s = (m.a, ⟨(p3 ++ (p4 ++ (p5 ++ (p6 ++ q)))).take (j - p1.length - p2.length), 0⟩) := by unfold aE; rw [e1]; exact e2
      rcases C3.at_ (p4 ++ (p5 ++ (p6 ++ q))) (j - p1.length - p2.length) with ⟨g3, e3⟩ | ⟨g3, e3⟩
      · exact .inl ⟨by omega, bad _ E (z4 _ E (by unfold bE; rw [e2]; dsimp only; rw [e3]))⟩
      · have e3 : bE m.op regs s = (m.b, ⟨(p4 ++ (p5 ++ (p6 ++ q))).take (j - p1.length - p2.length - p3.length), 0⟩) := by unfold bE; rw [e2]; exact e3
        rcases C4.at_ (p5 ++ (p6 ++ q)) (j - p1.length - p2.length - p3.length) with ⟨g4, e4⟩ | ⟨g4, e4⟩
        · exact .inl ⟨by omega, bad _ E (z5 _ E (by unfold iE; rw [e3]; dsimp only; rw [e4]))⟩
        · have e4 : iE m.op regs s = (m.imm, ⟨(p5 ++ (p6 ++ q)).take (j - p1.length - p2.length - p3.length - p4.length), 0⟩) := by unfold iE; rw [e3]; exact e4
          rcases C5.at_ (p6 ++ q) (j - p1.length - p2.length - p3.length - p4.length) with ⟨g5, e5⟩ | ⟨g5, e5⟩
          · exact .inl ⟨by omega, bad _ E (z6 _ E (by unfold xE; rw [e4]; dsimp only; rw [e5]))⟩
          · have e5 : xE m.op regs n s = (m.dst, ⟨(p6 ++ q).take (j - p1.length - p2.length - p3.length - p4.length - p5.length), 0⟩) := by unfold xE; rw [e4]; exact e5
            rcases C6.at_ q (j - p1.length - p2.length - p3.length - p4.length - p5.length) with ⟨g6, e6⟩ | ⟨g6, e6⟩
            · exact .inl ⟨by omega, bad _ E (z7 _ E (by unfold yE; rw [e5]; dsimp only; rw [e6]))⟩
            · have e6 : yE m.op regs n s = (m.src, ⟨q.take (j - p1.length - p2.length - p3.length - p4.length - p5.length - p6.length), 0⟩) := by unfold yE; rw [e5]; exact e6
              refine .inr ⟨by omega, ?_⟩
              have e7 : zE m.op regs n s = ⟨q.take (j - p1.length - p2.length - p3.length - p4.length - p5.length - p6.length), 0⟩ := by
                unfold zE twoE
                rw [e5, e6]
                dsimp only
                rw [if_neg]
                rintro ⟨h1, _, h2⟩
                exact hm.l3 h1 h2
              unfold readE
              rw [e7, if_neg (by simp), e1, e2, e3, e4, e5, e6]
              rw [show j - (p1.length + p2.length + p3.length + p4.length + p5.length + p6.length) = j - p1.length - p2.length - p3.length - p4.length - p5.length - p6.length by omega]

theorem firstE_put {most nt why v : Int} (h1 : 1 ≤ v) (h2 : v ≤ most) (h3 : v ≠ nt) (q : List Nat) : firstE most nt why ⟨v.toNat :: q, 0⟩ = (v, ⟨q, 0⟩) := by
  unfold firstE
  rw [if_neg (by simp)]
  dsimp only
  rw [Int.toNat_of_nonneg (by omega), if_neg (by omega)]

/-- What is encoded is decoded. -/
theorem machE_put {regs n : Int} {m : Mi} (h : eM m regs n = 0) (hi : InI m.imm) (hr : regs ≤ 1000000000) (hn : n ≤ 1000000000) (q : List Nat) : machE regs n ⟨encM m ++ q, 0⟩ = (m, ⟨q, 0⟩) := by
  obtain ⟨⟨h1, h2, h3⟩, hm⟩ := eM_iff.1 h
  rw [encM_eq, List.cons_append]
  unfold machE
  rw [firstE_put h1 h2 h3, if_neg (by simp)]
  rcases readE_at hm hi hr hn q (encF m ++ q).length with ⟨g, _⟩ | ⟨g, e⟩
  · simp at g
    omega
  · rw [List.take_length] at e
    dsimp only
    rw [e, List.length_append, Nat.add_sub_cancel_left, List.take_length]

theorem instrE_put {regs : Int} {m : Mi} (hd : m.dst = 0) (hs : m.src = 0) (h : eI m.ins regs = 0) (hi : InI m.imm) (hr : regs ≤ 1000000000) (q : List Nat) : instrE regs ⟨encM m ++ q, 0⟩ = (m, ⟨q, 0⟩) := by
  obtain ⟨⟨h1, h2⟩, hm⟩ := (eI_iff (n := 0) hd hs).1 h
  rw [encM_eq, List.cons_append]
  unfold instrE
  rw [firstE_put h1 h2 (by omega), if_neg (by simp)]
  rcases readE_at hm hi hr (by omega) q (encF m ++ q).length with ⟨g, _⟩ | ⟨g, e⟩
  · simp at g
    omega
  · rw [List.take_length] at e
    dsimp only
    rw [e, List.length_append, Nat.add_sub_cancel_left, List.take_length]

/-- What is cut off is rejected. -/
theorem machE_cut {regs n : Int} {m : Mi} (h : eM m regs n = 0) (hi : InI m.imm) (hr : regs ≤ 1000000000) (hn : n ≤ 1000000000) {j : Nat} (hj : j < (encM m).length) : machE regs n ⟨(encM m).take j, 0⟩ = (Mi0, ⟨[], 1⟩) := by
  obtain ⟨⟨h1, h2, h3⟩, hm⟩ := eM_iff.1 h
  rw [encM_eq] at hj ⊢
  rcases j with _ | j
  · rfl
  · rw [List.take_succ_cons]
    unfold machE
    rw [firstE_put h1 h2 h3, if_neg (by simp)]
    have hj : j < (encF m).length := by simpa using hj
    rcases readE_at hm hi hr hn [] j with ⟨g, e⟩ | ⟨g, _⟩
    · rw [List.append_nil] at e
      exact e
    · omega

/-- Terminators. -/
theorem eT_iff {t : Tm} {regs n : Int} : eT t regs n = 0 ↔ (1 ≤ t.kind ∧ t.kind ≤ 3) ∧ fR regs (t.kind != 1, t.a) = true ∧ fR n (t.kind != 3, t.to) = true ∧ fR n (t.kind == 2, t.el) = true ∧ fZ (t.kind != 1, t.a) = true ∧ fZ (t.kind != 3, t.to) = true ∧ fZ (t.kind == 2, t.el) = true := by
  have hk : kO t.kind = true ↔ 1 ≤ t.kind ∧ t.kind ≤ 3 := by
    simp [kO]
    omega
  have hA : okR regs t.aF = true ↔ fR regs (t.kind != 1, t.a) = true := by simp [okR, Tm.aF, List.all]
  have hT : okR n t.toF = true ↔ fR n (t.kind != 3, t.to) = true ∧ fR n (t.kind == 2, t.el) = true := by simp [okR, Tm.toF, List.all]
  have hZ : okZ t.allF = true ↔ fZ (t.kind != 1, t.a) = true ∧ fZ (t.kind != 3, t.to) = true ∧ fZ (t.kind == 2, t.el) = true := by simp [okZ, Tm.allF, List.all]
  unfold eT
  constructor
  · intro h
    by_cases h1 : kO t.kind = true
    · rw [if_pos h1] at h
      by_cases h2 : okR regs t.aF = true
      · rw [if_pos h2] at h
        by_cases h3 : okR n t.toF = true
        · rw [if_pos h3] at h
          by_cases h4 : okZ t.allF = true
          · exact ⟨hk.1 h1, hA.1 h2, (hT.1 h3).1, (hT.1 h3).2, hZ.1 h4⟩
          · rw [if_neg h4] at h; simp at h
        · rw [if_neg h3] at h; simp at h
      · rw [if_neg h2] at h; simp at h
    · rw [if_neg h1] at h; simp at h
  · rintro ⟨h1, h2, h3, h4, h5⟩
    rw [if_pos (hk.2 h1), if_pos (hA.2 h2), if_pos (hT.2 ⟨h3, h4⟩), if_pos (hZ.2 h5)]

theorem termE_ok {regs n : Int} {l : List Nat} (hb : Byt l) (h : (termE regs n ⟨l, 0⟩).2.err = 0) :
    eT (termE regs n ⟨l, 0⟩).1 regs n = 0 ∧ l = encT (termE regs n ⟨l, 0⟩).1 ++ (termE regs n ⟨l, 0⟩).2.rest := by
  have he0 : (teE regs n ⟨l, 0⟩).2.err = 0 := by
    unfold termE at h
    by_cases h0 : (teE regs n ⟨l, 0⟩).2.err ≠ 0
    · rw [if_pos h0] at h; exact h
    · omega
  have hv : termE regs n ⟨l, 0⟩ = (⟨(tkE ⟨l, 0⟩).1, (taE regs ⟨l, 0⟩).1, (ttE regs n ⟨l, 0⟩).1, (teE regs n ⟨l, 0⟩).1⟩, (teE regs n ⟨l, 0⟩).2) := by
    unfold termE
    rw [if_neg (by omega)]
  rw [hv]
  have ht0 : (ttE regs n ⟨l, 0⟩).2.err = 0 := by
    by_cases h9 : (ttE regs n ⟨l, 0⟩).2.err = 0
    · exact h9
    · unfold teE at he0; rw [optE_err h9] at he0; exact he0
  have ha0 : (taE regs ⟨l, 0⟩).2.err = 0 := by
    by_cases h9 : (taE regs ⟨l, 0⟩).2.err = 0
    · exact h9
    · unfold ttE at ht0; rw [optE_err h9] at ht0; exact ht0
  have hk0 : (tkE ⟨l, 0⟩).2.err = 0 := by
    by_cases h9 : (tkE ⟨l, 0⟩).2.err = 0
    · exact h9
    · unfold taE at ha0; rw [optE_err h9] at ha0; exact ha0
  obtain ⟨_, p1, p2, p3, p4, p5⟩ := firstE_ok (most := 3) (nt := 0) (why := 16) (s := ⟨l, 0⟩) hb (by decide) hk0
  have f0 : l = (tkE ⟨l, 0⟩).1.toNat :: (tkE ⟨l, 0⟩).2.rest := p5
  have b0 : Byt (tkE ⟨l, 0⟩).2.rest := Byt.tail (l := [(tkE ⟨l, 0⟩).1.toNat]) (by rw [List.singleton_append, ← f0]; exact hb)
  obtain ⟨_, r1, z1, _, e1⟩ := optE_ok (b := (tkE ⟨l, 0⟩).1 != 1) b0 (by decide) ha0
  have f1 : (tkE ⟨l, 0⟩).2.rest = encO ((tkE ⟨l, 0⟩).1 != 1) (taE regs ⟨l, 0⟩).1 ++ (taE regs ⟨l, 0⟩).2.rest := e1
  have b1 : Byt (taE regs ⟨l, 0⟩).2.rest := Byt.tail (l := encO ((tkE ⟨l, 0⟩).1 != 1) (taE regs ⟨l, 0⟩).1) (by rw [← f1]; exact b0)
  obtain ⟨_, r2, z2, _, e2⟩ := optE_ok (b := (tkE ⟨l, 0⟩).1 != 3) b1 (by decide) ht0
  have f2 : (taE regs ⟨l, 0⟩).2.rest = encO ((tkE ⟨l, 0⟩).1 != 3) (ttE regs n ⟨l, 0⟩).1 ++ (ttE regs n ⟨l, 0⟩).2.rest := e2
  have b2 : Byt (ttE regs n ⟨l, 0⟩).2.rest := Byt.tail (l := encO ((tkE ⟨l, 0⟩).1 != 3) (ttE regs n ⟨l, 0⟩).1) (by rw [← f2]; exact b1)
  obtain ⟨_, r3, z3, _, e3⟩ := optE_ok (b := (tkE ⟨l, 0⟩).1 == 2) b2 (by decide) he0
  have f3 : (ttE regs n ⟨l, 0⟩).2.rest = encO ((tkE ⟨l, 0⟩).1 == 2) (teE regs n ⟨l, 0⟩).1 ++ (teE regs n ⟨l, 0⟩).2.rest := e3
  refine ⟨eT_iff.2 ⟨⟨p1, p2⟩, r1, r2, r3, z1, z2, z3⟩, ?_⟩
  refine f0.trans ?_
  rw [f1, f2, f3]
  simp only [encT, List.cons_append, List.append_assoc]

theorem termE_put {regs n : Int} {t : Tm} (h : eT t regs n = 0) (hr : regs ≤ 1000000000) (hn : n ≤ 1000000000) (q : List Nat) : termE regs n ⟨encT t ++ q, 0⟩ = (t, ⟨q, 0⟩) := by
  obtain ⟨⟨k1, k2⟩, r1, r2, r3, z1, z2, z3⟩ := eT_iff.1 h
  have C1 := optE_cuts (why := 9) r1 z1 (by omega)
  have C2 := optE_cuts (why := 11) r2 z2 (by omega)
  have C3 := optE_cuts (why := 11) r3 z3 (by omega)
  have e0 : tkE ⟨encT t ++ q, 0⟩ = (t.kind, ⟨encO (t.kind != 1) t.a ++ (encO (t.kind != 3) t.to ++ (encO (t.kind == 2) t.el ++ q)), 0⟩) := by
    unfold tkE encT
    rw [List.cons_append, firstE_put k1 k2 (by omega)]
    simp only [List.append_assoc]
  have e1 : taE regs ⟨encT t ++ q, 0⟩ = (t.a, ⟨encO (t.kind != 3) t.to ++ (encO (t.kind == 2) t.el ++ q), 0⟩) := by unfold taE; rw [e0]; exact C1.get _
  have e2 : ttE regs n ⟨encT t ++ q, 0⟩ = (t.to, ⟨encO (t.kind == 2) t.el ++ q, 0⟩) := by unfold ttE; rw [e1, e0]; exact C2.get _
  have e3 : teE regs n ⟨encT t ++ q, 0⟩ = (t.el, ⟨q, 0⟩) := by unfold teE; rw [e2, e0]; exact C3.get _
  unfold termE
  rw [e3, if_neg (by simp), e2, e1, e0]

end Go.Proofs.YtkapmfopfddmbaaGreat

/-
  What layer 18 reads and writes, as functions on data; what has been read is valid and is encoded as it was.
-/
namespace Go.Proofs.YtkapmfopfddmbaaGreat
open Go.RowKit
set_option linter.unusedVariables false

def failE (e : Int) (s : Ip) : Ip := if s.err ≠ 0 then s else ⟨[], e⟩

def sizeE (s : Ip) : Int × Ip := numE 1048577 6 s

def cntE (k : Int) (s : Ip) : Int × Ip := if (sizeE s).2.err = 0 ∧ ((sizeE s).2.rest.length : Int) / k < (sizeE s).1 then (0, failE 1 (sizeE s).2) else sizeE s

def nblkE (s : Ip) : Int × Ip := if (cntE 3 s).1 = 0 then (0, failE 14 (cntE 3 s).2) else cntE 3 s

def codeE (before : Int) (s : Ip) : Int × Ip := if 1048576 < before + (cntE 2 s).1 then (0, failE 6 (cntE 2 s).2) else cntE 2 s

def insE (regs : Int) : Nat → Ip → List In × Ip
  | 0, s => ([], s)
  | k + 1, s => if s.err ≠ 0 then ([], s) else ((instrE regs s).1.ins :: (insE regs k (instrE regs s).2).1, (insE regs k (instrE regs s).2).2)

/-- The state behind an instruction, and the run of moves. -/
def mvE (run : Nat) (x : Mi) (t : Ip) : Ip := if 64 < ext run x then failE 15 t else t

def miE (regs slots : Int) : Nat → Nat → Ip → List Mi × Ip
  | 0, _, s => ([], s)
  | k + 1, run, s => if s.err ≠ 0 then ([], s) else
    ((machE regs slots s).1 :: (miE regs slots k (ext run (machE regs slots s).1) (mvE run (machE regs slots s).1 (machE regs slots s).2)).1, (miE regs slots k (ext run (machE regs slots s).1) (mvE run (machE regs slots s).1 (machE regs slots s).2)).2)

/-- A block: what is read, and the number of instructions behind it. -/
def blkK (tot : Int) (s : Ip) : Int := (codeE tot s).1

def blkI (regs tot : Int) (s : Ip) : List In × Ip := insE regs (codeE tot s).1.toNat (codeE tot s).2

def blkT (regs n tot : Int) (s : Ip) : Tm × Ip := termE regs n (blkI regs tot s).2

def blksE (regs n : Int) : Nat → Int → Ip → List Blk × Ip
  | 0, _, s => ([], s)
  | m + 1, tot, s => if s.err ≠ 0 then ([], s) else (⟨(blkI regs tot s).1, (blkT regs n tot s).1⟩ :: (blksE regs n m (tot + blkK tot s) (blkT regs n tot s).2).1, (blksE regs n m (tot + blkK tot s) (blkT regs n tot s).2).2)

def mblkI (regs slots tot : Int) (s : Ip) : List Mi × Ip := miE regs slots (codeE tot s).1.toNat 0 (codeE tot s).2

def mblkT (regs slots n tot : Int) (s : Ip) : Tm × Ip := termE regs n (mblkI regs slots tot s).2

def mblksE (regs slots n : Int) : Nat → Int → Ip → List MBlk × Ip
  | 0, _, s => ([], s)
  | m + 1, tot, s => if s.err ≠ 0 then ([], s) else (⟨(mblkI regs slots tot s).1, (mblkT regs slots n tot s).1⟩ :: (mblksE regs slots n m (tot + blkK tot s) (mblkT regs slots n tot s).2).1, (mblksE regs slots n m (tot + blkK tot s) (mblkT regs slots n tot s).2).2)

def fA (s : Ip) : Int × Ip := sizeE s

def fR' (s : Ip) : Int × Ip := sizeE (fA s).2

def fC (s : Ip) : Ip := if (fR' s).1 < (fA s).1 then failE 9 (fR' s).2 else (fR' s).2

def fN (s : Ip) : Int × Ip := nblkE (fC s)

def fB (s : Ip) : List Blk × Ip := blksE (fR' s).1 (fN s).1 (fN s).1.toNat 0 (fN s).2

/-- A source function, as data. -/
structure Fd where
  args : Int
  regs : Int
  bs : List Blk

def funcE (s : Ip) : Fd × Ip := if (fB s).2.err ≠ 0 then (⟨0, 0, []⟩, (fB s).2) else (⟨(fA s).1, (fR' s).1, (fB s).1⟩, (fB s).2)

def gS (s : Ip) : Int × Ip := sizeE (fR' s).2

def gC (s : Ip) : Ip := if (gS s).1 < (fA s).1 then failE 10 (gS s).2 else (gS s).2

def gN (s : Ip) : Int × Ip := nblkE (gC s)

def gB (s : Ip) : List MBlk × Ip := mblksE (fR' s).1 (gS s).1 (gN s).1 (gN s).1.toNat 0 (gN s).2

/-- An allocated function, as data. -/
structure Gd where
  args : Int
  regs : Int
  slots : Int
  ms : List MBlk

def mfuncE (s : Ip) : Gd × Ip := if (gB s).2.err ≠ 0 then (⟨0, 0, 0, []⟩, (gB s).2) else (⟨(fA s).1, (fR' s).1, (gS s).1, (gB s).1⟩, (gB s).2)

/-- What is written. -/
def inM (x : In) : Mi := ⟨x.op, x.d, x.a, x.b, x.imm, 0, 0⟩

def encC (xs : List In) : List Nat := xs.flatMap fun x => encM (inM x)

def encK (xs : List Mi) : List Nat := xs.flatMap encM

def encB (b : Blk) : List Nat := putS b.code.length ++ (encC b.code ++ encT b.term)

def encBs (bs : List Blk) : List Nat := bs.flatMap encB

def encMB (b : MBlk) : List Nat := putS b.code.length ++ (encK b.code ++ encT b.term)

def encMBs (bs : List MBlk) : List Nat := bs.flatMap encMB

def encF' (f : Fd) : List Nat := putS f.args.toNat ++ (putS f.regs.toNat ++ (putS f.bs.length ++ encBs f.bs))

def encG (g : Gd) : List Nat := putS g.args.toNat ++ (putS g.regs.toNat ++ (putS g.slots.toNat ++ (putS g.ms.length ++ encMBs g.ms)))

theorem failE_err {e : Int} {s : Ip} (he : e ≠ 0) : (failE e s).err ≠ 0 := by
  unfold failE
  split
  · assumption
  · exact he

theorem failE_keep {e : Int} {s : Ip} (h : s.err ≠ 0) : failE e s = s := if_pos h

theorem sizeE_ok {s : Ip} (hb : Byt s.rest) (h : (sizeE s).2.err = 0) : s.err = 0 ∧ 0 ≤ (sizeE s).1 ∧ (sizeE s).1 ≤ 1048576 ∧ s.rest = putS (sizeE s).1.toNat ++ (sizeE s).2.rest := by
  obtain ⟨h1, h2, h3, _, h5⟩ := numE_ok (bd := 1048577) (why := 6) hb (by decide) h
  exact ⟨h1, h2, by unfold sizeE; omega, h5⟩

theorem cntE_ok {k : Int} {s : Ip} (hb : Byt s.rest) (h : (cntE k s).2.err = 0) : s.err = 0 ∧ 0 ≤ (cntE k s).1 ∧ (cntE k s).1 ≤ 1048576 ∧ s.rest = putS (cntE k s).1.toNat ++ (cntE k s).2.rest ∧ (cntE k s).1 ≤ ((cntE k s).2.rest.length : Int) / k := by
  unfold cntE at *
  by_cases h0 : (sizeE s).2.err = 0 ∧ ((sizeE s).2.rest.length : Int) / k < (sizeE s).1
  · rw [if_pos h0] at h
    exact absurd h (failE_err (by decide))
  · rw [if_neg h0] at *
    obtain ⟨h1, h2, h3, h4⟩ := sizeE_ok hb h
    exact ⟨h1, h2, h3, h4, by
      by_cases hh : ((sizeE s).2.rest.length : Int) / k < (sizeE s).1
      · exact absurd ⟨h, hh⟩ h0
      · omega⟩

theorem nblkE_ok {s : Ip} (hb : Byt s.rest) (h : (nblkE s).2.err = 0) : s.err = 0 ∧ 1 ≤ (nblkE s).1 ∧ (nblkE s).1 ≤ 1048576 ∧ s.rest = putS (nblkE s).1.toNat ++ (nblkE s).2.rest ∧ (nblkE s).1 ≤ ((nblkE s).2.rest.length : Int) / 3 := by
  unfold nblkE at *
  by_cases h0 : (cntE 3 s).1 = 0
  · rw [if_pos h0] at h
    exact absurd h (failE_err (by decide))
  · rw [if_neg h0] at *
    obtain ⟨h1, h2, h3, h4, h5⟩ := cntE_ok hb h
    exact ⟨h1, by omega, h3, h4, h5⟩

theorem codeE_ok {tot : Int} {s : Ip} (hb : Byt s.rest) (h : (codeE tot s).2.err = 0) : s.err = 0 ∧ 0 ≤ (codeE tot s).1 ∧ tot + (codeE tot s).1 ≤ 1048576 ∧ s.rest = putS (codeE tot s).1.toNat ++ (codeE tot s).2.rest ∧ (codeE tot s).1 ≤ ((codeE tot s).2.rest.length : Int) / 2 := by
  unfold codeE at *
  by_cases h0 : 1048576 < tot + (cntE 2 s).1
  · rw [if_pos h0] at h
    exact absurd h (failE_err (by decide))
  · rw [if_neg h0] at *
    obtain ⟨h1, h2, h3, h4, h5⟩ := cntE_ok hb h
    exact ⟨h1, h2, by omega, h4, h5⟩

theorem Byt.right {l r : List Nat} {m : List Nat} (h : Byt l) (e : l = m ++ r) : Byt r := Byt.tail (l := m) (by rw [← e]; exact h)

theorem ip_eta {s : Ip} (h : s.err = 0) : s = ⟨s.rest, 0⟩ := by
  obtain ⟨l, e⟩ := s
  dsimp only at h
  rw [h]

theorem instrE_err {regs : Int} {s : Ip} (h : s.err ≠ 0) : instrE regs s = (Mi0, s) := by
  have hf : firstE 17 0 8 s = (0, s) := if_pos h
  unfold instrE
  rw [hf, if_pos h]

theorem machE_err {regs n : Int} {s : Ip} (h : s.err ≠ 0) : machE regs n s = (Mi0, s) := by
  have hf : firstE 18 2 8 s = (0, s) := if_pos h
  unfold machE
  rw [hf, if_pos h]

theorem termE_err {regs n : Int} {s : Ip} (h : s.err ≠ 0) : termE regs n s = (Tm0, s) := by
  have hf : tkE s = (0, s) := if_pos h
  have h1 : taE regs s = (0, s) := by unfold taE; rw [hf]; exact optE_err h
  have h2 : ttE regs n s = (0, s) := by unfold ttE; rw [h1]; exact optE_err h
  have h3 : teE regs n s = (0, s) := by unfold teE; rw [h2]; exact optE_err h
  unfold termE
  rw [h3, if_pos h]

theorem insE_err {regs : Int} {k : Nat} {s : Ip} (h : s.err ≠ 0) : insE regs k s = ([], s) := by
  cases k with
  | zero => rfl
  | succ k => exact if_pos h

theorem miE_err {regs slots : Int} {k run : Nat} {s : Ip} (h : s.err ≠ 0) : miE regs slots k run s = ([], s) := by
  cases k with
  | zero => rfl
  | succ k => exact if_pos h

theorem blksE_err {regs n tot : Int} {k : Nat} {s : Ip} (h : s.err ≠ 0) : blksE regs n k tot s = ([], s) := by
  cases k with
  | zero => rfl
  | succ k => exact if_pos h

theorem mblksE_err {regs slots n tot : Int} {k : Nat} {s : Ip} (h : s.err ≠ 0) : mblksE regs slots n k tot s = ([], s) := by
  cases k with
  | zero => rfl
  | succ k => exact if_pos h

theorem sizeE_err {s : Ip} (h : s.err ≠ 0) : sizeE s = (0, s) := numE_err h

theorem cntE_err {k : Int} {s : Ip} (h : s.err ≠ 0) : cntE k s = (0, s) := by
  unfold cntE
  rw [sizeE_err h, if_neg fun hh => h hh.1]

theorem nblkE_err {s : Ip} (h : s.err ≠ 0) : nblkE s = (0, s) := by
  unfold nblkE
  rw [cntE_err h, if_pos rfl, failE_keep h]

theorem codeE_err {tot : Int} {s : Ip} (h : s.err ≠ 0) : codeE tot s = (0, s) := by
  unfold codeE
  rw [cntE_err h]
  dsimp only
  rw [failE_keep h]
  split <;> rfl

/-- The instructions of a block that have been read. -/
theorem insE_ok {regs : Int} : ∀ (k : Nat) (s : Ip), Byt s.rest → (insE regs k s).2.err = 0 →
    s.err = 0 ∧ (insE regs k s).1.length = k ∧ eIs regs (insE regs k s).1 = 0 ∧ (∀ x ∈ (insE regs k s).1, InI x.imm ∧ eI x regs = 0) ∧ s.rest = encC (insE regs k s).1 ++ (insE regs k s).2.rest
  | 0, s, hb, h => ⟨h, rfl, rfl, fun x hx => (by cases hx), rfl⟩
  | k + 1, s, hb, h => by
    have h0 : s.err = 0 := by
      by_cases h9 : s.err = 0
      · exact h9
      · rw [insE_err h9] at h; exact h
    have e : insE regs (k + 1) s = ((instrE regs s).1.ins :: (insE regs k (instrE regs s).2).1, (insE regs k (instrE regs s).2).2) := if_neg fun hh => hh h0
    rw [e] at h ⊢
    have hi : (instrE regs s).2.err = 0 := by
      by_cases h9 : (instrE regs s).2.err = 0
      · exact h9
      · dsimp only at h; rw [insE_err h9] at h; exact h
    have hs := ip_eta h0
    have hk := instrE_ok (regs := regs) (l := s.rest) hb (by rw [← hs]; exact hi)
    rw [← hs] at hk
    obtain ⟨g1, g2, g3, g4, g5⟩ := hk
    obtain ⟨i1, i2, i3, i4, i5⟩ := insE_ok k (instrE regs s).2 (hb.right g3) h
    have hm : inM (instrE regs s).1.ins = (instrE regs s).1 := by
      generalize (instrE regs s).1 = m at *
      obtain ⟨a, b, c, d, e, f, g⟩ := m
      dsimp only at g4 g5
      subst g4 g5
      rfl
    refine ⟨h0, by dsimp only; rw [List.length_cons, i2], ?_, fun x hx => ?_, ?_⟩
    · show (if eI _ regs = 0 then _ else _) = _
      rw [if_pos g1]
      exact i3
    · rcases List.mem_cons.1 hx with rfl | hx
      · exact ⟨g2, g1⟩
      · exact i4 x hx
    · show s.rest = (encM (inM _) ++ encC _) ++ _
      rw [hm, List.append_assoc, ← i5]
      exact g3

theorem miE_ok {regs slots : Int} : ∀ (k run : Nat) (s : Ip), Byt s.rest → (miE regs slots k run s).2.err = 0 →
    s.err = 0 ∧ (miE regs slots k run s).1.length = k ∧ eCd regs slots run (miE regs slots k run s).1 = 0 ∧ (∀ x ∈ (miE regs slots k run s).1, InI x.imm ∧ eM x regs slots = 0) ∧ s.rest = encK (miE regs slots k run s).1 ++ (miE regs slots k run s).2.rest
  | 0, run, s, hb, h => ⟨h, rfl, rfl, fun x hx => (by cases hx), rfl⟩
  | k + 1, run, s, hb, h => by
    have h0 : s.err = 0 := by
      by_cases h9 : s.err = 0
      · exact h9
      · rw [miE_err h9] at h; exact h
    have e : miE regs slots (k + 1) run s = ((machE regs slots s).1 :: (miE regs slots k (ext run (machE regs slots s).1) (mvE run (machE regs slots s).1 (machE regs slots s).2)).1, (miE regs slots k (ext run (machE regs slots s).1) (mvE run (machE regs slots s).1 (machE regs slots s).2)).2) := if_neg fun hh => hh h0
    rw [e] at h ⊢
    dsimp only at h ⊢
    have hi0 : (mvE run (machE regs slots s).1 (machE regs slots s).2).err = 0 := by
      by_cases h9 : (mvE run (machE regs slots s).1 (machE regs slots s).2).err = 0
      · exact h9
      · rw [miE_err h9] at h; exact h
    have hx : ¬ 64 < ext run (machE regs slots s).1 := fun h9 => by
      unfold mvE at hi0
      rw [if_pos h9] at hi0
      exact failE_err (by decide) hi0
    have hmv : mvE run (machE regs slots s).1 (machE regs slots s).2 = (machE regs slots s).2 := if_neg hx
    rw [hmv] at h hi0 ⊢
    have hs := ip_eta h0
    have hk := machE_ok (regs := regs) (n := slots) (l := s.rest) hb (by rw [← hs]; exact hi0)
    rw [← hs] at hk
    obtain ⟨g1, g2, g3⟩ := hk
    obtain ⟨i1, i2, i3, i4, i5⟩ := miE_ok k (ext run (machE regs slots s).1) (machE regs slots s).2 (hb.right g3) h
    refine ⟨h0, by rw [List.length_cons, i2], ?_, fun x hx => ?_, ?_⟩
    · show (if eM _ regs slots = 0 then if 64 < ext run _ then _ else _ else _) = _
      rw [if_pos g1, if_neg hx]
      exact i3
    · rcases List.mem_cons.1 hx with rfl | hx
      · exact ⟨g2, g1⟩
      · exact i4 x hx
    · show s.rest = (encM _ ++ encK _) ++ _
      rw [List.append_assoc, ← i5]
      exact g3

/-- The blocks that have been read. -/
theorem blksE_ok {regs n : Int} : ∀ (m : Nat) (tot : Int) (s : Ip), Byt s.rest → (blksE regs n m tot s).2.err = 0 →
    s.err = 0 ∧ (blksE regs n m tot s).1.length = m ∧ (tot ≤ 1048576 → tot + (codeN (blksE regs n m tot s).1 : Int) ≤ 1048576) ∧ eBs regs n (blksE regs n m tot s).1 = 0 ∧ (∀ b ∈ (blksE regs n m tot s).1, ∀ x ∈ b.code, InI x.imm) ∧ s.rest = encBs (blksE regs n m tot s).1 ++ (blksE regs n m tot s).2.rest
  | 0, tot, s, hb, h => ⟨h, rfl, fun h => (by show tot + ((0 : Nat) : Int) ≤ _; omega), rfl, fun x hx => (by cases hx), rfl⟩
  | m + 1, tot, s, hb, h => by
    have h0 : s.err = 0 := by
      by_cases h9 : s.err = 0
      · exact h9
      · rw [blksE_err h9] at h; exact h
    have e : blksE regs n (m + 1) tot s = (⟨(blkI regs tot s).1, (blkT regs n tot s).1⟩ :: (blksE regs n m (tot + blkK tot s) (blkT regs n tot s).2).1, (blksE regs n m (tot + blkK tot s) (blkT regs n tot s).2).2) := if_neg fun hh => hh h0
    rw [e] at h ⊢
    dsimp only at h ⊢
    have ht : (blkT regs n tot s).2.err = 0 := by
      by_cases h9 : (blkT regs n tot s).2.err = 0
      · exact h9
      · rw [blksE_err h9] at h; exact h
    have hi : (blkI regs tot s).2.err = 0 := by
      by_cases h9 : (blkI regs tot s).2.err = 0
      · exact h9
      · unfold blkT at ht; rw [termE_err h9] at ht; exact ht
    have hc : (codeE tot s).2.err = 0 := by
      by_cases h9 : (codeE tot s).2.err = 0
      · exact h9
      · unfold blkI at hi; rw [insE_err h9] at hi; exact hi
    obtain ⟨_, c2, c3, c4, _⟩ := codeE_ok hb hc
    have b1 := hb.right c4
    obtain ⟨_, i2, i3, i4, i5⟩ := insE_ok (regs := regs) (codeE tot s).1.toNat (codeE tot s).2 b1 hi
    have b2 := b1.right i5
    have hs2 := ip_eta hi
    have tk := termE_ok (regs := regs) (n := n) (l := (blkI regs tot s).2.rest) b2 (by rw [← hs2]; exact ht)
    rw [← hs2] at tk
    obtain ⟨t1, t2⟩ := tk
    obtain ⟨_, k2, k3, k4, k5, k6⟩ := blksE_ok m (tot + blkK tot s) (blkT regs n tot s).2 (b2.right t2) h
    have hk : ((blkI regs tot s).1.length : Int) = blkK tot s := by
      show (((insE regs (codeE tot s).1.toNat (codeE tot s).2).1.length : Nat) : Int) = (codeE tot s).1
      rw [i2]; omega
    have hk' : (blkI regs tot s).1.length = (codeE tot s).1.toNat := i2
    refine ⟨h0, by rw [List.length_cons, k2], fun h9 => ?_, ?_, fun b hb' => ?_, ?_⟩
    · have := k3 (by show tot + (codeE tot s).1 ≤ _; exact c3)
      rw [codeN_cons]
      dsimp only
      omega
    · have hB : eB ⟨(blkI regs tot s).1, (blkT regs n tot s).1⟩ regs n = 0 := by
        exact (if_pos i3).trans t1
      show (if eB _ regs n = 0 then _ else _) = _
      rw [if_pos hB]
      exact k4
    · rcases List.mem_cons.1 hb' with rfl | hb'
      · exact fun x hx => (i4 x hx).1
      · exact k5 b hb'
    · show s.rest = (encB _ ++ encBs _) ++ _
      unfold encB
      dsimp only
      rw [hk']
      rw [List.append_assoc, ← k6, List.append_assoc, List.append_assoc]
      rw [c4, i5]
      rw [show (insE regs (codeE tot s).1.toNat (codeE tot s).2).2.rest = (blkI regs tot s).2.rest from rfl, t2]
      rfl

theorem mblksE_ok {regs slots n : Int} : ∀ (m : Nat) (tot : Int) (s : Ip), Byt s.rest → (mblksE regs slots n m tot s).2.err = 0 →
    s.err = 0 ∧ (mblksE regs slots n m tot s).1.length = m ∧ (tot ≤ 1048576 → tot + (mcodeN (mblksE regs slots n m tot s).1 : Int) ≤ 1048576) ∧ eMBs regs slots n (mblksE regs slots n m tot s).1 = 0 ∧ (∀ b ∈ (mblksE regs slots n m tot s).1, ∀ x ∈ b.code, InI x.imm) ∧ s.rest = encMBs (mblksE regs slots n m tot s).1 ++ (mblksE regs slots n m tot s).2.rest
  | 0, tot, s, hb, h => ⟨h, rfl, fun h => (by show tot + ((0 : Nat) : Int) ≤ _; omega), rfl, fun x hx => (by cases hx), rfl⟩
  | m + 1, tot, s, hb, h => by
    have h0 : s.err = 0 := by
      by_cases h9 : s.err = 0
      · exact h9
      · rw [mblksE_err h9] at h; exact h
    have e : mblksE regs slots n (m + 1) tot s = (⟨(mblkI regs slots tot s).1, (mblkT regs slots n tot s).1⟩ :: (mblksE regs slots n m (tot + blkK tot s) (mblkT regs slots n tot s).2).1, (mblksE regs slots n m (tot + blkK tot s) (mblkT regs slots n tot s).2).2) := if_neg fun hh => hh h0
    rw [e] at h ⊢
    dsimp only at h ⊢
    have ht : (mblkT regs slots n tot s).2.err = 0 := by
      by_cases h9 : (mblkT regs slots n tot s).2.err = 0
      · exact h9
      · rw [mblksE_err h9] at h; exact h
    have hi : (mblkI regs slots tot s).2.err = 0 := by
      by_cases h9 : (mblkI regs slots tot s).2.err = 0
      · exact h9
      · unfold mblkT at ht; rw [termE_err h9] at ht; exact ht
    have hc : (codeE tot s).2.err = 0 := by
      by_cases h9 : (codeE tot s).2.err = 0
      · exact h9
      · unfold mblkI at hi; rw [miE_err h9] at hi; exact hi
    obtain ⟨_, c2, c3, c4, _⟩ := codeE_ok hb hc
    have b1 := hb.right c4
    obtain ⟨_, i2, i3, i4, i5⟩ := miE_ok (regs := regs) (slots := slots) (codeE tot s).1.toNat 0 (codeE tot s).2 b1 hi
    have b2 := b1.right i5
    have hs2 := ip_eta hi
    have tk := termE_ok (regs := regs) (n := n) (l := (mblkI regs slots tot s).2.rest) b2 (by rw [← hs2]; exact ht)
    rw [← hs2] at tk
    obtain ⟨t1, t2⟩ := tk
    obtain ⟨_, k2, k3, k4, k5, k6⟩ := mblksE_ok m (tot + blkK tot s) (mblkT regs slots n tot s).2 (b2.right t2) h
    have hk : ((mblkI regs slots tot s).1.length : Int) = blkK tot s := by
      show (((miE regs slots (codeE tot s).1.toNat 0 (codeE tot s).2).1.length : Nat) : Int) = (codeE tot s).1
      rw [i2]; omega
    have hk' : (mblkI regs slots tot s).1.length = (codeE tot s).1.toNat := i2
    refine ⟨h0, by rw [List.length_cons, k2], fun h9 => ?_, ?_, fun b hb' => ?_, ?_⟩
    · have := k3 (by show tot + (codeE tot s).1 ≤ _; exact c3)
      rw [mcodeN_cons]
      dsimp only
      omega
    · have hB : eMB ⟨(mblkI regs slots tot s).1, (mblkT regs slots n tot s).1⟩ regs slots n = 0 := by
        exact (if_pos i3).trans t1
      show (if eMB _ regs slots n = 0 then _ else _) = _
      rw [if_pos hB]
      exact k4
    · rcases List.mem_cons.1 hb' with rfl | hb'
      · exact fun x hx => (i4 x hx).1
      · exact k5 b hb'
    · show s.rest = (encMB _ ++ encMBs _) ++ _
      unfold encMB
      dsimp only
      rw [hk']
      rw [List.append_assoc, ← k6, List.append_assoc, List.append_assoc]
      rw [c4, i5]
      rw [show (miE regs slots (codeE tot s).1.toNat 0 (codeE tot s).2).2.rest = (mblkI regs slots tot s).2.rest from rfl, t2]
      rfl

theorem nblk_len {n : Int} {k : Nat} (h : n.toNat = k) (h0 : 0 ≤ n) : n = (k : Int) := by omega

/-- A function that has been read. -/
theorem funcE_ok {s : Ip} (hb : Byt s.rest) (h : (funcE s).2.err = 0) :
    s.err = 0 ∧ eF (funcE s).1.args (funcE s).1.regs (funcE s).1.bs = 0 ∧ (∀ b ∈ (funcE s).1.bs, ∀ x ∈ b.code, InI x.imm) ∧ s.rest = encF' (funcE s).1 ++ (funcE s).2.rest ∧ 0 ≤ (funcE s).1.args ∧ (funcE s).1.regs ≤ 1048576 ∧ (funcE s).1.bs.length ≤ 1048576 := by
  have h5 : (fB s).2.err = 0 := by
    by_cases h9 : (fB s).2.err = 0
    · exact h9
    · unfold funcE at h; rw [if_pos h9] at h; exact h
  have e : funcE s = (⟨(fA s).1, (fR' s).1, (fB s).1⟩, (fB s).2) := if_neg fun hh => hh h5
  rw [e]
  have h4 : (fN s).2.err = 0 := by
    by_cases h9 : (fN s).2.err = 0
    · exact h9
    · unfold fB at h5; rw [blksE_err h9] at h5; exact h5
  have h3 : (fC s).err = 0 := by
    by_cases h9 : (fC s).err = 0
    · exact h9
    · unfold fN at h4; rw [nblkE_err h9] at h4; exact h4
  have hcmp : ¬ (fR' s).1 < (fA s).1 := fun h9 => by
    unfold fC at h3
    rw [if_pos h9] at h3
    exact failE_err (by decide) h3
  have hC : fC s = (fR' s).2 := if_neg hcmp
  have h2 : (fR' s).2.err = 0 := by rw [← hC]; exact h3
  have h1 : (fA s).2.err = 0 := by
    by_cases h9 : (fA s).2.err = 0
    · exact h9
    · unfold fR' at h2; rw [sizeE_err h9] at h2; exact h2
  obtain ⟨a0, a1, a2, a3⟩ := sizeE_ok hb h1
  have b1 := hb.right a3
  obtain ⟨_, r1, r2, r3⟩ := sizeE_ok (s := (fA s).2) b1 h2
  have b2 := b1.right r3
  obtain ⟨_, n1, n2, n3, _⟩ := nblkE_ok (s := fC s) (by rw [hC]; exact b2) h4
  have n3' : (fR' s).2.rest = putS (fN s).1.toNat ++ (fN s).2.rest := by rw [← hC]; exact n3
  have b3 : Byt (fN s).2.rest := b2.right n3'
  obtain ⟨_, k2, k3, k4, k5, k6⟩ := blksE_ok (regs := (fR' s).1) (n := (fN s).1) (fN s).1.toNat 0 (fN s).2 b3 h5
  have hl : (fB s).1.length = (fN s).1.toNat := k2
  have hn : (fN s).1 = ((fB s).1.length : Int) := by have : 1 ≤ (fN s).1 := n1; omega
  have n1' : 1 ≤ (fN s).1 := n1
  have n2' : (fN s).1 ≤ 1048576 := n2
  have r2' : (fR' s).1 ≤ 1048576 := r2
  have a1' : 0 ≤ (fA s).1 := a1
  have k3' : (codeN (fB s).1 : Int) ≤ 1048576 := by have : (0 : Int) + (codeN (fB s).1 : Int) ≤ 1048576 := k3 (by decide); omega
  have k4' : eBs (fR' s).1 (fN s).1 (fB s).1 = 0 := k4
  refine ⟨a0, ?_, k5, ?_, a1', r2', by dsimp only; omega⟩
  · have hz : eSz (fA s).1 (fR' s).1 (fB s).1 = 0 := by
      unfold eSz
      rw [if_neg (by omega), if_neg (by omega), if_neg (by omega), if_neg (by omega)]
    unfold eF
    dsimp only
    rw [if_pos hz, ← hn]
    exact k4'
  · show s.rest = (putS _ ++ (putS _ ++ (putS (fB s).1.length ++ encBs _))) ++ _
    rw [hl]
    simp only [List.append_assoc]
    have k6' : (fN s).2.rest = encBs (fB s).1 ++ (fB s).2.rest := k6
    have r3' : (fA s).2.rest = putS (fR' s).1.toNat ++ (fR' s).2.rest := r3
    rw [← k6', ← n3', ← r3']
    exact a3

theorem mfuncE_ok {s : Ip} (hb : Byt s.rest) (h : (mfuncE s).2.err = 0) :
    s.err = 0 ∧ eMF (mfuncE s).1.args (mfuncE s).1.regs (mfuncE s).1.slots (mfuncE s).1.ms = 0 ∧ (∀ b ∈ (mfuncE s).1.ms, ∀ x ∈ b.code, InI x.imm) ∧ s.rest = encG (mfuncE s).1 ++ (mfuncE s).2.rest ∧ 0 ≤ (mfuncE s).1.args ∧ (mfuncE s).1.regs ≤ 1048576 ∧ (mfuncE s).1.slots ≤ 1048576 ∧ (mfuncE s).1.ms.length ≤ 1048576 := by
  have h5 : (gB s).2.err = 0 := by
    by_cases h9 : (gB s).2.err = 0
    · exact h9
    · unfold mfuncE at h; rw [if_pos h9] at h; exact h
  have e : mfuncE s = (⟨(fA s).1, (fR' s).1, (gS s).1, (gB s).1⟩, (gB s).2) := if_neg fun hh => hh h5
  rw [e]
  have h4 : (gN s).2.err = 0 := by
    by_cases h9 : (gN s).2.err = 0
    · exact h9
    · unfold gB at h5; rw [mblksE_err h9] at h5; exact h5
  have h3 : (gC s).err = 0 := by
    by_cases h9 : (gC s).err = 0
    · exact h9
    · unfold gN at h4; rw [nblkE_err h9] at h4; exact h4
  have hcmp : ¬ (gS s).1 < (fA s).1 := fun h9 => by
    unfold gC at h3
    rw [if_pos h9] at h3
    exact failE_err (by decide) h3
  have hC : gC s = (gS s).2 := if_neg hcmp
  have hs : (gS s).2.err = 0 := by rw [← hC]; exact h3
  have h2 : (fR' s).2.err = 0 := by
    by_cases h9 : (fR' s).2.err = 0
    · exact h9
    · unfold gS at hs; rw [sizeE_err h9] at hs; exact hs
  have h1 : (fA s).2.err = 0 := by
    by_cases h9 : (fA s).2.err = 0
    · exact h9
    · unfold fR' at h2; rw [sizeE_err h9] at h2; exact h2
  obtain ⟨a0, a1, a2, a3⟩ := sizeE_ok hb h1
  have b1 := hb.right a3
  obtain ⟨_, r1, r2, r3⟩ := sizeE_ok (s := (fA s).2) b1 h2
  have b2 := b1.right r3
  obtain ⟨_, s1, s2, s3⟩ := sizeE_ok (s := (fR' s).2) b2 hs
  have b2' := b2.right s3
  obtain ⟨_, n1, n2, n3, _⟩ := nblkE_ok (s := gC s) (by rw [hC]; exact b2') h4
  have n3' : (gS s).2.rest = putS (gN s).1.toNat ++ (gN s).2.rest := by rw [← hC]; exact n3
  have b3 : Byt (gN s).2.rest := b2'.right n3'
  obtain ⟨_, k2, k3, k4, k5, k6⟩ := mblksE_ok (regs := (fR' s).1) (slots := (gS s).1) (n := (gN s).1) (gN s).1.toNat 0 (gN s).2 b3 h5
  have hl : (gB s).1.length = (gN s).1.toNat := k2
  have n1' : 1 ≤ (gN s).1 := n1
  have hn : (gN s).1 = ((gB s).1.length : Int) := by omega
  have n2' : (gN s).1 ≤ 1048576 := n2
  have r1' : 0 ≤ (fR' s).1 := r1
  have r2' : (fR' s).1 ≤ 1048576 := r2
  have s2' : (gS s).1 ≤ 1048576 := s2
  have a1' : 0 ≤ (fA s).1 := a1
  have k3' : (mcodeN (gB s).1 : Int) ≤ 1048576 := by have : (0 : Int) + (mcodeN (gB s).1 : Int) ≤ 1048576 := k3 (by decide); omega
  have k4' : eMBs (fR' s).1 (gS s).1 (gN s).1 (gB s).1 = 0 := k4
  refine ⟨a0, ?_, k5, ?_, a1', r2', s2', by dsimp only; omega⟩
  · have hz : eMSz (fA s).1 (fR' s).1 (gS s).1 (gB s).1 = 0 := by
      unfold eMSz
      rw [if_neg (by omega), if_neg (by omega), if_neg (by omega), if_neg (by omega), if_neg (by omega)]
    unfold eMF
    dsimp only
    rw [if_pos hz, ← hn]
    exact k4'
  · show s.rest = (putS _ ++ (putS _ ++ (putS _ ++ (putS (gB s).1.length ++ encMBs _)))) ++ _
    rw [hl]
    simp only [List.append_assoc]
    have k6' : (gN s).2.rest = encMBs (gB s).1 ++ (gB s).2.rest := k6
    have s3' : (fR' s).2.rest = putS (gS s).1.toNat ++ (gS s).2.rest := s3
    have r3' : (fA s).2.rest = putS (fR' s).1.toNat ++ (fR' s).2.rest := r3
    rw [← k6', ← n3', ← s3', ← r3']
    exact a3

end Go.Proofs.YtkapmfopfddmbaaGreat

/-
  The reference of layer 18: Size, Fail, Count, blocks, code (made by wip/lab/genfcnum.py).
-/
namespace Go.Proofs.YtkapmfopfddmbaaGreat
open Go.RowKit
set_option linter.unusedVariables false
set_option linter.unusedSimpArgs false

theorem two_rows18 (w : World) (T : TypeId) (x y : Array Value) : Below w.heap.size w ((w.alloc (.cells x T)).alloc (.cells y T)) ∧ Row ((w.alloc (.cells x T)).alloc (.cells y T)) w.heap.size T x ∧ Row ((w.alloc (.cells x T)).alloc (.cells y T)) (w.heap.size + 1) T y := by
  have hR := Row.new (w.alloc (.cells x T)) T y
  rw [show (w.alloc (.cells x T)).heap.size = w.heap.size + 1 by simp] at hR
  exact ⟨((Below.refl w.heap.size w).alloc (Nat.le_refl _) _).alloc (by simp) _, (Row.new w T x).alloc _, hR⟩

/-- What Fail returns. -/
def RF (w : World) (B : Nat) (t : Ip) (e : Ending) (w' : World) : Prop :=
  ∃ A' c', e = .returned (.agg #[.slice A' t.rest.length c', .int .i64 t.err]) ∧ IpV w' B A' c' t ∧ Below w.heap.size w w'

theorem numE_rng18 {bd why : Int} {s : Ip} (hb : 0 < bd) : 0 ≤ (numE bd why s).1 ∧ (numE bd why s).1 < bd := by
  unfold numE
  split
  · exact ⟨Int.le_refl _, hb⟩
  · split
    · exact ⟨Int.le_refl _, hb⟩
    · split
      · exact ⟨Int.le_refl _, hb⟩
      · exact ⟨by dsimp only; omega, by dsimp only; omega⟩

theorem sizeE_rng {s : Ip} : 0 ≤ (sizeE s).1 ∧ (sizeE s).1 ≤ 1048576 := by
  have := numE_rng18 (bd := 1048577) (why := 6) (s := s) (by decide)
  unfold sizeE
  omega

theorem cntE_rng {k : Int} {s : Ip} : 0 ≤ (cntE k s).1 ∧ (cntE k s).1 ≤ 1048576 := by
  unfold cntE
  split
  · exact ⟨Int.le_refl _, (by show (0 : Int) ≤ 1048576; decide)⟩
  · exact sizeE_rng

end Go.Proofs.YtkapmfopfddmbaaGreat
