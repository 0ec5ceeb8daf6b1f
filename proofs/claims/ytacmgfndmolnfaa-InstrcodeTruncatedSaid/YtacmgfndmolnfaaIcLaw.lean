/-
  What layer 17 reads is what it writes, as facts on data.
-/
import Derived.Test.YtacmgfndmolnfaaPk1
namespace Go.Proofs.Ytacmgfndmolnfaa
open Go.RowKit
set_option linter.unusedVariables false

/-- A valid instruction's fields. -/
structure MOk (regs n : Int) (m : Mi) : Prop where
  r1 : fR regs (uD m.op, m.d) = true
  r2 : fR regs (uA m.op, m.a) = true
  r3 : fR regs (uB m.op, m.b) = true
  z1 : fZ (uD m.op, m.d) = true
  z2 : fZ (uA m.op, m.a) = true
  z3 : fZ (uB m.op, m.b) = true
  z4 : fZ (m.op == 1, m.imm) = true
  l1 : ((m.op == 18) = true → locS m.dst regs n = true) ∧ ((m.op == 18) = false → m.dst = 0)
  l2 : ((m.op == 18) = true → locS m.src regs n = true) ∧ ((m.op == 18) = false → m.src = 0)
  l3 : (m.op == 18) = true → ¬ (m.dst % 2 = 1 ∧ m.src % 2 = 1)

theorem fZ_iff {b : Bool} {v : Int} : fZ (b, v) = true ↔ (b = false → v = 0) := by cases b <;> simp [fZ]
theorem fR_iff {b : Bool} {n v : Int} : fR n (b, v) = true ↔ (b = true → 0 ≤ v ∧ v < n) := by cases b <;> simp [fR]

theorem eM_iff {regs n : Int} {m : Mi} : eM m regs n = 0 ↔ (1 ≤ m.op ∧ m.op ≤ 18 ∧ m.op ≠ 2) ∧ MOk regs n m := by
  have ho : mopc m.op = true ↔ 1 ≤ m.op ∧ m.op ≤ 18 ∧ m.op ≠ 2 := by
    simp [mopc, uO]
    omega
  unfold eM
  by_cases h0 : mopc m.op = true
  · rw [if_pos h0]
    have h1 := ho.1 h0
    by_cases h2 : m.mv = true
    · rw [if_pos h2]
      have h3 : m.op = 18 := by simpa [Mi.mv] using h2
      have e1 : uD m.op = false := by simp [uD, h3]
      have e2 : uA m.op = false := by simp [uA, h3]
      have e3 : uB m.op = false := by simp [uB, h3]
      have e4 : (m.op == 1) = false := by simp [h3]
      have e5 : (m.op == 18) = true := by simp [h3]
      unfold eMv
      constructor
      · intro h
        have hb : m.bad regs n = false := by
          rcases hh : m.bad regs n with _ | _
          · rfl
          · rw [hh] at h; simp at h
        have hz : m.zf = false := by
          rcases hh : m.zf with _ | _
          · rfl
          · rw [hb, hh] at h; simp at h
        simp only [Mi.bad, Bool.or_eq_false_iff, Bool.not_eq_false', Bool.and_eq_false_iff, decide_eq_false_iff_not] at hb
        simp only [Mi.zf, Bool.or_eq_false_iff, bne_eq_false_iff_eq] at hz
        obtain ⟨⟨b1, b2⟩, b3⟩ := hb
        obtain ⟨⟨⟨z1, z2⟩, z3⟩, z4⟩ := hz
        exact ⟨h1, fR_iff.2 (by rw [e1]; simp), fR_iff.2 (by rw [e2]; simp), fR_iff.2 (by rw [e3]; simp), fZ_iff.2 fun _ => z1, fZ_iff.2 fun _ => z2, fZ_iff.2 fun _ => z3, fZ_iff.2 fun _ => z4,
          ⟨fun _ => b1, by rw [e5]; simp⟩, ⟨fun _ => b2, by rw [e5]; simp⟩, fun _ hh => b3.elim (fun g => g hh.1) (fun g => g hh.2)⟩
      · rintro ⟨_, hm⟩
        have z1 := fZ_iff.1 hm.z1 e1
        have z2 := fZ_iff.1 hm.z2 e2
        have z3 := fZ_iff.1 hm.z3 e3
        have z4 := fZ_iff.1 hm.z4 e4
        have hb : m.bad regs n = false := by
          simp only [Mi.bad, hm.l1.1 e5, hm.l2.1 e5, Bool.not_true, Bool.false_or, Bool.and_eq_false_iff, decide_eq_false_iff_not]
          have := hm.l3 e5
          omega
        have hz : m.zf = false := by simp [Mi.zf, z1, z2, z3, z4]
        rw [hb, hz]
        rfl
    · rw [if_neg h2]
      have h3 : m.op ≠ 18 := by simpa [Mi.mv] using h2
      have e5 : (m.op == 18) = false := by simp [h3]
      have hs : srcO m.ins.op = true := by
        show (uO m.op && !(m.op == 18)) = true
        simp [uO, h3]
        omega
      have hi : uI m.op = (m.op == 1) := by
        unfold uI
        by_cases h9 : m.op = 1 <;> simp [h9]
      unfold eOt eI
      rw [if_pos hs]
      have hR : okR regs m.ins.regF = true ↔ fR regs (uD m.op, m.d) = true ∧ fR regs (uA m.op, m.a) = true ∧ fR regs (uB m.op, m.b) = true := by
        show ([(uD m.op, m.d), (uA m.op, m.a), (uB m.op, m.b)].all (fR regs)) = true ↔ _
        simp [List.all]
      have hZ : okZ m.ins.allF = true ↔ fZ (uD m.op, m.d) = true ∧ fZ (uA m.op, m.a) = true ∧ fZ (uB m.op, m.b) = true ∧ fZ (m.op == 1, m.imm) = true := by
        show ([(uD m.op, m.d), (uA m.op, m.a), (uB m.op, m.b), (uI m.op, m.imm)].all fZ) = true ↔ _
        rw [hi]
        simp [List.all]
      constructor
      · intro h
        by_cases hr : okR regs m.ins.regF = true
        · rw [if_pos hr] at h
          by_cases hz : okZ m.ins.allF = true
          · rw [if_pos hz] at h
            have hd : (m.dst != 0 || m.src != 0) = false := by
              rcases hh : (m.dst != 0 || m.src != 0) with _ | _
              · rfl
              · rw [hh] at h; simp at h
            simp only [Bool.or_eq_false_iff, bne_eq_false_iff_eq] at hd
            obtain ⟨a1, a2, a3⟩ := hR.1 hr
            obtain ⟨b1, b2, b3, b4⟩ := hZ.1 hz
            exact ⟨h1, a1, a2, a3, b1, b2, b3, b4, ⟨by rw [e5]; simp, fun _ => hd.1⟩, ⟨by rw [e5]; simp, fun _ => hd.2⟩, by rw [e5]; simp⟩
          · rw [if_neg hz] at h; simp at h
        · rw [if_neg hr] at h; simp at h
      · rintro ⟨_, hm⟩
        rw [if_pos (hR.2 ⟨hm.r1, hm.r2, hm.r3⟩), if_pos (hZ.2 ⟨hm.z1, hm.z2, hm.z3, hm.z4⟩), hm.l1.2 e5, hm.l2.2 e5]
        rfl
  · rw [if_neg h0]
    exact ⟨fun h => by simp at h, fun h => absurd (ho.2 h.1) h0⟩

/-- A source instruction. -/
theorem eI_iff {regs n : Int} {m : Mi} (hd : m.dst = 0) (hs : m.src = 0) : eI m.ins regs = 0 ↔ (1 ≤ m.op ∧ m.op ≤ 17) ∧ MOk regs n m := by
  have hi : uI m.op = (m.op == 1) := by
    unfold uI
    by_cases h9 : m.op = 1 <;> simp [h9]
  have hR : okR regs m.ins.regF = true ↔ fR regs (uD m.op, m.d) = true ∧ fR regs (uA m.op, m.a) = true ∧ fR regs (uB m.op, m.b) = true := by
    show ([(uD m.op, m.d), (uA m.op, m.a), (uB m.op, m.b)].all (fR regs)) = true ↔ _
    simp [List.all]
  have hZ : okZ m.ins.allF = true ↔ fZ (uD m.op, m.d) = true ∧ fZ (uA m.op, m.a) = true ∧ fZ (uB m.op, m.b) = true ∧ fZ (m.op == 1, m.imm) = true := by
    show ([(uD m.op, m.d), (uA m.op, m.a), (uB m.op, m.b), (uI m.op, m.imm)].all fZ) = true ↔ _
    rw [hi]
    simp [List.all]
  have hO : srcO m.ins.op = true ↔ 1 ≤ m.op ∧ m.op ≤ 17 := by
    show (uO m.op && !(m.op == 18)) = true ↔ _
    simp [uO]
    omega
  unfold eI
  constructor
  · intro h
    by_cases ho : srcO m.ins.op = true
    · rw [if_pos ho] at h
      by_cases hr : okR regs m.ins.regF = true
      · rw [if_pos hr] at h
        by_cases hz : okZ m.ins.allF = true
        · obtain ⟨a1, a2, a3⟩ := hR.1 hr
          obtain ⟨b1, b2, b3, b4⟩ := hZ.1 hz
          have e5 : (m.op == 18) = false := by
            have := hO.1 ho
            simp
            omega
          exact ⟨hO.1 ho, a1, a2, a3, b1, b2, b3, b4, ⟨by rw [e5]; simp, fun _ => hd⟩, ⟨by rw [e5]; simp, fun _ => hs⟩, by rw [e5]; simp⟩
        · rw [if_neg hz] at h; simp at h
      · rw [if_neg hr] at h; simp at h
    · rw [if_neg ho] at h; simp at h
  · rintro ⟨ho, hm⟩
    rw [if_pos (hO.2 ho), if_pos (hR.2 ⟨hm.r1, hm.r2, hm.r3⟩), if_pos (hZ.2 ⟨hm.z1, hm.z2, hm.z3, hm.z4⟩)]

theorem ReadOk.mok {op regs n : Int} {s t : Ip} {m : Mi} (h : ReadOk op regs n s m t) : MOk regs n m := by
  have e := h.op_
  subst e
  exact ⟨h.r1, h.r2, h.r3, h.z1, h.z2, h.z3, h.z4, h.l1, h.l2, h.l3⟩
/-- What is decoded is valid, and is encoded as it was. -/
theorem machE_ok {regs n : Int} {l : List Nat} (hb : Byt l) (h : (machE regs n ⟨l, 0⟩).2.err = 0) :
    eM (machE regs n ⟨l, 0⟩).1 regs n = 0 ∧ InI (machE regs n ⟨l, 0⟩).1.imm ∧ l = encM (machE regs n ⟨l, 0⟩).1 ++ (machE regs n ⟨l, 0⟩).2.rest := by
  unfold machE at *
  by_cases h0 : (firstE 18 2 8 ⟨l, 0⟩).2.err ≠ 0
  · rw [if_pos h0] at h; exact absurd h h0
  · rw [if_neg h0] at *
    obtain ⟨_, p1, p2, p3, p4, p5⟩ := firstE_ok (most := 18) (nt := 2) (why := 8) (s := ⟨l, 0⟩) hb (by decide) (by omega)
    have hb2 : Byt (firstE 18 2 8 ⟨l, 0⟩).2.rest := Byt.tail (l := [(firstE 18 2 8 ⟨l, 0⟩).1.toNat]) (by rw [List.singleton_append, ← p5]; exact hb)
    have hr := readE_ok hb2 h
    refine ⟨eM_iff.2 ⟨by rw [hr.op_]; exact ⟨p1, p2, p3⟩, hr.mok⟩, hr.i4, ?_⟩
    have p5 : l = (firstE 18 2 8 ⟨l, 0⟩).1.toNat :: (firstE 18 2 8 ⟨l, 0⟩).2.rest := p5
    have hby := hr.bytes
    rw [hby] at p5
    refine p5.trans ?_
    unfold encM
    rw [hr.op_, List.cons_append]
theorem instrE_ok {regs : Int} {l : List Nat} (hb : Byt l) (h : (instrE regs ⟨l, 0⟩).2.err = 0) :
    eI (instrE regs ⟨l, 0⟩).1.ins regs = 0 ∧ InI (instrE regs ⟨l, 0⟩).1.imm ∧ l = encM (instrE regs ⟨l, 0⟩).1 ++ (instrE regs ⟨l, 0⟩).2.rest ∧ (instrE regs ⟨l, 0⟩).1.dst = 0 ∧ (instrE regs ⟨l, 0⟩).1.src = 0 := by
  unfold instrE at *
  by_cases h0 : (firstE 17 0 8 ⟨l, 0⟩).2.err ≠ 0
  · rw [if_pos h0] at h; exact absurd h h0
  · rw [if_neg h0] at *
    obtain ⟨_, p1, p2, p3, p4, p5⟩ := firstE_ok (most := 17) (nt := 0) (why := 8) (s := ⟨l, 0⟩) hb (by decide) (by omega)
    have hb2 : Byt (firstE 17 0 8 ⟨l, 0⟩).2.rest := Byt.tail (l := [(firstE 17 0 8 ⟨l, 0⟩).1.toNat]) (by rw [List.singleton_append, ← p5]; exact hb)
    have hr := readE_ok hb2 h
    have e5 : ((firstE 17 0 8 ⟨l, 0⟩).1 == 18) = false := by simp; omega
    have hd := hr.l1.2 e5
    have hs := hr.l2.2 e5
    refine ⟨(eI_iff hd hs).2 ⟨by rw [hr.op_]; exact ⟨p1, p2⟩, hr.mok⟩, hr.i4, ?_, hd, hs⟩
    have p5 : l = (firstE 17 0 8 ⟨l, 0⟩).1.toNat :: (firstE 17 0 8 ⟨l, 0⟩).2.rest := p5
    have hby := hr.bytes
    rw [hby] at p5
    refine p5.trans ?_
    unfold encM
    rw [hr.op_, List.cons_append]

/-- A step that reads the piece p as v, and has too few bytes at each proper prefix of it. -/
structure Cuts (f : Ip → Int × Ip) (p : List Nat) (v : Int) : Prop where
  get : ∀ q, f ⟨p ++ q, 0⟩ = (v, ⟨q, 0⟩)
  cut : ∀ j, j < p.length → f ⟨p.take j, 0⟩ = (0, ⟨[], 1⟩)
  err : ∀ s : Ip, s.err ≠ 0 → f s = (0, s)
theorem Cuts.at_ {f : Ip → Int × Ip} {p : List Nat} {v : Int} (h : Cuts f p v) (q : List Nat) (j : Nat) :
    (j < p.length ∧ f ⟨(p ++ q).take j, 0⟩ = (0, ⟨[], 1⟩)) ∨ (p.length ≤ j ∧ f ⟨(p ++ q).take j, 0⟩ = (v, ⟨q.take (j - p.length), 0⟩)) := by
  by_cases hj : j < p.length
  · refine .inl ⟨hj, ?_⟩
    rw [List.take_append_of_le_length (by omega)]
    exact h.cut j hj
  · refine .inr ⟨by omega, ?_⟩
    rw [List.take_append, List.take_of_length_le (by omega)]
    exact h.get _
theorem numE_cuts {bd why v : Int} (h0 : 0 ≤ v) (h1 : v < bd) (h2 : v ≤ 18446744073709551615) : Cuts (numE bd why) (putS v.toNat) v := by
  refine ⟨fun q => ?_, fun j hj => ?_, fun s hs => numE_err hs⟩
  · have e := getS_putS v.toNat q (by omega)
    unfold numE
    rw [if_neg (by simp)]
    dsimp only
    rw [e]
    rw [if_neg (by simp), if_neg (by dsimp only; omega)]
    dsimp only
    rw [List.drop_left, Int.toNat_of_nonneg h0]
  · have e := getS_prefix v.toNat j hj
    unfold numE
    rw [if_neg (by simp)]
    dsimp only
    rw [e]
    rw [if_pos (by simp)]
    rfl
theorem optE_cuts {b : Bool} {bd why v : Int} (h : fR bd (b, v) = true) (hz : fZ (b, v) = true) (h2 : bd ≤ 18446744073709551615) : Cuts (optE b bd why) (encO b v) v := by
  cases b
  · have e := fZ_iff.1 hz rfl
    subst e
    exact ⟨fun q => rfl, fun j hj => by simp [encO] at hj, fun s hs => optE_err hs⟩
  · obtain ⟨k1, k2⟩ := fR_iff.1 h rfl
    have hc := numE_cuts (why := why) k1 k2 (by omega)
    exact ⟨hc.get, hc.cut, hc.err⟩
theorem immE_cuts {b : Bool} {v : Int} (hz : fZ (b, v) = true) (hv : InI v) : Cuts (immE b) (encO b (zz v)) v := by
  cases b
  · have e := fZ_iff.1 hz rfl
    subst e
    exact ⟨fun q => by simp [immE, encO], fun j hj => by simp [encO] at hj, fun s hs => immE_err hs⟩
  · have hu := zz_in hv
    refine ⟨fun q => ?_, fun j hj => ?_, fun s hs => immE_err hs⟩
    · have e := getS_putS (zz v).toNat q (by unfold InU at hu; omega)
      unfold immE encO
      rw [if_pos ⟨rfl, rfl⟩, if_pos rfl]
      dsimp only
      rw [e]
      rw [if_neg (by simp)]
      dsimp only
      rw [List.drop_left, Int.toNat_of_nonneg hu.1, uz_zz]
    · have e := getS_prefix (zz v).toNat j (by simpa [encO] using hj)
      unfold immE encO
      rw [if_pos ⟨rfl, rfl⟩, if_pos rfl]
      dsimp only
      rw [e]
      rw [if_pos (by simp)]
      rfl
theorem locS_max {l r n : Int} (h : locS l r n = true) (hr : r ≤ 1000000000) (hn : n ≤ 1000000000) : l < 4611686018427387904 := by
  unfold locS at h
  split at h
  · cases h
  · split at h
    · have := of_decide_eq_true h; omega
    · have := of_decide_eq_true h; omega
theorem olocE_cuts {b : Bool} {r n v : Int} (h : (b = true → locS v r n = true) ∧ (b = false → v = 0)) (hr : r ≤ 1000000000) (hn : n ≤ 1000000000) : Cuts (olocE b r n) (encO b v) v := by
  cases b
  · have e := h.2 rfl
    subst e
    exact ⟨fun q => by simp [olocE, encO], fun j hj => by simp [encO] at hj, fun s hs => olocE_err hs⟩
  · have hl := h.1 rfl
    have h0 := locS_nn hl
    have h1 := locS_max hl hr hn
    have hc := numE_cuts (bd := 4611686018427387904) (why := 10) h0 h1 (by omega)
    refine ⟨fun q => ?_, fun j hj => ?_, fun s hs => olocE_err hs⟩
    · have e := hc.get q
      unfold olocE encO locE
      rw [if_pos ⟨rfl, rfl⟩, if_pos rfl, e]
      rw [if_neg (by rw [hl]; simp)]
    · have e := hc.cut j (by simpa [encO] using hj)
      unfold olocE encO locE
      rw [if_pos ⟨rfl, rfl⟩, if_pos rfl, e]
      rw [if_neg (by simp)]

/-- The fields behind the opcode. -/
def encF (m : Mi) : List Nat := encO (uD m.op) m.d ++ (encO (uA m.op) m.a ++ (encO (uB m.op) m.b ++ (encO (m.op == 1) (zz m.imm) ++ (encO (m.op == 18) m.dst ++ encO (m.op == 18) m.src))))
theorem encM_eq (m : Mi) : encM m = m.op.toNat :: encF m := rfl

theorem readE_err {op regs n : Int} {s : Ip} (h : s.err ≠ 0) : readE op regs n s = (Mi0, s) := by
  have h1 : dE op regs s = (0, s) := optE_err h
  have h2 : aE op regs s = (0, s) := by unfold aE; rw [h1]; exact optE_err h
  have h3 : bE op regs s = (0, s) := by unfold bE; rw [h2]; exact optE_err h
  have h4 : iE op regs s = (0, s) := by unfold iE; rw [h3]; exact immE_err h
  have h5 : xE op regs n s = (0, s) := by unfold xE; rw [h4]; exact olocE_err h
  have h6 : yE op regs n s = (0, s) := by unfold yE; rw [h5]; exact olocE_err h
  have h7 : zE op regs n s = s := by unfold zE; rw [h6]; exact twoE_err h
  unfold readE
  rw [h7, if_pos h]
theorem readE_at {regs n : Int} {m : Mi} (hm : MOk regs n m) (hi : InI m.imm) (hr : regs ≤ 1000000000) (hn : n ≤ 1000000000) (q : List Nat) (j : Nat) :
    (j < (encF m).length ∧ readE m.op regs n ⟨(encF m ++ q).take j, 0⟩ = (Mi0, ⟨[], 1⟩)) ∨ ((encF m).length ≤ j ∧ readE m.op regs n ⟨(encF m ++ q).take j, 0⟩ = (m, ⟨q.take (j - (encF m).length), 0⟩)) := by
  have C1 := optE_cuts (why := 9) hm.r1 hm.z1 (by omega)
  have C2 := optE_cuts (why := 9) hm.r2 hm.z2 (by omega)
  have C3 := optE_cuts (why := 9) hm.r3 hm.z3 (by omega)
  have C4 := immE_cuts hm.z4 hi
  have C5 := olocE_cuts hm.l1 hr hn
  have C6 := olocE_cuts hm.l2 hr hn
  have E : (⟨[], 1⟩ : Ip).err ≠ 0 := by decide
  generalize hp1 : encO (uD m.op) m.d = p1 at *
  generalize hp2 : encO (uA m.op) m.a = p2 at *
  generalize hp3 : encO (uB m.op) m.b = p3 at *
  generalize hp4 : encO (m.op == 1) (zz m.imm) = p4 at *
  generalize hp5 : encO (m.op == 18) m.dst = p5 at *
  generalize hp6 : encO (m.op == 18) m.src = p6 at *
  have hF : encF m = p1 ++ (p2 ++ (p3 ++ (p4 ++ (p5 ++ p6)))) := by unfold encF; rw [hp1, hp2, hp3, hp4, hp5, hp6]
  have hl : (encF m).length = p1.length + p2.length + p3.length + p4.length + p5.length + p6.length := by rw [hF]; simp only [List.length_append]; omega
  have hA : encF m ++ q = p1 ++ (p2 ++ (p3 ++ (p4 ++ (p5 ++ (p6 ++ q))))) := by rw [hF]; simp only [List.append_assoc]
  rw [hA, hl]
  obtain ⟨s, hs⟩ : ∃ s : Ip, s = ⟨(p1 ++ (p2 ++ (p3 ++ (p4 ++ (p5 ++ (p6 ++ q)))))).take j, 0⟩ := ⟨_, rfl⟩
  rw [← hs]
  have bad : ∀ x : Ip, x.err ≠ 0 → zE m.op regs n s = x → readE m.op regs n s = (Mi0, x) := fun x hx hz => by unfold readE; rw [hz, if_pos hx]
  have z7 : ∀ x : Ip, x.err ≠ 0 → (yE m.op regs n s).2 = x → zE m.op regs n s = x := fun x hx hy => by unfold zE; rw [hy]; exact twoE_err hx
  have z6 : ∀ x : Ip, x.err ≠ 0 → (xE m.op regs n s).2 = x → zE m.op regs n s = x := fun x hx hy => z7 x hx (by unfold yE; rw [hy, olocE_err hx])
  have z5 : ∀ x : Ip, x.err ≠ 0 → (iE m.op regs s).2 = x → zE m.op regs n s = x := fun x hx hy => z6 x hx (by unfold xE; rw [hy, olocE_err hx])
  have z4 : ∀ x : Ip, x.err ≠ 0 → (bE m.op regs s).2 = x → zE m.op regs n s = x := fun x hx hy => z5 x hx (by unfold iE; rw [hy, immE_err hx])
  have z3 : ∀ x : Ip, x.err ≠ 0 → (aE m.op regs s).2 = x → zE m.op regs n s = x := fun x hx hy => z4 x hx (by unfold bE; rw [hy, optE_err hx])
  have z2 : ∀ x : Ip, x.err ≠ 0 → (dE m.op regs s).2 = x → zE m.op regs n s = x := fun x hx hy => z3 x hx (by unfold aE; rw [hy, optE_err hx])
  rcases C1.at_ (p2 ++ (p3 ++ (p4 ++ (p5 ++ (p6 ++ q))))) j with ⟨g1, e1⟩ | ⟨g1, e1⟩
  · rw [← hs] at e1
    exact .inl ⟨by omega, bad _ E (z2 _ E (by unfold dE; rw [e1]))⟩
  · rw [← hs] at e1
    have e1 : dE m.op regs s = _ := e1
    rcases C2.at_ (p3 ++ (p4 ++ (p5 ++ (p6 ++ q)))) (j - p1.length) with ⟨g2, e2⟩ | ⟨g2, e2⟩
    · exact .inl ⟨by omega, bad _ E (z3 _ E (by unfold aE; rw [e1]; dsimp only; rw [e2]))⟩
    · have e2 : aE m.op regs s = (m.a, ⟨(p3 ++ (p4 ++ (p5 ++ (p6 ++ q)))).take (j - p1.length - p2.length), 0⟩) := by unfold aE; rw [e1]; exact e2
      rcases C3.at_ (p4 ++ (p5 ++ (p6 ++ q))) (j - p1.length - p2.length) with ⟨g3, e3⟩ | ⟨g3, e3⟩
      · exact .inl ⟨by omega, bad _ E (z4 _ E (by unfold bE; rw [e2]; dsimp only; rw [e3]))⟩
      · have e3 : bE m.op regs s = (m.b, ⟨(p4 ++ (p5 ++ (p6 ++ q))).take (j - p1.length - p2.length - p3.length), 0⟩) := by unfold bE; rw [e2]; exact e3
        rcases C4.at_ (p5 ++ (p6 ++ q)) (j - p1.length - p2.length - p3.length) with ⟨g4, e4⟩ | ⟨g4, e4⟩
        · exact .inl ⟨by omega, bad _ E (z5 _ E (by unfold iE; rw [e3]; dsimp only; rw [e4]))⟩
        · have e4 : iE m.op regs s = (m.imm, ⟨(p5 ++ (p6 ++ q)).take (j - p1.length - p2.length - p3.length - p4.length), 0⟩) := by unfold iE; rw [e3]; exact e4
          rcases C5.at_ (p6 ++ q) (j - p1.length - p2.length - p3.length - p4.length) with ⟨g5, e5⟩ | ⟨g5, e5⟩
          · exact .inl ⟨by omega, bad _ E (z6 _ E (by unfold xE; rw [e4]; dsimp only; rw [e5]))⟩
          · have e5 : xE m.op regs n s = (m.dst, ⟨(p6 ++ q).take (j - p1.length - p2.length - p3.length - p4.length - p5.length), 0⟩) := by unfold xE; rw [e4]; exact e5
            rcases C6.at_ q (j - p1.length - p2.length - p3.length - p4.length - p5.length) with ⟨g6, e6⟩ | ⟨g6, e6⟩
            · exact .inl ⟨by omega, bad _ E (z7 _ E (by unfold yE; rw [e5]; dsimp only; rw [e6]))⟩
            · have e6 : yE m.op regs n s = (m.src, ⟨q.take (j - p1.length - p2.length - p3.length - p4.length - p5.length - p6.length), 0⟩) := by unfold yE; rw [e5]; exact e6
              refine .inr ⟨by omega, ?_⟩
              have e7 : zE m.op regs n s = ⟨q.take (j - p1.length - p2.length - p3.length - p4.length - p5.length - p6.length), 0⟩ := by
                unfold zE twoE
                rw [e5, e6]
                dsimp only
                rw [if_neg]
                rintro ⟨h1, _, h2⟩
                exact hm.l3 h1 h2
              unfold readE
              rw [e7, if_neg (by simp), e1, e2, e3, e4, e5, e6]
              rw [show j - (p1.length + p2.length + p3.length + p4.length + p5.length + p6.length) = j - p1.length - p2.length - p3.length - p4.length - p5.length - p6.length by omega]

theorem firstE_put {most nt why v : Int} (h1 : 1 ≤ v) (h2 : v ≤ most) (h3 : v ≠ nt) (q : List Nat) : firstE most nt why ⟨v.toNat :: q, 0⟩ = (v, ⟨q, 0⟩) := by
  unfold firstE
  rw [if_neg (by simp)]
  dsimp only
  rw [Int.toNat_of_nonneg (by omega), if_neg (by omega)]
/-- What is encoded is decoded. -/
theorem machE_put {regs n : Int} {m : Mi} (h : eM m regs n = 0) (hi : InI m.imm) (hr : regs ≤ 1000000000) (hn : n ≤ 1000000000) (q : List Nat) : machE regs n ⟨encM m ++ q, 0⟩ = (m, ⟨q, 0⟩) := by
  obtain ⟨⟨h1, h2, h3⟩, hm⟩ := eM_iff.1 h
  rw [encM_eq, List.cons_append]
  unfold machE
  rw [firstE_put h1 h2 h3, if_neg (by simp)]
  rcases readE_at hm hi hr hn q (encF m ++ q).length with ⟨g, _⟩ | ⟨g, e⟩
  · simp at g
    omega
  · rw [List.take_length] at e
    dsimp only
    rw [e, List.length_append, Nat.add_sub_cancel_left, List.take_length]
theorem instrE_put {regs : Int} {m : Mi} (hd : m.dst = 0) (hs : m.src = 0) (h : eI m.ins regs = 0) (hi : InI m.imm) (hr : regs ≤ 1000000000) (q : List Nat) : instrE regs ⟨encM m ++ q, 0⟩ = (m, ⟨q, 0⟩) := by
  obtain ⟨⟨h1, h2⟩, hm⟩ := (eI_iff (n := 0) hd hs).1 h
  rw [encM_eq, List.cons_append]
  unfold instrE
  rw [firstE_put h1 h2 (by omega), if_neg (by simp)]
  rcases readE_at hm hi hr (by omega) q (encF m ++ q).length with ⟨g, _⟩ | ⟨g, e⟩
  · simp at g
    omega
  · rw [List.take_length] at e
    dsimp only
    rw [e, List.length_append, Nat.add_sub_cancel_left, List.take_length]
/-- What is cut off is rejected. -/
theorem machE_cut {regs n : Int} {m : Mi} (h : eM m regs n = 0) (hi : InI m.imm) (hr : regs ≤ 1000000000) (hn : n ≤ 1000000000) {j : Nat} (hj : j < (encM m).length) : machE regs n ⟨(encM m).take j, 0⟩ = (Mi0, ⟨[], 1⟩) := by
  obtain ⟨⟨h1, h2, h3⟩, hm⟩ := eM_iff.1 h
  rw [encM_eq] at hj ⊢
  rcases j with _ | j
  · rfl
  · rw [List.take_succ_cons]
    unfold machE
    rw [firstE_put h1 h2 h3, if_neg (by simp)]
    have hj : j < (encF m).length := by simpa using hj
    rcases readE_at hm hi hr hn [] j with ⟨g, e⟩ | ⟨g, _⟩
    · rw [List.append_nil] at e
      exact e
    · omega

/-- Terminators. -/
theorem eT_iff {t : Tm} {regs n : Int} : eT t regs n = 0 ↔ (1 ≤ t.kind ∧ t.kind ≤ 3) ∧ fR regs (t.kind != 1, t.a) = true ∧ fR n (t.kind != 3, t.to) = true ∧ fR n (t.kind == 2, t.el) = true ∧ fZ (t.kind != 1, t.a) = true ∧ fZ (t.kind != 3, t.to) = true ∧ fZ (t.kind == 2, t.el) = true := by
  have hk : kO t.kind = true ↔ 1 ≤ t.kind ∧ t.kind ≤ 3 := by
    simp [kO]
    omega
  have hA : okR regs t.aF = true ↔ fR regs (t.kind != 1, t.a) = true := by simp [okR, Tm.aF, List.all]
  have hT : okR n t.toF = true ↔ fR n (t.kind != 3, t.to) = true ∧ fR n (t.kind == 2, t.el) = true := by simp [okR, Tm.toF, List.all]
  have hZ : okZ t.allF = true ↔ fZ (t.kind != 1, t.a) = true ∧ fZ (t.kind != 3, t.to) = true ∧ fZ (t.kind == 2, t.el) = true := by simp [okZ, Tm.allF, List.all]
  unfold eT
  constructor
  · intro h
    by_cases h1 : kO t.kind = true
    · rw [if_pos h1] at h
      by_cases h2 : okR regs t.aF = true
      · rw [if_pos h2] at h
        by_cases h3 : okR n t.toF = true
        · rw [if_pos h3] at h
          by_cases h4 : okZ t.allF = true
          · exact ⟨hk.1 h1, hA.1 h2, (hT.1 h3).1, (hT.1 h3).2, hZ.1 h4⟩
          · rw [if_neg h4] at h; simp at h
        · rw [if_neg h3] at h; simp at h
      · rw [if_neg h2] at h; simp at h
    · rw [if_neg h1] at h; simp at h
  · rintro ⟨h1, h2, h3, h4, h5⟩
    rw [if_pos (hk.2 h1), if_pos (hA.2 h2), if_pos (hT.2 ⟨h3, h4⟩), if_pos (hZ.2 h5)]
theorem termE_ok {regs n : Int} {l : List Nat} (hb : Byt l) (h : (termE regs n ⟨l, 0⟩).2.err = 0) :
    eT (termE regs n ⟨l, 0⟩).1 regs n = 0 ∧ l = encT (termE regs n ⟨l, 0⟩).1 ++ (termE regs n ⟨l, 0⟩).2.rest := by
  have he0 : (teE regs n ⟨l, 0⟩).2.err = 0 := by
    unfold termE at h
    by_cases h0 : (teE regs n ⟨l, 0⟩).2.err ≠ 0
    · rw [if_pos h0] at h; exact h
    · omega
  have hv : termE regs n ⟨l, 0⟩ = (⟨(tkE ⟨l, 0⟩).1, (taE regs ⟨l, 0⟩).1, (ttE regs n ⟨l, 0⟩).1, (teE regs n ⟨l, 0⟩).1⟩, (teE regs n ⟨l, 0⟩).2) := by
    unfold termE
    rw [if_neg (by omega)]
  rw [hv]
  have ht0 : (ttE regs n ⟨l, 0⟩).2.err = 0 := by
    by_cases h9 : (ttE regs n ⟨l, 0⟩).2.err = 0
    · exact h9
    · unfold teE at he0; rw [optE_err h9] at he0; exact he0
  have ha0 : (taE regs ⟨l, 0⟩).2.err = 0 := by
    by_cases h9 : (taE regs ⟨l, 0⟩).2.err = 0
    · exact h9
    · unfold ttE at ht0; rw [optE_err h9] at ht0; exact ht0
  have hk0 : (tkE ⟨l, 0⟩).2.err = 0 := by
    by_cases h9 : (tkE ⟨l, 0⟩).2.err = 0
    · exact h9
    · unfold taE at ha0; rw [optE_err h9] at ha0; exact ha0
  obtain ⟨_, p1, p2, p3, p4, p5⟩ := firstE_ok (most := 3) (nt := 0) (why := 16) (s := ⟨l, 0⟩) hb (by decide) hk0
  have f0 : l = (tkE ⟨l, 0⟩).1.toNat :: (tkE ⟨l, 0⟩).2.rest := p5
  have b0 : Byt (tkE ⟨l, 0⟩).2.rest := Byt.tail (l := [(tkE ⟨l, 0⟩).1.toNat]) (by rw [List.singleton_append, ← f0]; exact hb)
  obtain ⟨_, r1, z1, _, e1⟩ := optE_ok (b := (tkE ⟨l, 0⟩).1 != 1) b0 (by decide) ha0
  have f1 : (tkE ⟨l, 0⟩).2.rest = encO ((tkE ⟨l, 0⟩).1 != 1) (taE regs ⟨l, 0⟩).1 ++ (taE regs ⟨l, 0⟩).2.rest := e1
  have b1 : Byt (taE regs ⟨l, 0⟩).2.rest := Byt.tail (l := encO ((tkE ⟨l, 0⟩).1 != 1) (taE regs ⟨l, 0⟩).1) (by rw [← f1]; exact b0)
  obtain ⟨_, r2, z2, _, e2⟩ := optE_ok (b := (tkE ⟨l, 0⟩).1 != 3) b1 (by decide) ht0
  have f2 : (taE regs ⟨l, 0⟩).2.rest = encO ((tkE ⟨l, 0⟩).1 != 3) (ttE regs n ⟨l, 0⟩).1 ++ (ttE regs n ⟨l, 0⟩).2.rest := e2
  have b2 : Byt (ttE regs n ⟨l, 0⟩).2.rest := Byt.tail (l := encO ((tkE ⟨l, 0⟩).1 != 3) (ttE regs n ⟨l, 0⟩).1) (by rw [← f2]; exact b1)
  obtain ⟨_, r3, z3, _, e3⟩ := optE_ok (b := (tkE ⟨l, 0⟩).1 == 2) b2 (by decide) he0
  have f3 : (ttE regs n ⟨l, 0⟩).2.rest = encO ((tkE ⟨l, 0⟩).1 == 2) (teE regs n ⟨l, 0⟩).1 ++ (teE regs n ⟨l, 0⟩).2.rest := e3
  refine ⟨eT_iff.2 ⟨⟨p1, p2⟩, r1, r2, r3, z1, z2, z3⟩, ?_⟩
  refine f0.trans ?_
  rw [f1, f2, f3]
  simp only [encT, List.cons_append, List.append_assoc]
theorem termE_put {regs n : Int} {t : Tm} (h : eT t regs n = 0) (hr : regs ≤ 1000000000) (hn : n ≤ 1000000000) (q : List Nat) : termE regs n ⟨encT t ++ q, 0⟩ = (t, ⟨q, 0⟩) := by
  obtain ⟨⟨k1, k2⟩, r1, r2, r3, z1, z2, z3⟩ := eT_iff.1 h
  have C1 := optE_cuts (why := 9) r1 z1 (by omega)
  have C2 := optE_cuts (why := 11) r2 z2 (by omega)
  have C3 := optE_cuts (why := 11) r3 z3 (by omega)
  have e0 : tkE ⟨encT t ++ q, 0⟩ = (t.kind, ⟨encO (t.kind != 1) t.a ++ (encO (t.kind != 3) t.to ++ (encO (t.kind == 2) t.el ++ q)), 0⟩) := by
    unfold tkE encT
    rw [List.cons_append, firstE_put k1 k2 (by omega)]
    simp only [List.append_assoc]
  have e1 : taE regs ⟨encT t ++ q, 0⟩ = (t.a, ⟨encO (t.kind != 3) t.to ++ (encO (t.kind == 2) t.el ++ q), 0⟩) := by unfold taE; rw [e0]; exact C1.get _
  have e2 : ttE regs n ⟨encT t ++ q, 0⟩ = (t.to, ⟨encO (t.kind == 2) t.el ++ q, 0⟩) := by unfold ttE; rw [e1, e0]; exact C2.get _
  have e3 : teE regs n ⟨encT t ++ q, 0⟩ = (t.el, ⟨q, 0⟩) := by unfold teE; rw [e2, e0]; exact C3.get _
  unfold termE
  rw [e3, if_neg (by simp), e2, e1, e0]

end Go.Proofs.Ytacmgfndmolnfaa
