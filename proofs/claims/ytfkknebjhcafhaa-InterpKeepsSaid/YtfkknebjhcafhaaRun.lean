/-
  Runs of source functions as data: a step, many steps, and what stays true of them.
-/
import Derived.Test.YtfkknebjhcafhaaSrcIn
import Derived.Test.YtfkknebjhcafhaaSrcMath
import Derived.Test.YtfkknebjhcafhaaAluMath
namespace Go.Proofs.Ytfkknebjhcafhaa
open Go.RowKit
set_option linter.unusedVariables false

structure Rn where
  st : Int
  blk : Nat
  pos : Nat
  val : Int
  regs : List Int
  trace : List Int
  steps : Nat

def rg (l : List Int) (k : Int) : Int := l.getD k.toNat 0
def blkAt (bs : List Blk) (k : Nat) : Blk := bs.getD k ⟨[], ⟨0, 0, 0, 0⟩⟩
/-- Performing an instruction; leaving a block; a step. -/
def perf (i : In) (r : Rn) : Rn :=
  if i.op = 17 then { r with trace := r.trace ++ [rg r.regs i.a], pos := r.pos + 1, steps := r.steps + 1 }
  else if evo i.op (rg r.regs i.b) = true then { r with regs := r.regs.set i.d.toNat (ev i.op (rg r.regs i.a) (rg r.regs i.b) i.imm), pos := r.pos + 1, steps := r.steps + 1 }
  else { r with st := 2 }
def leav (t : Tm) (r : Rn) : Rn :=
  if t.kind = 3 then { r with st := 1, val := rg r.regs t.a, steps := r.steps + 1 }
  else { r with blk := if t.kind = 2 ∧ rg r.regs t.a = 0 then t.el.toNat else t.to.toNat, pos := 0, steps := r.steps + 1 }
def stepR (bs : List Blk) (r : Rn) : Rn :=
  if r.st = 0 then if h : r.pos < (blkAt bs r.blk).code.length then perf ((blkAt bs r.blk).code[r.pos]) r else leav (blkAt bs r.blk).term r else r
def runR (bs : List Blk) (r : Rn) : Nat → Rn
  | 0 => r
  | n + 1 => stepR bs (runR bs r n)
def rn0 (regs : Nat) (args : List Int) : Rn := ⟨0, 0, 0, 0, args ++ List.replicate (regs - args.length) 0, [], 0⟩

/-- What a valid function's instructions and terminators are. -/
def InOk (regs : Nat) (x : In) : Prop := InI x.imm ∧ 0 ≤ x.a ∧ x.a < regs ∧ (x.op = 17 ∨ (¬ x.op = 17 ∧ 0 ≤ x.d ∧ x.d < regs ∧ 0 ≤ x.b ∧ x.b < regs))
def TmOk (regs n : Nat) (t : Tm) : Prop := (t.kind = 1 ∧ 0 ≤ t.to ∧ t.to < n) ∨ (t.kind = 2 ∧ 0 ≤ t.a ∧ t.a < regs ∧ 0 ≤ t.to ∧ t.to < n ∧ 0 ≤ t.el ∧ t.el < n) ∨ (t.kind = 3 ∧ 0 ≤ t.a ∧ t.a < regs)
structure OkF (regs : Nat) (bs : List Blk) : Prop where
  ne : 0 < bs.length
  ins : ∀ b ∈ bs, ∀ i ∈ b.code, InOk regs i
  tm : ∀ b ∈ bs, TmOk regs bs.length b.term
structure Good (regs : Nat) (bs : List Blk) (r : Rn) : Prop where
  blk : r.blk < bs.length
  pos : r.pos ≤ (blkAt bs r.blk).code.length
  len : r.regs.length = regs
  wf : ∀ v ∈ r.regs, InI v
  tr : r.trace.length ≤ r.steps

theorem blkAt_lt {bs : List Blk} {k : Nat} (h : k < bs.length) : blkAt bs k = bs[k] := by simp [blkAt, List.getD, h]
theorem blkAt_mem {bs : List Blk} {k : Nat} (h : k < bs.length) : blkAt bs k ∈ bs := by rw [blkAt_lt h]; exact List.getElem_mem h
theorem rg_mem {l : List Int} {k : Int} (h0 : 0 ≤ k) (h1 : k < l.length) : rg l k ∈ l := by
  have h : k.toNat < l.length := by omega
  simp [rg, List.getD, h]
theorem rg_nat {l : List Int} {k : Nat} (h : k < l.length) : rg l (k : Int) = l[k] := by simp [rg, List.getD, h]

theorem fR_in {n : Int} {b : Bool} {v : Int} (h : fR n (b, v) = true) (hb : b = true) : 0 ≤ v ∧ v < n := by
  subst hb
  simp [fR] at h
  omega
theorem fZ_in {b : Bool} {v : Int} (h : fZ (b, v) = true) (hb : b = false) : v = 0 := by
  subst hb
  simpa [fZ] using h
theorem eI_ok {x : In} {regs : Nat} (h : eI x regs = 0) (hw : x.Wf) : InOk regs x := by
  have hi : InI x.imm := i64_of_wf hw.2.2.2.2
  unfold eI at h
  split at h
  · rename_i hO
    split at h
    · rename_i hR
      split at h
      · rename_i hZ
        simp only [In.regF, okR, List.all_cons, List.all_nil, Bool.and_true, Bool.and_eq_true] at hR
        simp only [In.allF, okZ, List.all_cons, List.all_nil, Bool.and_true, Bool.and_eq_true] at hZ
        obtain ⟨r1, r2, r3⟩ := hR
        obtain ⟨z1, z2, z3, z4⟩ := hZ
        simp [srcO, uO] at hO
        by_cases h17 : x.op = 17
        · have := fR_in r2 (by simp [uA]; omega)
          exact ⟨hi, this.1, this.2, .inl h17⟩
        · have hD := fR_in r1 (by simp [uD]; omega)
          have hA : 0 ≤ x.a ∧ x.a < regs := by
            by_cases hu : uA x.op = true
            · exact fR_in r2 hu
            · have := fZ_in z2 (by simpa using hu); omega
          have hB : 0 ≤ x.b ∧ x.b < regs := by
            by_cases hu : uB x.op = true
            · exact fR_in r3 hu
            · have := fZ_in z3 (by simpa using hu); omega
          exact ⟨hi, hA.1, hA.2, .inr ⟨h17, hD.1, hD.2, hB.1, hB.2⟩⟩
      · cases h
    · cases h
  · cases h
theorem eT_ok {t : Tm} {regs n : Nat} (h : eT t regs n = 0) : TmOk regs n t := by
  unfold eT at h
  split at h
  · rename_i hO
    split at h
    · rename_i hR
      split at h
      · rename_i hZ
        simp only [Tm.aF, okR, List.all_cons, List.all_nil, Bool.and_true] at hR
        simp only [Tm.toF, okR, List.all_cons, List.all_nil, Bool.and_true, Bool.and_eq_true] at hZ
        simp [kO] at hO
        rcases hO with (h1 | h2) | h3
        · have := fR_in hZ.1 (by simp [h1])
          exact .inl ⟨h1, this.1, this.2⟩
        · have r1 := fR_in hR (by simp [h2])
          have r2 := fR_in hZ.1 (by simp [h2])
          have r3 := fR_in hZ.2 (by simp [h2])
          exact .inr (.inl ⟨h2, r1.1, r1.2, r2.1, r2.2, r3.1, r3.2⟩)
        · have := fR_in hR (by simp [h3])
          exact .inr (.inr ⟨h3, this.1, this.2⟩)
      · cases h
    · cases h
  · cases h
theorem eIs_ok {regs : Nat} : ∀ {l : List In}, eIs regs l = 0 → (∀ y ∈ l, y.Wf) → ∀ y ∈ l, InOk regs y
  | [], _, _, y, hy => by simp at hy
  | x :: r, h, hw, y, hy => by
    unfold eIs at h
    split at h
    · rename_i hx
      rcases List.mem_cons.1 hy with rfl | hy
      · exact eI_ok hx (hw _ (by simp))
      · exact eIs_ok h (fun z hz => hw z (by simp [hz])) y hy
    · rename_i hx; exact absurd h hx
theorem eBs_ok {regs n : Nat} : ∀ {l : List Blk}, eBs regs n l = 0 → (∀ y ∈ l, y.Wf) → (∀ b ∈ l, ∀ i ∈ b.code, InOk regs i) ∧ ∀ b ∈ l, TmOk regs n b.term
  | [], _, _ => ⟨fun b hb => by simp at hb, fun b hb => by simp at hb⟩
  | x :: r, h, hw => by
    unfold eBs at h
    split at h
    · rename_i hx
      obtain ⟨h1, h2⟩ := eBs_ok h (fun z hz => hw z (by simp [hz]))
      unfold eB at hx
      split at hx
      · rename_i hi
        have hxw := hw x (by simp)
        refine ⟨fun b hb i him => ?_, fun b hb => ?_⟩
        · rcases List.mem_cons.1 hb with rfl | hb
          · exact eIs_ok hi hxw.1 i him
          · exact h1 b hb i him
        · rcases List.mem_cons.1 hb with rfl | hb
          · exact eT_ok hx
          · exact h2 b hb
      · rename_i hi; exact absurd hx hi
    · rename_i hx; exact absurd h hx
/-- What Check's acceptance says. -/
theorem eF_ok {args regs : Int} {bs : List Blk} (h : eF args regs bs = 0) (hw : ∀ y ∈ bs, y.Wf) : ∃ n : Nat, regs = n ∧ 0 ≤ args ∧ args ≤ n ∧ OkF n bs := by
  unfold eF at h
  split at h
  · rename_i hz
    unfold eSz at hz
    split at hz
    · cases hz
    · rename_i h1
      split at hz
      · cases hz
      · split at hz
        · cases hz
        · rename_i h3
          obtain ⟨n, rfl⟩ := Int.eq_ofNat_of_zero_le (show 0 ≤ regs by omega)
          obtain ⟨g1, g2⟩ := eBs_ok h hw
          exact ⟨n, rfl, by omega, by omega, ⟨by omega, g1, g2⟩⟩
  · rename_i hz; exact absurd h hz

theorem tr_in (b : Bool) : InI (tr b) := by cases b <;> (unfold InI; decide)
theorem tmod_in {a : Int} (h : InI a) (b : Int) : InI (a.tmod b) := by
  unfold InI at *
  have h1 : (a.tmod b).natAbs ≤ a.natAbs := by rw [Int.natAbs_tmod]; exact Nat.mod_le _ _
  by_cases h0 : 0 ≤ a
  · have := Int.tmod_nonneg b h0
    omega
  · have h2 := Int.tmod_nonneg b (show 0 ≤ -a by omega)
    rw [Int.neg_tmod] at h2
    omega
theorem div_in {a : Int} (h : InI a) (c : Nat) : InI (a / 2 ^ c) := by
  unfold InI at *
  have hd : (0 : Int) < 2 ^ c := Int.pow_pos (by decide)
  generalize (2 : Int) ^ c = d at *
  by_cases h0 : 0 ≤ a
  · have := Int.ediv_nonneg h0 (show 0 ≤ d by omega)
    have := Int.ediv_le_self d h0
    omega
  · have h1 : a ≤ a / d := by
      apply (Int.le_ediv_iff_mul_le (by omega)).2
      have := Int.mul_le_mul_of_nonpos_left (a := a) (b := d) (c := 1) (by omega) (by omega)
      omega
    have h2 : a / d < 0 := Int.ediv_neg_of_neg_of_pos (by omega) (by omega)
    omega
theorem if_in {p : Prop} [Decidable p] {x y : Int} (hx : InI x) (hy : InI y) : InI (if p then x else y) := by
  by_cases h : p
  · rw [if_pos h]; exact hx
  · rw [if_neg h]; exact hy
theorem bin_in {op a b : Int} (ha : InI a) (hb : InI b) : InI (bin op a b) := by
  unfold bin
  refine if_in (w64_in _) (if_in (w64_in _) (if_in (w64_in _) (if_in (w64_in _) (if_in (tmod_in ha _) (if_in ?_ (if_in ?_ (if_in ?_ (if_in (w64_in _) (if_in (div_in ha _) (if_in (tr_in _) (tr_in _)))))))))))
  · rw [(bits_ub a b).1]; exact w64_in _
  · rw [(bits_ub a b).2.1]; exact w64_in _
  · rw [(bits_ub a b).2.2]; exact w64_in _
theorem ev_in {op a b imm : Int} (ha : InI a) (hb : InI b) (hi : InI imm) : InI (ev op a b imm) := by
  unfold ev
  have h0 : InI 0 := by unfold InI; decide
  have h4 : InI (-a - 1) := by unfold InI at *; omega
  exact if_in hi (if_in ha (if_in (w64_in _) (if_in h4 (if_in (bin_in ha hb) h0))))

section
variable {regs : Nat} {bs : List Blk} {r : Rn}
theorem Good.reg (h : Good regs bs r) {k : Int} (h0 : 0 ≤ k) (h1 : k < regs) : InI (rg r.regs k) := h.wf _ (rg_mem h0 (by rw [h.len]; exact h1))
theorem perf_good (h : Good regs bs r) (hF : OkF regs bs) (hp : r.pos < (blkAt bs r.blk).code.length) {i : In} (hi : InOk regs i) : Good regs bs (perf i r) := by
  unfold perf
  split
  · exact ⟨h.blk, hp, h.len, h.wf, by show (r.trace ++ [_]).length ≤ r.steps + 1; rw [List.length_append]; exact Nat.succ_le_succ h.tr⟩
  · rename_i h17
    split
    · refine ⟨h.blk, hp, by rw [List.length_set]; exact h.len, fun v hv => ?_, Nat.le_succ_of_le h.tr⟩
      rcases List.mem_or_eq_of_mem_set hv with hv | rfl
      · exact h.wf v hv
      · rcases hi.2.2.2 with h1 | ⟨_, h1, h2, h3, h4⟩
        · exact absurd h1 h17
        · exact ev_in (h.reg hi.2.1 hi.2.2.1) (h.reg h3 h4) hi.1
    · exact ⟨h.blk, h.pos, h.len, h.wf, h.tr⟩
theorem leav_good (h : Good regs bs r) {t : Tm} (ht : TmOk regs bs.length t) : Good regs bs (leav t r) := by
  unfold leav
  split
  · exact ⟨h.blk, h.pos, h.len, h.wf, Nat.le_succ_of_le h.tr⟩
  · rename_i h3
    refine ⟨?_, Nat.zero_le _, h.len, h.wf, Nat.le_succ_of_le h.tr⟩
    show (if t.kind = 2 ∧ rg r.regs t.a = 0 then t.el.toNat else t.to.toNat) < bs.length
    rcases ht with ⟨e, h1, h2⟩ | ⟨e, h1, h2, h4, h5, h6, h7⟩ | ⟨e, h1, h2⟩
    · rw [if_neg (fun h => by omega)]
      have : t.to.toNat < bs.length := by clear h3; omega
      exact this
    · have g1 : t.to.toNat < bs.length := by clear h3; omega
      have g2 : t.el.toNat < bs.length := by clear h3; omega
      split
      · exact g2
      · exact g1
    · exact absurd e h3
theorem step_good (hF : OkF regs bs) (h : Good regs bs r) : Good regs bs (stepR bs r) := by
  unfold stepR
  split
  · split
    · rename_i hp
      exact perf_good h hF hp (hF.ins _ (blkAt_mem h.blk) _ (List.getElem_mem hp))
    · exact leav_good h (hF.tm _ (blkAt_mem h.blk))
  · exact h
theorem run_good (hF : OkF regs bs) (h : Good regs bs r) : ∀ n, Good regs bs (runR bs r n)
  | 0 => h
  | n + 1 => step_good hF (run_good hF h n)
theorem start_good {args : List Int} (hF : OkF regs bs) (hl : args.length ≤ regs) (hw : ∀ v ∈ args, InI v) : Good regs bs (rn0 regs args) :=
  ⟨hF.ne, Nat.zero_le _, by simp [rn0]; omega, fun v hv => by
    rcases List.mem_append.1 hv with hv | hv
    · exact hw v hv
    · rw [(List.mem_replicate.1 hv).2]; unfold InI; decide, Nat.le_refl _⟩

theorem perf_steps (i : In) (r : Rn) : ((perf i r).st = 2 ∧ (perf i r).steps = r.steps ∨ (perf i r).st = r.st ∧ (perf i r).steps = r.steps + 1) ∧ ∃ l, (perf i r).trace = r.trace ++ l := by
  unfold perf
  split
  · exact ⟨.inr ⟨rfl, rfl⟩, [_], rfl⟩
  · split
    · exact ⟨.inr ⟨rfl, rfl⟩, [], by simp⟩
    · exact ⟨.inl ⟨rfl, rfl⟩, [], by simp⟩
theorem leav_steps (t : Tm) (r : Rn) : ((leav t r).st = 1 ∨ (leav t r).st = r.st) ∧ (leav t r).steps = r.steps + 1 ∧ (leav t r).trace = r.trace := by
  unfold leav
  split
  · exact ⟨.inl rfl, rfl, rfl⟩
  · exact ⟨.inr rfl, rfl, rfl⟩
theorem stepR_stop {bs : List Blk} {r : Rn} (h : ¬ r.st = 0) : stepR bs r = r := by rw [stepR, if_neg h]
theorem stepR_steps (bs : List Blk) (r : Rn) : (stepR bs r).steps ≤ r.steps + 1 ∧ ((stepR bs r).st = 0 → r.st = 0 ∧ (stepR bs r).steps = r.steps + 1) ∧ ∃ l, (stepR bs r).trace = r.trace ++ l := by
  by_cases h : r.st = 0
  · rw [stepR, if_pos h]
    split
    · rename_i hp
      obtain ⟨h1, h2⟩ := perf_steps ((blkAt bs r.blk).code[r.pos]) r
      refine ⟨by omega, fun h0 => ⟨h, by omega⟩, h2⟩
    · obtain ⟨h1, h2, h3⟩ := leav_steps (blkAt bs r.blk).term r
      exact ⟨by omega, fun h0 => ⟨h, h2⟩, [], by rw [h3]; simp⟩
  · rw [stepR_stop h]
    exact ⟨by omega, fun h0 => absurd h0 h, [], by simp⟩
theorem stepR_pre (bs : List Blk) (r : Rn) : (stepR bs r).steps ≤ r.steps + 1 ∧ r.steps ≤ (stepR bs r).steps := by
  refine ⟨(stepR_steps bs r).1, ?_⟩
  by_cases h : r.st = 0
  · rw [stepR, if_pos h]
    split
    · rename_i hp
      have := (perf_steps ((blkAt bs r.blk).code[r.pos]) r).1
      omega
    · have := (leav_steps (blkAt bs r.blk).term r).2.1
      omega
  · rw [stepR_stop h]; exact Nat.le_refl _

theorem run_steps (bs : List Blk) (r : Rn) : ∀ n, (runR bs r n).steps ≤ r.steps + n ∧ r.steps ≤ (runR bs r n).steps ∧ ((runR bs r n).st = 0 → (runR bs r n).steps = r.steps + n)
  | 0 => ⟨Nat.le_refl _, Nat.le_refl _, fun _ => rfl⟩
  | n + 1 => by
    obtain ⟨h1, h2, h3⟩ := run_steps bs r n
    obtain ⟨g1, g2, _⟩ := stepR_steps bs (runR bs r n)
    have g3 := (stepR_pre bs (runR bs r n)).2
    refine ⟨?_, ?_, fun h0 => ?_⟩
    · show (stepR bs (runR bs r n)).steps ≤ _
      omega
    · show _ ≤ (stepR bs (runR bs r n)).steps
      omega
    · obtain ⟨k1, k2⟩ := g2 h0
      have := h3 k1
      show (stepR bs (runR bs r n)).steps = _
      omega
theorem run_stop (bs : List Blk) (r : Rn) {n : Nat} (h : ¬ (runR bs r n).st = 0) : ∀ k, runR bs r (n + k) = runR bs r n
  | 0 => rfl
  | k + 1 => by
    show stepR bs (runR bs r (n + k)) = _
    rw [run_stop bs r h k, stepR_stop h]
theorem run_pre (bs : List Blk) (r : Rn) (n : Nat) : ∀ k, ∃ l, (runR bs r (n + k)).trace = (runR bs r n).trace ++ l
  | 0 => ⟨[], by simp⟩
  | k + 1 => by
    obtain ⟨l, hl⟩ := run_pre bs r n k
    obtain ⟨l2, hl2⟩ := (stepR_steps bs (runR bs r (n + k))).2.2
    refine ⟨l ++ l2, ?_⟩
    show (stepR bs (runR bs r (n + k))).trace = _
    rw [hl2, hl, List.append_assoc]
theorem run_mono (bs : List Blk) (r : Rn) (n : Nat) : ∀ k, (runR bs r n).steps ≤ (runR bs r (n + k)).steps
  | 0 => Nat.le_refl _
  | k + 1 => Nat.le_trans (run_mono bs r n k) (stepR_pre bs (runR bs r (n + k))).2
end

end Go.Proofs.Ytfkknebjhcafhaa
