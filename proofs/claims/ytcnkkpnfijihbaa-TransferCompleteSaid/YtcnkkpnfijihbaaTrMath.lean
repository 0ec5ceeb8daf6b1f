/-
  What copies, moves and definitions make of pair sets: the mathematics of layer 12.
-/
import Derived.Test.YtcnkkpnfijihbaaPsMath
namespace Go.Proofs.Ytcnkkpnfijihbaa
set_option linter.unusedVariables false

/-- The pairs of a list and, for those that f picks, the pairs that h names. -/
def addR (l : List Pr) (f : Pr → Bool) (h : Pr → Pr) : List Pr := mkP (l ++ (l.filter f).map h)
/-- The pair set after a copy of register a to register d. -/
def cpP (l : List Pr) (d a : Int) : List Pr := if d = a then l else addR (l.filter fun p => !(p.1 == d)) (fun p => p.1 == a) fun p => (d, p.2)
/-- The pair set after a move from location s to location t. -/
def mvP (l : List Pr) (t s : Int) : List Pr := if t = s then l else addR (l.filter fun p => !(p.2 == t)) (fun p => p.2 == s) fun p => (p.1, t)
/-- The pair set after a definition of register d in location t. -/
def dfP (l : List Pr) (d t : Int) : List Pr := mkP (((l.filter fun p => !(p.1 == d)).filter fun p => !(p.2 == t)) ++ [(d, t)])

theorem Srt.filter {l : List Pr} (h : Srt l) (f : Pr → Bool) : Srt (l.filter f) := List.Pairwise.sublist List.filter_sublist h

/-- The renamed pairs are a pair set: they keep the location, or the register, in which they differ. -/
theorem ren_srt1 {l : List Pr} (h : Srt l) (d a : Int) : Srt ((l.filter fun p => p.1 == a).map fun p => (d, p.2)) := by
  have h1 := h.filter fun p => p.1 == a
  unfold Srt at *
  rw [List.pairwise_map]
  refine (List.Pairwise.and_mem.1 h1).imp fun {x y} ⟨hx, hy, hxy⟩ => ?_
  have ex := (List.mem_filter.1 hx).2
  have ey := (List.mem_filter.1 hy).2
  rw [beq_iff_eq] at ex ey
  rw [ltP_iff] at *
  dsimp only
  omega
theorem ren_srt2 {l : List Pr} (h : Srt l) (t s : Int) : Srt ((l.filter fun p => p.2 == s).map fun p => (p.1, t)) := by
  have h1 := h.filter fun p => p.2 == s
  unfold Srt at *
  rw [List.pairwise_map]
  refine (List.Pairwise.and_mem.1 h1).imp fun {x y} ⟨hx, hy, hxy⟩ => ?_
  have ex := (List.mem_filter.1 hx).2
  have ey := (List.mem_filter.1 hy).2
  rw [beq_iff_eq] at ex ey
  rw [ltP_iff] at *
  dsimp only
  omega

theorem cpP_srt {l : List Pr} (h : Srt l) (d a : Int) : Srt (cpP l d a) := by
  unfold cpP
  split
  · exact h
  · exact mkP_srt _
theorem mvP_srt {l : List Pr} (h : Srt l) (t s : Int) : Srt (mvP l t s) := by
  unfold mvP
  split
  · exact h
  · exact mkP_srt _
theorem dfP_srt (l : List Pr) (d t : Int) : Srt (dfP l d t) := mkP_srt _

theorem mem_cpP {l : List Pr} {d a : Int} {q : Pr} : q ∈ cpP l d a ↔ (q ∈ l ∧ (d = a ∨ q.1 ≠ d)) ∨ (q.1 = d ∧ (a, q.2) ∈ l) := by
  unfold cpP
  by_cases h : d = a
  · rw [if_pos h]
    constructor
    · intro hq
      exact .inl ⟨hq, .inl h⟩
    · rintro (⟨hq, _⟩ | ⟨h1, h2⟩)
      · exact hq
      · have : q = (a, q.2) := pr_eq (h1.trans h) rfl
        rw [this]
        exact h2
  · rw [if_neg h]
    unfold addR
    rw [mem_mkP, List.mem_append, List.mem_filter, List.mem_map]
    constructor
    · rintro (⟨h1, h2⟩ | ⟨p, hp, rfl⟩)
      · exact .inl ⟨h1, .inr (by simpa using h2)⟩
      · obtain ⟨h1, h2⟩ := List.mem_filter.1 hp
        obtain ⟨h3, _⟩ := List.mem_filter.1 h1
        refine .inr ⟨rfl, ?_⟩
        have : (a, p.2) = p := pr_eq (by simpa using (beq_iff_eq.1 h2).symm) rfl
        dsimp only
        rw [this]
        exact h3
    · rintro (⟨h1, h2⟩ | ⟨h1, h2⟩)
      · exact .inl ⟨h1, by simpa using h2.resolve_left h⟩
      · refine .inr ⟨(a, q.2), List.mem_filter.2 ⟨List.mem_filter.2 ⟨h2, ?_⟩, by simp⟩, pr_eq h1.symm rfl⟩
        simpa using fun e => h e.symm
theorem mem_mvP {l : List Pr} {t s : Int} {q : Pr} : q ∈ mvP l t s ↔ (q ∈ l ∧ (t = s ∨ q.2 ≠ t)) ∨ (q.2 = t ∧ (q.1, s) ∈ l) := by
  unfold mvP
  by_cases h : t = s
  · rw [if_pos h]
    constructor
    · intro hq
      exact .inl ⟨hq, .inl h⟩
    · rintro (⟨hq, _⟩ | ⟨h1, h2⟩)
      · exact hq
      · have : q = (q.1, s) := pr_eq rfl (h1.trans h)
        rw [this]
        exact h2
  · rw [if_neg h]
    unfold addR
    rw [mem_mkP, List.mem_append, List.mem_filter, List.mem_map]
    constructor
    · rintro (⟨h1, h2⟩ | ⟨p, hp, rfl⟩)
      · exact .inl ⟨h1, .inr (by simpa using h2)⟩
      · obtain ⟨h1, h2⟩ := List.mem_filter.1 hp
        obtain ⟨h3, _⟩ := List.mem_filter.1 h1
        refine .inr ⟨rfl, ?_⟩
        have : (p.1, s) = p := pr_eq rfl (by simpa using (beq_iff_eq.1 h2).symm)
        dsimp only
        rw [this]
        exact h3
    · rintro (⟨h1, h2⟩ | ⟨h1, h2⟩)
      · exact .inl ⟨h1, by simpa using h2.resolve_left h⟩
      · refine .inr ⟨(q.1, s), List.mem_filter.2 ⟨List.mem_filter.2 ⟨h2, ?_⟩, by simp⟩, pr_eq rfl h1.symm⟩
        simpa using fun e => h e.symm
theorem mem_dfP {l : List Pr} {d t : Int} {q : Pr} : q ∈ dfP l d t ↔ (q ∈ l ∧ q.1 ≠ d ∧ q.2 ≠ t) ∨ q = (d, t) := by
  unfold dfP
  rw [mem_mkP, List.mem_append, List.mem_filter, List.mem_filter, List.mem_singleton]
  simp [and_assoc]

theorem cpP_len (l : List Pr) (d a : Int) : (cpP l d a).length ≤ 2 * l.length := by
  unfold cpP
  split
  · omega
  · refine Nat.le_trans (mkP_len _) ?_
    rw [List.length_append, List.length_map]
    have h1 := List.length_filter_le (fun p : Pr => !(p.1 == d)) l
    have h2 := List.length_filter_le (fun p : Pr => p.1 == a) (l.filter fun p => !(p.1 == d))
    omega
theorem mvP_len (l : List Pr) (t s : Int) : (mvP l t s).length ≤ 2 * l.length := by
  unfold mvP
  split
  · omega
  · refine Nat.le_trans (mkP_len _) ?_
    rw [List.length_append, List.length_map]
    have h1 := List.length_filter_le (fun p : Pr => !(p.2 == t)) l
    have h2 := List.length_filter_le (fun p : Pr => p.2 == s) (l.filter fun p => !(p.2 == t))
    omega
theorem dfP_len (l : List Pr) (d t : Int) : (dfP l d t).length ≤ l.length + 1 := by
  refine Nat.le_trans (mkP_len _) ?_
  rw [List.length_append, List.length_singleton]
  have h1 := List.length_filter_le (fun p : Pr => !(p.1 == d)) l
  have h2 := List.length_filter_le (fun p : Pr => !(p.2 == t)) (l.filter fun p => !(p.1 == d))
  omega

/-- What the reference of Copy adds for a pair. -/
def cpS (d a : Int) (p : Pr) : List Pr := (if d = a ∨ p.1 ≠ d then [p] else []) ++ if p.1 = a then [(d, p.2)] else []
def mvS (t s : Int) (p : Pr) : List Pr := (if t = s ∨ p.2 ≠ t then [p] else []) ++ if p.2 = s then [(p.1, t)] else []
def dfS (d t : Int) (p : Pr) : List Pr := if p.1 ≠ d ∧ p.2 ≠ t then [p] else []

theorem mem_ite_one {c : Prop} [Decidable c] {q x : Pr} : q ∈ (if c then [x] else []) ↔ c ∧ q = x := by
  by_cases h : c <;> simp [h]

theorem cpS_eq {l : List Pr} (h : Srt l) (d a : Int) : mkP (l.flatMap (cpS d a)) = cpP l d a := by
  refine (mkP_eq (cpP_srt h d a) fun q => ?_).symm
  rw [mem_cpP, List.mem_flatMap]
  constructor
  · rintro (⟨h1, h2⟩ | ⟨h1, h2⟩)
    · exact ⟨q, h1, List.mem_append.2 (.inl (mem_ite_one.2 ⟨h2, rfl⟩))⟩
    · exact ⟨(a, q.2), h2, List.mem_append.2 (.inr (mem_ite_one.2 ⟨rfl, pr_eq h1 rfl⟩))⟩
  · rintro ⟨p, hp, hq⟩
    rcases List.mem_append.1 hq with hq | hq
    · obtain ⟨h1, rfl⟩ := mem_ite_one.1 hq
      exact .inl ⟨hp, h1⟩
    · obtain ⟨h1, rfl⟩ := mem_ite_one.1 hq
      refine .inr ⟨rfl, ?_⟩
      have : (a, p.2) = p := pr_eq h1.symm rfl
      dsimp only
      rw [this]
      exact hp
theorem mvS_eq {l : List Pr} (h : Srt l) (t s : Int) : mkP (l.flatMap (mvS t s)) = mvP l t s := by
  refine (mkP_eq (mvP_srt h t s) fun q => ?_).symm
  rw [mem_mvP, List.mem_flatMap]
  constructor
  · rintro (⟨h1, h2⟩ | ⟨h1, h2⟩)
    · exact ⟨q, h1, List.mem_append.2 (.inl (mem_ite_one.2 ⟨h2, rfl⟩))⟩
    · exact ⟨(q.1, s), h2, List.mem_append.2 (.inr (mem_ite_one.2 ⟨rfl, pr_eq rfl h1⟩))⟩
  · rintro ⟨p, hp, hq⟩
    rcases List.mem_append.1 hq with hq | hq
    · obtain ⟨h1, rfl⟩ := mem_ite_one.1 hq
      exact .inl ⟨hp, h1⟩
    · obtain ⟨h1, rfl⟩ := mem_ite_one.1 hq
      refine .inr ⟨rfl, ?_⟩
      have : (p.1, s) = p := pr_eq rfl h1.symm
      dsimp only
      rw [this]
      exact hp
theorem dfS_eq (l : List Pr) (d t : Int) : mkP ([(d, t)] ++ l.flatMap (dfS d t)) = dfP l d t := by
  refine (mkP_eq (dfP_srt l d t) fun q => ?_).symm
  rw [mem_dfP, List.mem_append, List.mem_singleton, List.mem_flatMap]
  constructor
  · rintro (⟨h1, h2⟩ | h)
    · exact .inr ⟨q, h1, mem_ite_one.2 ⟨h2, rfl⟩⟩
    · exact .inl h
  · rintro (h | ⟨p, hp, hq⟩)
    · exact .inr h
    · obtain ⟨h1, rfl⟩ := mem_ite_one.1 hq
      exact .inl ⟨hp, h1⟩

theorem flat_take {l : List Pr} {k : Nat} (hk : k < l.length) (S : Pr → List Pr) : (l.take (k + 1)).flatMap S = (l.take k).flatMap S ++ S l[k] := by
  rw [List.take_succ_eq_append_getElem hk, List.flatMap_append, List.flatMap_singleton]
theorem cpS_len (d a : Int) (p : Pr) : (cpS d a p).length ≤ 2 := by
  unfold cpS
  split <;> split <;> simp
theorem mvS_len (t s : Int) (p : Pr) : (mvS t s p).length ≤ 2 := by
  unfold mvS
  split <;> split <;> simp
theorem dfS_len (d t : Int) (p : Pr) : (dfS d t p).length ≤ 2 := by
  unfold dfS
  split <;> simp
theorem flat_len {S : Pr → List Pr} (hS : ∀ p, (S p).length ≤ 2) : ∀ l : List Pr, (l.flatMap S).length ≤ 2 * l.length
  | [] => by simp
  | x :: r => by
    have := hS x
    have := flat_len hS r
    simp only [List.flatMap_cons, List.length_append, List.length_cons]
    omega
theorem mkP_add (o : List Pr) (p : Pr) : addP (mkP o) p = mkP (o ++ [p]) := (mkP_snoc o p).symm

/-- The monotony of the three. -/
theorem cpP_mono {l m : List Pr} (h : ∀ q ∈ l, q ∈ m) (d a : Int) : ∀ q ∈ cpP l d a, q ∈ cpP m d a := fun q hq =>
  mem_cpP.2 ((mem_cpP.1 hq).imp (fun ⟨h1, h2⟩ => ⟨h _ h1, h2⟩) fun ⟨h1, h2⟩ => ⟨h1, h _ h2⟩)
theorem mvP_mono {l m : List Pr} (h : ∀ q ∈ l, q ∈ m) (t s : Int) : ∀ q ∈ mvP l t s, q ∈ mvP m t s := fun q hq =>
  mem_mvP.2 ((mem_mvP.1 hq).imp (fun ⟨h1, h2⟩ => ⟨h _ h1, h2⟩) fun ⟨h1, h2⟩ => ⟨h1, h _ h2⟩)
theorem dfP_mono {l m : List Pr} (h : ∀ q ∈ l, q ∈ m) (d t : Int) : ∀ q ∈ dfP l d t, q ∈ dfP m d t := fun q hq =>
  mem_dfP.2 ((mem_dfP.1 hq).imp_left fun ⟨h1, h2⟩ => ⟨h _ h1, h2⟩)

end Go.Proofs.Ytcnkkpnfijihbaa
