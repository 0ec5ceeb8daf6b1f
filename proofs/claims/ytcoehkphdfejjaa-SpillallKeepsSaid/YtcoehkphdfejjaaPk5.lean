import Derived.Test.YtcoehkphdfejjaaPk4
import Derived.Test.YtcoehkphdfejjaaPk3
import Derived.Test.YtcoehkphdfejjaaPk1
import Derived.Test.YtcoehkphdfejjaaOwnNe
import Derived.WalkLawsBesides

/-
  Checking a block, as data: a list of elementary operations, and what they make of a set.
-/
namespace Go.Proofs.Ytcoehkphdfejjaa
open Go.RowKit
set_option linter.unusedVariables false

/-- A check under way, or its result. -/
structure Rs where
  out : List Pr
  err : Int
  at_ : Nat
  steps : Nat
  largest : Nat

/-- An elementary operation; k is the index of the allocated instruction. -/
inductive EOp where
  | cp (d a : Int) (k : Nat)
  | mv (t s : Int) (k : Nat)
  | us (v g : Int) (k : Nat)
  | df (d g : Int) (k : Nat)

def EOp.at_ : EOp → Nat
  | .cp _ _ k => k
  | .mv _ _ k => k
  | .us _ _ k => k
  | .df _ _ k => k

/-- The set behind it. -/
def EOp.set (l : List Pr) : EOp → List Pr
  | .cp d a _ => cpP l d a
  | .mv t s _ => mvP l t s
  | .us _ _ _ => l
  | .df d g _ => dfP l d (2 * g)

def Rs.grow (r : Rs) (l : List Pr) (most : Int) (k : Nat) : Rs :=
  if most < (l.length : Int) then ⟨[], 24, k, r.steps + 1 + r.out.length, max r.largest l.length⟩ else ⟨l, r.err, r.at_, r.steps + 1 + r.out.length, max r.largest l.length⟩

def Rs.use (r : Rs) (v g : Int) (k : Nat) : Rs :=
  if hasP r.out (v, 2 * g) = true then ⟨r.out, r.err, r.at_, r.steps + 1 + r.out.length, r.largest⟩ else ⟨[], 21, k, r.steps + 1 + r.out.length, r.largest⟩

/-- A step of the check. -/
def stepE (most : Int) (r : Rs) (e : EOp) : Rs :=
  if r.err = 0 then match e with
    | .cp d a k => r.grow (cpP r.out d a) most k
    | .mv t s k => r.grow (mvP r.out t s) most k
    | .us v g k => r.use v g k
    | .df d g k => r.grow (dfP r.out d (2 * g)) most k
  else r

def foldE (most : Int) (es : List EOp) (r : Rs) : Rs := es.foldl (stepE most) r

/-- The operations of moves, of an instruction, of a row, of a block. -/
def mvOps : List Mi → Nat → List EOp
  | [], _ => []
  | x :: l, i => .mv x.dst x.src i :: mvOps l (i + 1)

def insOps (x : In) (y : Mi) (k : Nat) : List EOp := (if uA x.op = true then [.us x.a y.a k] else []) ++ (if uB x.op = true then [.us x.b y.b k] else []) ++ if uD x.op = true then [.df x.d y.d k] else []

def rowOps (code : List In) (mach : List Mi) (w : Rw) : List EOp :=
  ((code.drop w.cf.toNat).take (w.ct.toNat - w.cf.toNat)).map (fun x => .cp x.d x.a w.mf.toNat) ++ mvOps ((mach.drop w.mf.toNat).take (w.mt.toNat - w.mf.toNat)) w.mf.toNat ++
    match code[w.s.toNat]?, mach[w.m.toNat]? with
    | some x, some y => if w.s < 0 then [] else insOps x y w.m.toNat
    | _, _ => []

def blkOps (code : List In) (mach : List Mi) (rows : List Rw) (bt mt : Tm) : List EOp :=
  rows.flatMap (rowOps code mach) ++ if bt.kind = 1 then [] else [.us bt.a mt.a mach.length]

/-- The check of the operations, from a set on. -/
def runE (code : List In) (mach : List Mi) (rows : List Rw) (bt mt : Tm) (l : List Pr) (most : Int) : Rs :=
  let r := foldE most (blkOps code mach rows bt mt) ⟨l, 0, 0, 0, l.length⟩
  if r.err = 0 then { r with at_ := mach.length } else r

/-- The check of a block; ok says whether the terminators correspond. -/
def checkE (code : List In) (mach : List Mi) (bt mt : Tm) (ok : Bool) (l : List Pr) (most : Int) : Rs :=
  if most < (l.length : Int) then ⟨[], 24, 0, 0, l.length⟩
  else match alC code mach with
    | (rows, at_, e) => if e ≠ 0 then ⟨[], 20, at_, 0, l.length⟩ else if ok = false then ⟨[], 20, mach.length, 0, l.length⟩ else runE code mach rows bt mt l most

theorem foldE_nil (most : Int) (r : Rs) : foldE most [] r = r := rfl

theorem foldE_cons (most : Int) (e : EOp) (es : List EOp) (r : Rs) : foldE most (e :: es) r = foldE most es (stepE most r e) := rfl

theorem foldE_append (most : Int) (es fs : List EOp) (r : Rs) : foldE most (es ++ fs) r = foldE most fs (foldE most es r) := List.foldl_append

theorem stepE_err {most : Int} {r : Rs} {e : EOp} (h : ¬ r.err = 0) : stepE most r e = r := by unfold stepE; rw [if_neg h]

theorem foldE_err {most : Int} {r : Rs} (h : ¬ r.err = 0) : ∀ es : List EOp, foldE most es r = r
  | [] => rfl
  | e :: es => by rw [foldE_cons, stepE_err h, foldE_err h es]

/-- What a step does. -/
theorem stepE_ways (most : Int) (r : Rs) (e : EOp) (h : r.err = 0) :
    (stepE most r e = ⟨e.set r.out, 0, r.at_, r.steps + 1 + r.out.length, max r.largest (e.set r.out).length⟩ ∧ ((e.set r.out).length : Int) ≤ max most r.out.length ∧ (((e.set r.out).length : Int) ≤ most ∨ e.set r.out = r.out)) ∨
    (stepE most r e = ⟨[], 24, e.at_, r.steps + 1 + r.out.length, max r.largest (e.set r.out).length⟩ ∧ most < ((e.set r.out).length : Int)) ∨
    (stepE most r e = ⟨[], 21, e.at_, r.steps + 1 + r.out.length, r.largest⟩) ∨
    (stepE most r e = ⟨r.out, 0, r.at_, r.steps + 1 + r.out.length, r.largest⟩ ∧ e.set r.out = r.out) := by
  unfold stepE
  rw [if_pos h]
  cases e with
  | cp d a k =>
    by_cases hm : most < ((cpP r.out d a).length : Int)
    · exact .inr (.inl ⟨by show r.grow _ _ _ = _; rw [Rs.grow, if_pos hm]; rfl, hm⟩)
    · exact .inl ⟨by show r.grow _ _ _ = _; rw [Rs.grow, if_neg hm, h]; rfl, by show ((cpP r.out d a).length : Int) ≤ _; omega, .inl (by show ((cpP r.out d a).length : Int) ≤ _; omega)⟩
  | mv t s k =>
    by_cases hm : most < ((mvP r.out t s).length : Int)
    · exact .inr (.inl ⟨by show r.grow _ _ _ = _; rw [Rs.grow, if_pos hm]; rfl, hm⟩)
    · exact .inl ⟨by show r.grow _ _ _ = _; rw [Rs.grow, if_neg hm, h]; rfl, by show ((mvP r.out t s).length : Int) ≤ _; omega, .inl (by show ((mvP r.out t s).length : Int) ≤ _; omega)⟩
  | df d g k =>
    by_cases hm : most < ((dfP r.out d (2 * g)).length : Int)
    · exact .inr (.inl ⟨by show r.grow _ _ _ = _; rw [Rs.grow, if_pos hm]; rfl, hm⟩)
    · exact .inl ⟨by show r.grow _ _ _ = _; rw [Rs.grow, if_neg hm, h]; rfl, by show ((dfP r.out d (2 * g)).length : Int) ≤ _; omega, .inl (by show ((dfP r.out d (2 * g)).length : Int) ≤ _; omega)⟩
  | us v g k =>
    cases hh : hasP r.out (v, 2 * g)
    · exact .inr (.inr (.inl (by show r.use _ _ _ = _; rw [Rs.use, hh, if_neg (by simp)]; rfl)))
    · exact .inr (.inr (.inr ⟨by show r.use _ _ _ = _; rw [Rs.use, hh, if_pos rfl, h], rfl⟩))

/-- What stays true of a check under way. -/
structure RsOk (most : Int) (r : Rs) : Prop where
  out : r.out.length ≤ r.largest
  most : r.err = 0 → (r.largest : Int) ≤ most

theorem stepE_ok {most : Int} {r : Rs} (h : RsOk most r) (e : EOp) : RsOk most (stepE most r e) ∧ r.largest ≤ (stepE most r e).largest ∧ (stepE most r e).steps ≤ r.steps + 1 + r.largest ∧ r.steps ≤ (stepE most r e).steps ∧ ((stepE most r e).err = 0 → r.err = 0 ∧ (stepE most r e).at_ = r.at_) ∧ (¬ (stepE most r e).err = 0 → r.err = 0 → (stepE most r e).at_ = e.at_) := by
  by_cases h0 : r.err = 0
  · have hm := h.most h0
    have ho := h.out
    rcases stepE_ways most r e h0 with ⟨h1, h2, h3⟩ | ⟨h1, h2⟩ | h1 | ⟨h1, h2⟩
    · rw [h1]
      refine ⟨⟨Nat.le_max_right _ _, fun _ => ?_⟩, Nat.le_max_left _ _, ?_, ?_, fun _ => ⟨h0, rfl⟩, fun h9 => absurd rfl h9⟩
      · show ((max r.largest (e.set r.out).length : Nat) : Int) ≤ most
        rcases h3 with h3 | h3
        · omega
        · rw [h3]
          omega
      · show r.steps + 1 + r.out.length ≤ _
        omega
      · show _ ≤ r.steps + 1 + r.out.length
        omega
    · rw [h1]
      exact ⟨⟨Nat.zero_le _, (fun h9 => by cases h9)⟩, Nat.le_max_left _ _, by show r.steps + 1 + r.out.length ≤ _; omega, by show _ ≤ r.steps + 1 + r.out.length; omega, (fun h9 => by cases h9), fun _ _ => rfl⟩
    · rw [h1]
      exact ⟨⟨Nat.zero_le _, (fun h9 => by cases h9)⟩, Nat.le_refl _, by show r.steps + 1 + r.out.length ≤ _; omega, by show _ ≤ r.steps + 1 + r.out.length; omega, (fun h9 => by cases h9), fun _ _ => rfl⟩
    · rw [h1]
      exact ⟨⟨ho, fun _ => hm⟩, Nat.le_refl _, by show r.steps + 1 + r.out.length ≤ _; omega, by show _ ≤ r.steps + 1 + r.out.length; omega, fun _ => ⟨h0, rfl⟩, fun h9 => absurd rfl h9⟩
  · rw [stepE_err h0]
    exact ⟨h, Nat.le_refl _, by omega, Nat.le_refl _, fun h9 => absurd h9 h0, fun _ h9 => absurd h9 h0⟩

theorem foldE_ok {most : Int} : ∀ (es : List EOp) {r : Rs}, RsOk most r → RsOk most (foldE most es r) ∧ r.largest ≤ (foldE most es r).largest ∧ (foldE most es r).steps ≤ r.steps + es.length * ((foldE most es r).largest + 1) ∧ r.steps ≤ (foldE most es r).steps ∧
    ((foldE most es r).err = 0 → r.err = 0 ∧ (foldE most es r).at_ = r.at_) ∧ (¬ (foldE most es r).err = 0 → r.err = 0 → ∃ e ∈ es, (foldE most es r).at_ = e.at_)
  | [], r, h => ⟨h, Nat.le_refl _, by simp [foldE_nil], Nat.le_refl _, fun h9 => ⟨h9, rfl⟩, fun h9 h8 => absurd h8 h9⟩
  | e :: es, r, h => by
    obtain ⟨a1, a2, a3, a4, a5, a6⟩ := stepE_ok h e
    obtain ⟨b1, b2, b3, b4, b5, b6⟩ := foldE_ok es a1
    rw [foldE_cons]
    refine ⟨b1, Nat.le_trans a2 b2, ?_, Nat.le_trans a4 b4, fun h9 => ?_, fun h9 h8 => ?_⟩
    · rw [List.length_cons, Nat.succ_mul]
      omega
    · obtain ⟨c1, c2⟩ := b5 h9
      obtain ⟨d1, d2⟩ := a5 c1
      exact ⟨d1, c2.trans d2⟩
    · by_cases h7 : (stepE most r e).err = 0
      · obtain ⟨f, hf, ef⟩ := b6 h9 h7
        exact ⟨f, List.mem_cons_of_mem _ hf, ef⟩
      · rw [foldE_err h7]
        exact ⟨e, by simp, a6 h7 h8⟩

/-- How many operations there are, and where. -/
theorem mvOps_len : ∀ (l : List Mi) (i : Nat), (mvOps l i).length = l.length
  | [], _ => rfl
  | x :: l, i => by simp [mvOps, mvOps_len l]

theorem mvOps_at : ∀ (l : List Mi) (i : Nat), ∀ e ∈ mvOps l i, i ≤ e.at_ ∧ e.at_ < i + l.length
  | x :: l, i, e, he => by
    rcases List.mem_cons.1 he with rfl | he
    · exact ⟨Nat.le_refl _, by simp [EOp.at_]⟩
    · have := mvOps_at l (i + 1) e he
      simp
      omega

theorem insOps_len (x : In) (y : Mi) (k : Nat) : (insOps x y k).length ≤ 3 := by
  unfold insOps
  split <;> split <;> split <;> simp

theorem insOps_at {x : In} {y : Mi} {k : Nat} : ∀ e ∈ insOps x y k, e.at_ = k := fun e he => by
  unfold insOps at he
  simp only [List.mem_append] at he
  rcases he with (he | he) | he <;> split at he <;> simp at he <;> subst he <;> rfl

theorem rowOps_last {code : List In} {mach : List Mi} {i k : Nat} : rowOps code mach ⟨i, code.length, k, mach.length, -1, -1⟩ = (code.drop i).map (fun x => EOp.cp x.d x.a k) ++ mvOps (mach.drop k) k := by
  unfold rowOps
  dsimp only
  rw [show (((code.length : Nat) : Int)).toNat = code.length by omega, show (((mach.length : Nat) : Int)).toNat = mach.length by omega, show ((i : Nat) : Int).toNat = i by omega, show ((k : Nat) : Int).toNat = k by omega,
    List.take_of_length_le (by simp), List.take_of_length_le (by simp)]
  have h0 : ((-1 : Int) < 0) := by decide
  rw [show (match code[((-1 : Int)).toNat]?, mach[((-1 : Int)).toNat]? with
    | some x, some y => if (-1 : Int) < 0 then ([] : List EOp) else insOps x y ((-1 : Int)).toNat
    | _, _ => []) = [] by split <;> simp, List.append_nil]

theorem rowOps_step {code : List In} {mach : List Mi} {i k x y : Nat} (hx : x < code.length) (hy : y < mach.length) :
    rowOps code mach ⟨i, x, k, y, x, y⟩ = ((code.drop i).take (x - i)).map (fun x => EOp.cp x.d x.a k) ++ mvOps ((mach.drop k).take (y - k)) k ++ insOps code[x] mach[y] y := by
  unfold rowOps
  dsimp only
  rw [show ((x : Nat) : Int).toNat = x by omega, show ((y : Nat) : Int).toNat = y by omega, show ((i : Nat) : Int).toNat = i by omega, show ((k : Nat) : Int).toNat = k by omega, List.getElem?_eq_getElem hx, List.getElem?_eq_getElem hy]
  dsimp only
  rw [if_neg (by omega)]

theorem rows_len {code : List In} {mach : List Mi} {i k : Nat} {rows : List Rw} (h : Chn code mach i k rows) : (rows.flatMap (rowOps code mach)).length + i + 3 * k ≤ code.length + 3 * mach.length := by
  induction h with
  | last hi hk _ _ =>
    rw [List.flatMap_cons, List.flatMap_nil, List.append_nil, rowOps_last, List.length_append, List.length_map, mvOps_len, List.length_drop, List.length_drop]
    omega
  | @step i k x y r hi hx hk hy _ _ _ _ ih =>
    rw [List.flatMap_cons, rowOps_step hx hy, List.length_append, List.length_append, List.length_append, List.length_map, mvOps_len, List.length_take, List.length_take, List.length_drop, List.length_drop]
    have := insOps_len code[x] mach[y] y
    omega

theorem rows_at {code : List In} {mach : List Mi} {i k : Nat} {rows : List Rw} (h : Chn code mach i k rows) : ∀ e ∈ rows.flatMap (rowOps code mach), e.at_ ≤ mach.length := by
  induction h with
  | last hi hk _ _ =>
    intro e he
    rw [List.flatMap_cons, List.flatMap_nil, List.append_nil, rowOps_last] at he
    rcases List.mem_append.1 he with he | he
    · obtain ⟨x, _, rfl⟩ := List.mem_map.1 he
      exact hk
    · have := (mvOps_at _ _ e he).2
      rw [List.length_drop] at this
      omega
  | @step i k x y r hi hx hk hy _ _ _ _ ih =>
    intro e he
    rw [List.flatMap_cons, rowOps_step hx hy] at he
    rcases List.mem_append.1 he with he | he
    · rcases List.mem_append.1 he with he | he
      · rcases List.mem_append.1 he with he | he
        · obtain ⟨x, _, rfl⟩ := List.mem_map.1 he
          show k ≤ _
          omega
        · have := (mvOps_at _ _ e he).2
          rw [List.length_take, List.length_drop] at this
          omega
      · rw [insOps_at e he]
        omega
    · exact ih e he

theorem blkOps_len {code : List In} {mach : List Mi} {rows : List Rw} (h : Chn code mach 0 0 rows) (bt mt : Tm) : (blkOps code mach rows bt mt).length ≤ 3 * mach.length + code.length + 1 := by
  have := rows_len h
  unfold blkOps
  rw [List.length_append]
  split
  · rw [List.length_nil]
    omega
  · rw [List.length_singleton]
    omega

theorem blkOps_at {code : List In} {mach : List Mi} {rows : List Rw} (h : Chn code mach 0 0 rows) (bt mt : Tm) : ∀ e ∈ blkOps code mach rows bt mt, e.at_ ≤ mach.length := fun e he => by
  unfold blkOps at he
  rcases List.mem_append.1 he with he | he
  · exact rows_at h e he
  · split at he
    · simp at he
    · rw [List.mem_singleton] at he
      subst he
      exact Nat.le_refl _

/-- What the statement on steps asks. -/
theorem checkE_steps (code : List In) (mach : List Mi) (bt mt : Tm) (ok : Bool) (l : List Pr) (most : Int) :
    (checkE code mach bt mt ok l most).steps ≤ (3 * mach.length + code.length + 1) * ((checkE code mach bt mt ok l most).largest + 1) ∧ l.length ≤ (checkE code mach bt mt ok l most).largest ∧ (checkE code mach bt mt ok l most).out.length ≤ (checkE code mach bt mt ok l most).largest ∧
      ((checkE code mach bt mt ok l most).err = 0 → ((checkE code mach bt mt ok l most).largest : Int) ≤ most) ∧ (checkE code mach bt mt ok l most).at_ ≤ mach.length := by
  unfold checkE
  by_cases hm : most < (l.length : Int)
  · rw [if_pos hm]
    exact ⟨Nat.zero_le _, Nat.le_refl _, Nat.zero_le _, (fun h => by cases h), Nat.zero_le _⟩
  · rw [if_neg hm]
    rcases alC_out code mach with ⟨r, hr, hch⟩ | ⟨y, hr, hy, _⟩
    · rw [hr]
      dsimp only
      rw [if_neg (by simp)]
      cases ok
      · rw [if_pos rfl]
        exact ⟨Nat.zero_le _, Nat.le_refl _, Nat.zero_le _, (fun h => by cases h), Nat.le_refl _⟩
      · rw [if_neg (by simp)]
        unfold runE
        obtain ⟨b1, b2, b3, b4, b5, b6⟩ := foldE_ok (most := most) (blkOps code mach r bt mt) (r := ⟨l, 0, 0, 0, l.length⟩) ⟨Nat.le_refl _, fun _ => by show ((l.length : Nat) : Int) ≤ most; omega⟩
        have hl := blkOps_len hch bt mt
        dsimp only at b2 b3 b4 b5 b6 ⊢
        generalize foldE most (blkOps code mach r bt mt) ⟨l, 0, 0, 0, l.length⟩ = q at *
        have h1 := Nat.mul_le_mul_right (q.largest + 1) hl
        split
        · rename_i h0
          exact ⟨by show q.steps ≤ _ * (q.largest + 1); omega, b2, b1.out, b1.most, Nat.le_refl _⟩
        · rename_i h0
          refine ⟨by omega, b2, b1.out, b1.most, ?_⟩
          obtain ⟨e, he, ee⟩ := b6 h0 rfl
          rw [ee]
          exact blkOps_at hch bt mt e he
    · rw [hr]
      dsimp only
      rw [if_pos (by decide)]
      exact ⟨Nat.zero_le _, Nat.le_refl _, Nat.zero_le _, (fun h => by cases h), hy⟩

end Go.Proofs.Ytcoehkphdfejjaa

/-
  Checking a block with a larger set; how large sets become.
-/
namespace Go.Proofs.Ytcoehkphdfejjaa
open Go.RowKit
set_option linter.unusedVariables false

theorem srt_nodup {l : List Pr} (h : Srt l) : l.Nodup := List.Pairwise.imp (fun {x y} hxy => ltP_ne hxy) h

theorem nodup_len : ∀ (a b : List Pr), a.Nodup → (∀ q ∈ a, q ∈ b) → a.length ≤ b.length
  | [], _, _, _ => Nat.zero_le _
  | x :: r, b, h, hs => by
    rw [List.nodup_cons] at h
    have hx := hs x (by simp)
    have := nodup_len r (b.erase x) h.2 fun q hq => (List.mem_erase_of_ne (fun e => by subst e; exact h.1 hq)).2 (hs q (by simp [hq]))
    rw [List.length_erase_of_mem hx] at this
    have h0 : 0 < b.length := List.length_pos_of_mem hx
    rw [List.length_cons]
    omega

/-- Where the pairs of a set lie, and what an operation adds. -/
def PIn (R L : List Int) (l : List Pr) : Prop := ∀ q ∈ l, q.1 ∈ R ∧ q.2 ∈ L

def EOp.In (R L : List Int) : EOp → Prop
  | .cp d _ _ => d ∈ R
  | .mv t _ _ => t ∈ L
  | .us _ _ _ => True
  | .df d g _ => d ∈ R ∧ 2 * g ∈ L

theorem PIn.len {R L : List Int} {l : List Pr} (h : PIn R L l) (hs : Srt l) : l.length ≤ R.length * L.length := by
  have h1 := nodup_len l (R.flatMap fun v => L.map fun t => (v, t)) (srt_nodup hs) fun q hq => by
    obtain ⟨h1, h2⟩ := h q hq
    exact List.mem_flatMap.2 ⟨q.1, h1, List.mem_map.2 ⟨q.2, h2, rfl⟩⟩
  have h2 : ∀ R : List Int, (R.flatMap fun v => L.map fun t => (v, t)).length = R.length * L.length := fun R => by
    induction R with
    | nil => simp
    | cons x r ih => rw [List.flatMap_cons, List.length_append, List.length_map, ih, List.length_cons, Nat.succ_mul, Nat.add_comm]
  rw [h2] at h1
  exact h1

theorem PIn.set {R L : List Int} {l : List Pr} (h : PIn R L l) {e : EOp} (he : e.In R L) : PIn R L (e.set l) := by
  cases e with
  | cp d a k =>
    intro q hq
    rcases mem_cpP.1 hq with ⟨h1, _⟩ | ⟨h1, h2⟩
    · exact h q h1
    · exact ⟨by rw [h1]; exact he, (h _ h2).2⟩
  | mv t s k =>
    intro q hq
    rcases mem_mvP.1 hq with ⟨h1, _⟩ | ⟨h1, h2⟩
    · exact h q h1
    · exact ⟨(h _ h2).1, by rw [h1]; exact he⟩
  | us v g k => exact h
  | df d g k =>
    intro q hq
    rcases mem_dfP.1 hq with ⟨h1, _⟩ | rfl
    · exact h q h1
    · exact he

theorem set_srt {l : List Pr} (h : Srt l) (e : EOp) : Srt (e.set l) := by
  cases e with
  | cp d a k => exact cpP_srt h d a
  | mv t s k => exact mvP_srt h t s
  | us v g k => exact h
  | df d g k => exact dfP_srt l d _

theorem set_mono {l m : List Pr} (h : ∀ q ∈ l, q ∈ m) (e : EOp) : ∀ q ∈ e.set l, q ∈ e.set m := by
  cases e with
  | cp d a k => exact cpP_mono h d a
  | mv t s k => exact mvP_mono h t s
  | us v g k => exact h
  | df d g k => exact dfP_mono h d _

/-- Two checks under way, of which the second has the larger set. -/
structure Mono (R L : List Int) (r s : Rs) : Prop where
  er : r.err = 0
  es : s.err = 0
  sub : ∀ q ∈ r.out, q ∈ s.out
  sr : Srt r.out
  ss : Srt s.out
  inn : PIn R L s.out
  steps : r.steps ≤ s.steps
  largest : r.largest ≤ s.largest
  lr : r.out.length ≤ r.largest
  ls : s.out.length ≤ s.largest

theorem Mono.len {R L : List Int} {r s : Rs} (h : Mono R L r s) : r.out.length ≤ s.out.length := nodup_len _ _ (srt_nodup h.sr) h.sub

/-- With room enough a step fails at a missing pair alone. -/
theorem stepE_room {R L : List Int} {most : Int} {r : Rs} {e : EOp} (h0 : r.err = 0) (hs : Srt r.out) (hi : PIn R L r.out) (he : e.In R L) (ho : r.out.length ≤ r.largest) (hm : ((R.length * L.length : Nat) : Int) ≤ most) :
    (stepE most r e = ⟨e.set r.out, 0, r.at_, r.steps + 1 + r.out.length, max r.largest (e.set r.out).length⟩ ∧ ∀ v g k, e = .us v g k → hasP r.out (v, 2 * g) = true) ∨
    ((stepE most r e).err = 21 ∧ ∃ v g k, e = .us v g k ∧ hasP r.out (v, 2 * g) = false) := by
  have hl := (hi.set he).len (set_srt hs e)
  unfold stepE
  rw [if_pos h0]
  cases e with
  | cp d a k =>
    left
    have hn : ¬ most < ((cpP r.out d a).length : Int) := by change (cpP r.out d a).length ≤ _ at hl; omega
    show r.grow _ _ _ = _ ∧ _
    rw [Rs.grow, if_neg hn, h0]
    exact ⟨rfl, fun v g k h => by cases h⟩
  | mv t s k =>
    left
    have hn : ¬ most < ((mvP r.out t s).length : Int) := by change (mvP r.out t s).length ≤ _ at hl; omega
    show r.grow _ _ _ = _ ∧ _
    rw [Rs.grow, if_neg hn, h0]
    exact ⟨rfl, fun v g k h => by cases h⟩
  | df d g k =>
    left
    have hn : ¬ most < ((dfP r.out d (2 * g)).length : Int) := by change (dfP r.out d (2 * g)).length ≤ _ at hl; omega
    show r.grow _ _ _ = _ ∧ _
    rw [Rs.grow, if_neg hn, h0]
    exact ⟨rfl, fun v g k h => by cases h⟩
  | us v g k =>
    show (r.use _ _ _ = _ ∧ _) ∨ ((r.use _ _ _).err = 21 ∧ _)
    cases hh : hasP r.out (v, 2 * g)
    · right
      rw [Rs.use, hh, if_neg (by simp)]
      exact ⟨rfl, v, g, k, rfl, hh⟩
    · left
      rw [Rs.use, hh, if_pos rfl, h0]
      refine ⟨?_, fun v' g' k' h => by injection h with h1 h2 h3; subst h1 h2; exact hh⟩
      show (⟨_, _, _, _, r.largest⟩ : Rs) = ⟨_, _, _, _, max r.largest r.out.length⟩
      rw [Nat.max_eq_left ho]
      rfl

theorem foldE_mono {R L : List Int} {most : Int} (hm : ((R.length * L.length : Nat) : Int) ≤ most) : ∀ (es : List EOp) (r s : Rs), (∀ e ∈ es, e.In R L) → Mono R L r s → (foldE most es r).err = 0 → Mono R L (foldE most es r) (foldE most es s)
  | [], r, s, _, h, _ => h
  | e :: es, r, s, he, h, hf => by
    rw [foldE_cons] at hf ⊢
    rw [foldE_cons]
    have h1 := he e (by simp)
    have hir : PIn R L r.out := fun q hq => h.inn q (h.sub q hq)
    have hl := h.len
    rcases stepE_room (most := most) h.er h.sr hir h1 h.lr hm with ⟨a1, a3⟩ | ⟨a1, _⟩
    · have hlen : (e.set r.out).length ≤ (e.set s.out).length := nodup_len _ _ (srt_nodup (set_srt h.sr e)) (set_mono h.sub e)
      rcases stepE_room (most := most) h.es h.ss h.inn h1 h.ls hm with ⟨b1, b3⟩ | ⟨b1, v, g, k, rfl, b2⟩
      · refine foldE_mono hm es _ _ (fun f hf => he f (List.mem_cons_of_mem _ hf)) ?_ hf
        have hst := h.steps
        have hg := h.largest
        rw [a1, b1]
        exact ⟨rfl, rfl, set_mono h.sub e, set_srt h.sr e, set_srt h.ss e, h.inn.set h1, by show r.steps + 1 + r.out.length ≤ s.steps + 1 + s.out.length; omega, by show max _ _ ≤ max _ _; omega, Nat.le_max_right _ _, Nat.le_max_right _ _⟩
      · have := a3 v g k rfl
        simp only [hasP, decide_eq_true_eq, decide_eq_false_iff_not] at this b2
        exact absurd (h.sub _ this) b2
    · rw [foldE_err (by rw [a1]; decide), a1] at hf
      cases hf

/-- With room enough no set is too large. -/
theorem foldE_room {R L : List Int} {most : Int} (hm : ((R.length * L.length : Nat) : Int) ≤ most) : ∀ (es : List EOp) (r : Rs), (∀ e ∈ es, e.In R L) → r.err = 0 → Srt r.out → PIn R L r.out → r.out.length ≤ r.largest → (foldE most es r).err = 0 ∨ (foldE most es r).err = 21
  | [], r, _, h, _, _, _ => .inl h
  | e :: es, r, he, h, hs, hi, ho => by
    rw [foldE_cons]
    have h1 := he e (by simp)
    rcases stepE_room (most := most) h hs hi h1 ho hm with ⟨a1, _⟩ | ⟨a1, _⟩
    · rw [a1]
      exact foldE_room hm es _ (fun f hf => he f (List.mem_cons_of_mem _ hf)) rfl (set_srt hs e) (hi.set h1) (Nat.le_max_right _ _)
    · rw [foldE_err (by rw [a1]; decide)]
      exact .inr a1

/-- The registers and locations of a block. -/
def blkR (l : List Pr) (code : List In) : List Int := l.map (fun q => q.1) ++ code.map fun x => x.d

def blkL (l : List Pr) (mach : List Mi) : List Int := l.map (fun q => q.2) ++ (mach.map (fun y => y.dst) ++ mach.map fun y => 2 * y.d)

theorem blkR_len (l : List Pr) (code : List In) : (blkR l code).length = l.length + code.length := by simp [blkR]

theorem blkL_len (l : List Pr) (mach : List Mi) : (blkL l mach).length = l.length + 2 * mach.length := by simp [blkL]; omega

theorem pin_self (l : List Pr) (code : List In) (mach : List Mi) : PIn (blkR l code) (blkL l mach) l := fun q hq =>
  ⟨List.mem_append_left _ (List.mem_map.2 ⟨q, hq, rfl⟩), List.mem_append_left _ (List.mem_map.2 ⟨q, hq, rfl⟩)⟩

theorem mvOps_in {R L : List Int} : ∀ (l : List Mi) (i : Nat), (∀ y ∈ l, y.dst ∈ L) → ∀ e ∈ mvOps l i, e.In R L
  | x :: l, i, h, e, he => by
    rcases List.mem_cons.1 he with rfl | he
    · exact h x (by simp)
    · exact mvOps_in l (i + 1) (fun y hy => h y (by simp [hy])) e he

theorem insOps_in {R L : List Int} {x : In} {y : Mi} {k : Nat} (h1 : uD x.op = true → x.d ∈ R) (h2 : uD x.op = true → 2 * y.d ∈ L) : ∀ e ∈ insOps x y k, e.In R L := fun e he => by
  unfold insOps at he
  simp only [List.mem_append] at he
  rcases he with (he | he) | he
  · split at he <;> simp at he
    subst he
    trivial
  · split at he <;> simp at he
    subst he
    trivial
  · split at he <;> simp at he
    subst he
    rename_i hu
    exact ⟨h1 hu, h2 hu⟩

theorem rowOps_in {R L : List Int} {code : List In} {mach : List Mi} {w : Rw} (h1 : ∀ x ∈ code, x.d ∈ R) (h2 : ∀ y ∈ mach, y.dst ∈ L ∧ 2 * y.d ∈ L) : ∀ e ∈ rowOps code mach w, e.In R L := fun e he => by
  unfold rowOps at he
  rcases List.mem_append.1 he with he | he
  · rcases List.mem_append.1 he with he | he
    · obtain ⟨x, hx, rfl⟩ := List.mem_map.1 he
      exact h1 x (List.mem_of_mem_drop (List.mem_of_mem_take hx))
    · exact mvOps_in _ _ (fun y hy => (h2 y (List.mem_of_mem_drop (List.mem_of_mem_take hy))).1) e he
  · split at he
    · rename_i x y hx hy
      split at he
      · simp at he
      · exact insOps_in (fun _ => h1 x (List.mem_of_getElem? hx)) (fun _ => (h2 y (List.mem_of_getElem? hy)).2) e he
    · simp at he

theorem blkOps_in {R L : List Int} {code : List In} {mach : List Mi} (rows : List Rw) (bt mt : Tm) (h1 : ∀ x ∈ code, x.d ∈ R) (h2 : ∀ y ∈ mach, y.dst ∈ L ∧ 2 * y.d ∈ L) : ∀ e ∈ blkOps code mach rows bt mt, e.In R L := fun e he => by
  unfold blkOps at he
  rcases List.mem_append.1 he with he | he
  · obtain ⟨w, _, hw⟩ := List.mem_flatMap.1 he
    exact rowOps_in h1 h2 e hw
  · split at he
    · simp at he
    · rw [List.mem_singleton] at he
      subst he
      trivial

theorem blk_in1 (l : List Pr) (code : List In) : ∀ x ∈ code, x.d ∈ blkR l code := fun x hx => List.mem_append_right _ (List.mem_map.2 ⟨x, hx, rfl⟩)

theorem blk_in2 (l : List Pr) (mach : List Mi) : ∀ y ∈ mach, y.dst ∈ blkL l mach ∧ 2 * y.d ∈ blkL l mach := fun y hy =>
  ⟨List.mem_append_right _ (List.mem_append_left _ (List.mem_map.2 ⟨y, hy, rfl⟩)), List.mem_append_right _ (List.mem_append_right _ (List.mem_map.2 ⟨y, hy, rfl⟩))⟩

/-- What the statement on larger sets asks. -/
theorem checkE_mono {code : List In} {mach : List Mi} {bt mt : Tm} {ok : Bool} {l m : List Pr} {most : Int} (hl : Srt l) (hm : Srt m) (hs : ∀ q ∈ l, q ∈ m) (hb : (((m.length + code.length) * (m.length + 2 * mach.length) : Nat) : Int) ≤ most) (h1 : (m.length : Int) ≤ most) :
    ((checkE code mach bt mt ok l most).err ≠ 0 → (checkE code mach bt mt ok l most).err = (checkE code mach bt mt ok m most).err ∨ (checkE code mach bt mt ok l most).err = 21) ∧
    ((checkE code mach bt mt ok l most).err = 0 → (checkE code mach bt mt ok m most).err = 0 ∧ (∀ q ∈ (checkE code mach bt mt ok l most).out, q ∈ (checkE code mach bt mt ok m most).out) ∧ Srt (checkE code mach bt mt ok l most).out ∧ Srt (checkE code mach bt mt ok m most).out ∧
      (checkE code mach bt mt ok l most).largest ≤ (checkE code mach bt mt ok m most).largest ∧ (checkE code mach bt mt ok l most).steps ≤ (checkE code mach bt mt ok m most).steps) := by
  have hlm := nodup_len l m (srt_nodup hl) hs
  unfold checkE
  rw [if_neg (by omega), if_neg (by omega)]
  rcases alC_out code mach with ⟨r, hr, hch⟩ | ⟨y, hr, _, _⟩
  · rw [hr]
    dsimp only
    simp only [ne_eq, not_true_eq_false, if_false]
    cases ok
    · simp only [if_true]
      exact ⟨fun _ => .inl trivial, (fun h => by cases h)⟩
    · simp only [Bool.true_eq_false, if_false]
      have hin := blkOps_in r bt mt (blk_in1 m code) (blk_in2 m mach)
      have hmo : Mono (blkR m code) (blkL m mach) ⟨l, 0, 0, 0, l.length⟩ ⟨m, 0, 0, 0, m.length⟩ := ⟨rfl, rfl, hs, hl, hm, pin_self m code mach, Nat.le_refl _, hlm, Nat.le_refl _, Nat.le_refl _⟩
      have hRL : (((blkR m code).length * (blkL m mach).length : Nat) : Int) ≤ most := by rw [blkR_len, blkL_len]; exact hb
      have hrm := foldE_room hRL _ ⟨l, 0, 0, 0, l.length⟩ hin rfl hl (fun q hq => pin_self m code mach q (hs q hq)) (Nat.le_refl _)
      have hmm := foldE_mono hRL _ _ _ hin hmo
      unfold runE
      dsimp only
      generalize foldE most (blkOps code mach r bt mt) ⟨l, 0, 0, 0, l.length⟩ = p at *
      generalize foldE most (blkOps code mach r bt mt) ⟨m, 0, 0, 0, m.length⟩ = q at *
      by_cases h0 : p.err = 0
      · have k := hmm h0
        rw [if_pos h0, if_pos k.es]
        exact ⟨fun h => absurd h0 h, fun _ => ⟨k.es, k.sub, k.sr, k.ss, k.largest, k.steps⟩⟩
      · rw [if_neg h0]
        exact ⟨fun _ => .inr (hrm.resolve_left h0), fun h => absurd h h0⟩
  · rw [hr]
    dsimp only
    rw [if_pos (by decide), if_pos (by decide)]
    exact ⟨fun _ => .inl rfl, (fun h => by cases h)⟩

end Go.Proofs.Ytcoehkphdfejjaa

/-
  What stays small while a check is under way; the first row of an alignment; the bounds of an instruction.
-/
namespace Go.Proofs.Ytcoehkphdfejjaa
open Go.RowKit
set_option linter.unusedVariables false
set_option linter.unusedSimpArgs false

theorem mods5 (W : World) (p : Nat) (a0 a1 a2 a3 a4 : Value) : Mods (Is p) W (((((W.setCell ⟨p, 0, none⟩ a0).setCell ⟨p, 1, none⟩ a1).setCell ⟨p, 2, none⟩ a2).setCell ⟨p, 3, none⟩ a3).setCell ⟨p, 4, none⟩ a4) :=
  (((((Mods.refl _ W).put 0 a0).put 1 a1).put 2 a2).put 3 a3).put 4 a4

/-- What stays small while a check is under way. -/
structure RI (R L : List Int) (s : Nat) (r : Rs) : Prop where
  srt : Srt r.out
  inn : PIn R L r.out
  len : r.out.length ≤ 400000
  lar : r.largest ≤ 400000
  st : r.steps ≤ s * 400001

theorem RI.mono {R L : List Int} {s t : Nat} {r : Rs} (h : RI R L s r) (hst : s ≤ t) : RI R L t r := ⟨h.srt, h.inn, h.len, h.lar, Nat.le_trans h.st (Nat.mul_le_mul_right _ hst)⟩

theorem RI.step {R L : List Int} {s : Nat} {r : Rs} (h : RI R L s r) (hRL : R.length * L.length ≤ 400000) {e : EOp} (he : e.In R L) (most : Int) : RI R L (s + 1) (stepE most r e) := by
  by_cases h0 : r.err = 0
  · have hl := (h.inn.set he).len (set_srt h.srt e)
    have h1 := h.st
    have h2 := h.len
    have h3 := h.lar
    rcases stepE_ways most r e h0 with ⟨g, _⟩ | ⟨g, _⟩ | g | ⟨g, _⟩
    · rw [g]
      exact ⟨set_srt h.srt e, h.inn.set he, by show (e.set r.out).length ≤ _; omega, by show max _ _ ≤ _; omega, by show r.steps + 1 + r.out.length ≤ _; rw [Nat.succ_mul]; omega⟩
    · rw [g]
      exact ⟨Srt.nil, fun q hq => by simp at hq, Nat.zero_le _, by show max _ _ ≤ _; omega, by show r.steps + 1 + r.out.length ≤ _; rw [Nat.succ_mul]; omega⟩
    · rw [g]
      exact ⟨Srt.nil, fun q hq => by simp at hq, Nat.zero_le _, h3, by show r.steps + 1 + r.out.length ≤ _; rw [Nat.succ_mul]; omega⟩
    · rw [g]
      exact ⟨h.srt, h.inn, h2, h3, by show r.steps + 1 + r.out.length ≤ _; rw [Nat.succ_mul]; omega⟩
  · rw [stepE_err h0]
    exact h.mono (Nat.le_succ _)

theorem RI.fold {R L : List Int} (hRL : R.length * L.length ≤ 400000) (most : Int) : ∀ (es : List EOp) (s : Nat) (r : Rs), RI R L s r → (∀ e ∈ es, e.In R L) → RI R L (s + es.length) (foldE most es r)
  | [], s, r, h, _ => h
  | e :: es, s, r, h, he => by
    rw [foldE_cons, List.length_cons, show s + (es.length + 1) = s + 1 + es.length by omega]
    exact RI.fold hRL most es (s + 1) _ (h.step hRL (he e (by simp)) most) fun f hf => he f (List.mem_cons_of_mem _ hf)

theorem RI.big {R L : List Int} {s : Nat} {r : Rs} (h : RI R L s r) (hs : s ≤ 100000) : r.steps ≤ 1000000000000 := by
  have := h.st
  have := Nat.mul_le_mul_right 400001 hs
  omega

theorem mvOps_mem : ∀ (l : List Mi) (i j : Nat) (h : j < l.length), EOp.mv l[j].dst l[j].src (i + j) ∈ mvOps l i
  | x :: l, i, 0, _ => by simp [mvOps]
  | x :: l, i, j + 1, h => by
    have := mvOps_mem l (i + 1) j (by simpa using h)
    rw [show i + 1 + j = i + (j + 1) by omega] at this
    exact List.mem_cons_of_mem _ this

/-- The first of the rows. -/
theorem Chn.head {code : List In} {mach : List Mi} {i k : Nat} {row : Rw} {rest : List Rw} (h : Chn code mach i k (row :: rest)) : ∃ (ct mt_ : Nat) (sI mI : Int) (tl : List EOp), row = ⟨i, ct, k, mt_, sI, mI⟩ ∧ i ≤ ct ∧ ct ≤ code.length ∧ k ≤ mt_ ∧ mt_ ≤ mach.length ∧
    rowOps code mach row = ((code.drop i).take (ct - i)).map (fun x => EOp.cp x.d x.a k) ++ mvOps ((mach.drop k).take (mt_ - k)) k ++ tl ∧
    ((sI < 0 ∧ tl = [] ∧ rest = []) ∨ (∃ (h1 : ct < code.length) (h2 : mt_ < mach.length), sI = ct ∧ mI = mt_ ∧ tl = insOps code[ct] mach[mt_] mt_ ∧ smP code[ct] mach[mt_] = true ∧ Chn code mach (ct + 1) (mt_ + 1) rest)) := by
  cases h with
  | last hi hk hcc hmm =>
    refine ⟨code.length, mach.length, -1, -1, [], rfl, hi, Nat.le_refl _, hk, Nat.le_refl _, ?_, .inl ⟨by decide, rfl, rfl⟩⟩
    rw [rowOps_last, List.take_of_length_le (by simp), List.take_of_length_le (by simp), List.append_nil]
  | @step _ _ ct mt_ _ hi hxl hk hyl hcc hmm hs hr =>
    exact ⟨ct, mt_, ct, mt_, _, rfl, hi, Nat.le_of_lt hxl, hk, Nat.le_of_lt hyl, rowOps_step hxl hyl, .inr ⟨hxl, hyl, rfl, rfl, rfl, hs, hr⟩⟩

theorem mi_bounds {nR nS : Nat} {u : In} {v : Mi} (h : MiOk nR nS v) (hs : smP u v = true) : (uA u.op = true → 0 ≤ v.a ∧ v.a < nR) ∧ (uB u.op = true → 0 ≤ v.b ∧ v.b < nR) ∧ (uD u.op = true → 0 ≤ v.d ∧ v.d < nR) := by
  simp only [smP, Bool.and_eq_true, beq_iff_eq, bne_iff_ne, ne_eq] at hs
  obtain ⟨⟨⟨h1, h2⟩, h3⟩, _⟩ := hs
  rcases h with ⟨h, _⟩ | ⟨h, ha⟩ | ⟨_, _, _, g1, g2, g3, g4, g5, g6⟩
  · exact absurd (h1.trans h) h3
  · rw [h1, h]
    exact ⟨fun _ => ha, fun e => absurd e (by decide), fun e => absurd e (by decide)⟩
  · exact ⟨fun _ => ⟨g1, g2⟩, fun _ => ⟨g5, g6⟩, fun _ => ⟨g3, g4⟩⟩

end Go.Proofs.Ytcoehkphdfejjaa

/-
  The reference's fail, grow and use of layer 14; results and their comparison.
-/
namespace Go.Proofs.Ytcoehkphdfejjaa
open Go.RowKit
set_option linter.unusedVariables false

theorem Row.put5 {W : World} {p : Nat} {T : TypeId} {z0 z1 z2 z3 z4 : Value} (h : Row W p T #[z0, z1, z2, z3, z4]) (a0 a1 a2 a3 a4 : Value) :
    Row (((((W.setCell ⟨p, 0, none⟩ a0).setCell ⟨p, 1, none⟩ a1).setCell ⟨p, 2, none⟩ a2).setCell ⟨p, 3, none⟩ a3).setCell ⟨p, 4, none⟩ a4) p T #[a0, a1, a2, a3, a4] := by
  have q0 : Row _ p T #[a0, z1, z2, z3, z4] := h.put 0 a0
  have q1 : Row _ p T #[a0, a1, z2, z3, z4] := q0.put 1 a1
  have q2 : Row _ p T #[a0, a1, a2, z3, z4] := q1.put 2 a2
  have q3 : Row _ p T #[a0, a1, a2, a3, z4] := q2.put 3 a3
  exact q3.put 4 a4

theorem blw5 {B p : Nat} {w W : World} (hp : B ≤ p) (h : Below B w W) (a0 a1 a2 a3 a4 : Value) :
    Below B w (((((W.setCell ⟨p, 0, none⟩ a0).setCell ⟨p, 1, none⟩ a1).setCell ⟨p, 2, none⟩ a2).setCell ⟨p, 3, none⟩ a3).setCell ⟨p, 4, none⟩ a4) :=
  ((((h.setCell (p := ⟨p, 0, none⟩) hp a0).setCell (p := ⟨p, 1, none⟩) hp a1).setCell (p := ⟨p, 2, none⟩) hp a2).setCell (p := ⟨p, 3, none⟩) hp a3).setCell (p := ⟨p, 4, none⟩) hp a4

/-- The result variable, and the box of the argument. -/
theorem two_rows (w : World) (T : TypeId) (x y : Array Value) : Below w.heap.size w ((w.alloc (.cells x T)).alloc (.cells y T)) ∧ Row ((w.alloc (.cells x T)).alloc (.cells y T)) w.heap.size T x ∧ Row ((w.alloc (.cells x T)).alloc (.cells y T)) (w.heap.size + 1) T y := by
  have hR := Row.new (w.alloc (.cells x T)) T y
  rw [show (w.alloc (.cells x T)).heap.size = w.heap.size + 1 by simp] at hR
  exact ⟨((Below.refl w.heap.size w).alloc (Nat.le_refl _) _).alloc (by simp) _, (Row.new w T x).alloc _, hR⟩

end Go.Proofs.Ytcoehkphdfejjaa

/-
  The methods of a check that panics at its first error: count, fit, become, use.
-/
namespace Go.Proofs.Ytcoehkphdfejjaa
open Go.RowKit
set_option linter.unusedVariables false

theorem own_row_neB {w : World} {lo n p sz : Nat} {e T : TypeId} {v : Value} {xs : List Value} {cs : Array Value} (h : w.ownsRow lo e sz v n xs) (hr : Row w p T cs) (hT : e ≠ T) : ∀ k, v.ownBlock = some k → ¬ k = p := by
  intro k hk e1
  subst e1
  rcases h.2 with ⟨rfl, _⟩ | ⟨a, cap, cur, rfl, _, h1, _⟩
  · cases hk
  · simp only [Value.ownBlock, Option.some.injEq] at hk
    subst hk
    unfold Row at hr
    rw [h1] at hr
    injection hr with hr
    injection hr with h2 h3
    exact hT h3

theorem PL.mods {w0 W W' : World} {sb : Nat} {v : Value} {l : List Pr} {T : TypeId} {cs : Array Value} (h : PL w0 v l W) (hr : Row W sb T cs) (hT : 66 ≠ T) (hb : w0.heap.size ≤ sb) (hm : Mods (Is sb) W W') : PL w0 v l W' :=
  ⟨hm.ownS h.own (own_row_neB h.own hr hT), h.blw.trans ((hm.below h.blw.size fun k hk => by rw [show k = sb from hk]; exact hb))⟩

end Go.Proofs.Ytcoehkphdfejjaa
