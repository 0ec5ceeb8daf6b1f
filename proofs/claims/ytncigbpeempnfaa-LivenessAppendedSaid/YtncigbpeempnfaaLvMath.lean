/-
  Liveness on data: what a block uses and defines, the live registers as marks of rounds, their equations, and that
  other registers do not matter.
-/
import Derived.Test.YtncigbpeempnfaaPk1
namespace Go.Proofs.Ytncigbpeempnfaa
open Go.RowKit
set_option linter.unusedVariables false

def iUse (x : In) (v : Int) : Bool := uA x.op && x.a == v || uB x.op && x.b == v

def iDef (x : In) (v : Int) : Bool := uD x.op && x.d == v

/-- The instructions before index k define v. -/
def lvD (l : List In) (v : Int) (k : Nat) : Bool := (l.take k).any fun x => iDef x v

/-- Among the instructions before index k one uses v before it is defined. -/
def lvU (l : List In) (v : Int) : Nat → Bool
  | 0 => false
  | k + 1 => lvU l v k || (match l[k]? with | some x => iUse x v && !lvD l v k | none => false)

def tUse (t : Tm) (v : Int) : Bool := t.kind != 1 && t.a == v

def bDef (b : Blk) (v : Int) : Bool := lvD b.code v b.code.length

def bUse (b : Blk) (v : Int) : Bool := lvU b.code v b.code.length || tUse b.term v && !bDef b v

/-- A register is live at the entry of a block: the document's paths. -/
inductive Lv (bs : List Blk) (v : Int) : Nat → Prop
  | use {i : Nat} : i < bs.length → bUse (blkAt bs i) v = true → Lv bs v i
  | edge {i : Nat} {s : Int} : i < bs.length → s ∈ succs (blkAt bs i).term → Lv bs v s.toNat → bDef (blkAt bs i) v = false → Lv bs v i

theorem Lv.lt {bs : List Blk} {v : Int} {i : Nat} (h : Lv bs v i) : i < bs.length := by cases h <;> assumption

/-- The equation. -/
theorem lv_iff {bs : List Blk} {v : Int} {i : Nat} (hi : i < bs.length) : Lv bs v i ↔ bUse (blkAt bs i) v = true ∨ (∃ s ∈ succs (blkAt bs i).term, Lv bs v s.toNat) ∧ bDef (blkAt bs i) v = false := by
  constructor
  · intro h
    cases h with
    | use _ h => exact .inl h
    | edge _ hs hl hd => exact .inr ⟨⟨_, hs, hl⟩, hd⟩
  · rintro (h | ⟨⟨s, hs, hl⟩, hd⟩)
    · exact .use hi h
    · exact .edge hi hs hl hd

theorem lvD_succ (l : List In) (v : Int) (k : Nat) (h : k < l.length) : lvD l v (k + 1) = (lvD l v k || iDef l[k] v) := by
  unfold lvD
  rw [List.take_succ_eq_append_getElem h, List.any_append]
  simp

theorem lvD_zero (l : List In) (v : Int) : lvD l v 0 = false := by simp [lvD]

theorem lvU_succ (l : List In) (v : Int) (k : Nat) (h : k < l.length) : lvU l v (k + 1) = (lvU l v k || iUse l[k] v && !lvD l v k) := by
  rw [lvU, List.getElem?_eq_getElem h]

theorem lvU_mono {l : List In} {v : Int} {k m : Nat} (h : k ≤ m) (hk : lvU l v k = true) : lvU l v m = true := by
  induction m with
  | zero => obtain rfl : k = 0 := by omega
            exact hk
  | succ m ih =>
    by_cases e : k = m + 1
    · subst e; exact hk
    · rw [lvU, ih (by omega), Bool.true_or]

/-- Blocks appended to which none leads do not matter. -/
theorem lv_app {bs cs : List Blk} {v : Int} {regs : Nat} (ht : ∀ b ∈ bs, TmOk regs bs.length b.term) : ∀ {i : Nat}, i < bs.length → (Lv (bs ++ cs) v i ↔ Lv bs v i) := by
  have hb : ∀ i, i < bs.length → blkAt (bs ++ cs) i = blkAt bs i := fun i hi => by
    rw [blkAt_lt hi, blkAt_lt (by rw [List.length_append]; omega), List.getElem_append_left hi]
  have hs : ∀ i, i < bs.length → ∀ s ∈ succs (blkAt bs i).term, s.toNat < bs.length := fun i hi s hs => by
    have := ht _ (blkAt_mem hi)
    unfold succs at hs
    rcases this with ⟨e, h1, h2⟩ | ⟨e, _, _, h1, h2, h3, h4⟩ | ⟨e, _, _⟩
    · rw [if_pos e] at hs; simp only [List.mem_singleton] at hs; subst hs; omega
    · rw [if_neg (by rw [e]; decide), if_pos e] at hs
      simp only [List.mem_cons, List.not_mem_nil, or_false] at hs
      rcases hs with rfl | rfl <;> omega
    · rw [if_neg (by rw [e]; decide), if_neg (by rw [e]; decide)] at hs; simp at hs
  intro i hi
  constructor
  · intro h
    induction h with
    | use _ h => rw [hb _ hi] at h; exact .use hi h
    | edge _ hm _ hd ih =>
      rw [hb _ hi] at hm hd
      exact .edge hi hm (ih (hs _ hi _ hm)) hd
  · intro h
    induction h with
    | use _ h => exact .use (by rw [List.length_append]; omega) (by rw [hb _ hi]; exact h)
    | edge _ hm hl hd ih =>
      exact .edge (by rw [List.length_append]; omega) (by rw [hb _ hi]; exact hm) (ih hl.lt) (by rw [hb _ hi]; exact hd)

/-- The targets of a valid terminator. -/
theorem succs_lt {regs n : Nat} {t : Tm} (h : TmOk regs n t) : ∀ s ∈ succs t, 0 ≤ s ∧ s < n := by
  intro s hs
  unfold succs at hs
  rcases h with ⟨e, h1, h2⟩ | ⟨e, _, _, h1, h2, h3, h4⟩ | ⟨e, _, _⟩
  · rw [if_pos e] at hs; simp only [List.mem_singleton] at hs; subst hs; exact ⟨h1, h2⟩
  · rw [if_neg (by rw [e]; decide), if_pos e] at hs
    simp only [List.mem_cons, List.not_mem_nil, or_false] at hs
    rcases hs with rfl | rfl
    · exact ⟨h1, h2⟩
    · exact ⟨h3, h4⟩
  · rw [if_neg (by rw [e]; decide), if_neg (by rw [e]; decide)] at hs; simp at hs

/-! The marks of the reference's rounds. -/

def mk1 (bs : List Blk) (v : Int) (m : List Bool) (i : Nat) : Bool := m.getD i false || bUse (blkAt bs i) v || (succs (blkAt bs i).term).any (fun s => m.getD s.toNat false) && !bDef (blkAt bs i) v

def mkS (bs : List Blk) (v : Int) (m : List Bool) (i : Nat) : List Bool := m.set i (mk1 bs v m i)

def mkR (bs : List Blk) (v : Int) (m : List Bool) : Nat → List Bool
  | 0 => m
  | k + 1 => mkS bs v (mkR bs v m k) k

def mkN (bs : List Blk) (v : Int) : Nat → List Bool
  | 0 => List.replicate bs.length false
  | r + 1 => mkR bs v (mkN bs v r) bs.length

theorem mkS_len (bs : List Blk) (v : Int) (m : List Bool) (i : Nat) : (mkS bs v m i).length = m.length := by simp [mkS]

theorem mkR_len (bs : List Blk) (v : Int) (m : List Bool) : ∀ k, (mkR bs v m k).length = m.length
  | 0 => rfl
  | k + 1 => by rw [mkR, mkS_len, mkR_len bs v m k]

theorem mkN_len (bs : List Blk) (v : Int) : ∀ r, (mkN bs v r).length = bs.length
  | 0 => by simp [mkN]
  | r + 1 => by rw [mkN, mkR_len, mkN_len bs v r]

/-- Marks only grow. -/
def Le (m m' : List Bool) : Prop := ∀ i : Nat, m.getD i false = true → m'.getD i false = true

theorem mkS_le (bs : List Blk) (v : Int) (m : List Bool) (i : Nat) : Le m (mkS bs v m i) := fun j hj => by
  by_cases h : i < m.length
  · by_cases e : j = i
    · subst e
      simp only [mkS, List.getD_eq_getElem?_getD, List.getElem?_set_self h, Option.getD_some]
      unfold mk1
      rw [hj]; rfl
    · simp only [mkS, List.getD_eq_getElem?_getD, List.getElem?_set_ne (Ne.symm e)] at hj ⊢
      exact hj
  · rw [mkS, List.set_eq_of_length_le (by omega)]; exact hj

theorem mkR_le (bs : List Blk) (v : Int) (m : List Bool) : ∀ k, Le m (mkR bs v m k)
  | 0 => fun _ h => h
  | k + 1 => fun i h => mkS_le bs v _ k i (mkR_le bs v m k i h)

/-- What is marked is live. -/
def Snd (bs : List Blk) (v : Int) (m : List Bool) : Prop := ∀ i, m.getD i false = true → Lv bs v i

theorem mkS_snd {bs : List Blk} {v : Int} {m : List Bool} {i : Nat} (hi : i < bs.length) (h : Snd bs v m) : Snd bs v (mkS bs v m i) := fun j hj => by
  by_cases e : j = i
  · subst e
    by_cases hl : j < m.length
    · simp only [mkS, List.getD_eq_getElem?_getD, List.getElem?_set_self hl, Option.getD_some] at hj
      unfold mk1 at hj
      simp only [Bool.or_eq_true, Bool.and_eq_true, Bool.not_eq_true', List.any_eq_true] at hj
      rcases hj with (h1 | h1) | ⟨⟨s, h1, h2⟩, h3⟩
      · exact h j h1
      · exact .use hi h1
      · exact .edge hi h1 (h _ h2) h3
    · rw [mkS, List.set_eq_of_length_le (by omega)] at hj; exact h j hj
  · simp only [mkS, List.getD_eq_getElem?_getD, List.getElem?_set_ne (Ne.symm e)] at hj
    exact h j (by rw [List.getD_eq_getElem?_getD]; exact hj)

theorem mkR_snd {bs : List Blk} {v : Int} {m : List Bool} (h : Snd bs v m) : ∀ k, k ≤ bs.length → Snd bs v (mkR bs v m k)
  | 0, _ => h
  | k + 1, hk => mkS_snd (by omega) (mkR_snd h k (by omega))

theorem mkN_snd (bs : List Blk) (v : Int) : ∀ r, Snd bs v (mkN bs v r)
  | 0 => fun i h => by
    rw [mkN, List.getD_eq_getElem?_getD] at h
    by_cases hi : i < bs.length
    · rw [List.getElem?_replicate, if_pos hi] at h; simp at h
    · rw [List.getElem?_replicate, if_neg hi] at h; simp at h
  | r + 1 => mkR_snd (mkN_snd bs v r) _ (Nat.le_refl _)

/-! Counting: among n + 1 rounds one changes nothing. -/

def cntT (m : List Bool) : Nat := m.countP id

theorem cntT_set (m : List Bool) (i : Nat) (b : Bool) (h : i < m.length) (hb : m[i] = true → b = true) : cntT m ≤ cntT (m.set i b) ∧ (cntT (m.set i b) = cntT m → m.set i b = m) := by
  unfold cntT
  rw [List.countP_set h]
  by_cases h1 : m[i] = true
  · have hb := hb h1
    subst hb
    have hpos : 0 < m.countP id := List.countP_pos_iff.2 ⟨m[i], List.getElem_mem h, h1⟩
    refine ⟨by simp [h1]; omega, fun _ => ?_⟩
    rw [← h1]; exact List.set_getElem_self h
  · have h1 : m[i] = false := by simpa using h1
    cases b with
    | false => refine ⟨by simp [h1], fun _ => ?_⟩; rw [← h1]; exact List.set_getElem_self h
    | true => refine ⟨by simp [h1], fun e => ?_⟩; simp [h1] at e

theorem mkS_cnt (bs : List Blk) (v : Int) (m : List Bool) (i : Nat) : cntT m ≤ cntT (mkS bs v m i) ∧ (cntT (mkS bs v m i) = cntT m → mkS bs v m i = m) := by
  by_cases h : i < m.length
  · refine cntT_set m i _ h fun e => ?_
    unfold mk1
    rw [List.getD_eq_getElem?_getD, List.getElem?_eq_getElem h, Option.getD_some, e]; rfl
  · rw [mkS, List.set_eq_of_length_le (by omega)]
    exact ⟨Nat.le_refl _, fun _ => rfl⟩

theorem mkR_cnt (bs : List Blk) (v : Int) (m : List Bool) : ∀ k, cntT m ≤ cntT (mkR bs v m k) ∧ (cntT (mkR bs v m k) = cntT m → ∀ j, j ≤ k → mkR bs v m j = m)
  | 0 => ⟨Nat.le_refl _, fun _ j hj => by obtain rfl : j = 0 := by omega
                                          rfl⟩
  | k + 1 => by
    obtain ⟨h1, h2⟩ := mkR_cnt bs v m k
    obtain ⟨g1, g2⟩ := mkS_cnt bs v (mkR bs v m k) k
    refine ⟨Nat.le_trans h1 g1, fun e j hj => ?_⟩
    have e1 : cntT (mkR bs v m k) = cntT m := by rw [mkR] at e; omega
    by_cases hk : j = k + 1
    · subst hk
      rw [mkR, g2 (by rw [mkR] at e; omega)]
      exact h2 e1 k (Nat.le_refl _)
    · exact h2 e1 j (by omega)

theorem cntT_le (m : List Bool) : cntT m ≤ m.length := List.countP_le_length

/-- Marks that a round does not change: nothing is missing. -/
theorem fix_cmp {bs : List Blk} {v : Int} {m : List Bool} (hm : m.length = bs.length) (h : ∀ j, j ≤ bs.length → mkR bs v m j = m) : ∀ i, Lv bs v i → m.getD i false = true := by
  have hs : ∀ i, i < bs.length → mk1 bs v m i = m.getD i false := fun i hi => by
    have h1 := h (i + 1) hi
    rw [mkR, h i (by omega), mkS] at h1
    have h2 : (m.set i (mk1 bs v m i))[i]? = m[i]? := by rw [h1]
    rw [List.getElem?_set_self (by omega)] at h2
    rw [List.getD_eq_getElem?_getD, ← h2]; rfl
  intro i hl
  induction hl with
  | use hi h => rw [← hs _ hi, mk1, h]; simp
  | edge hi hm _ hd ih =>
    rw [← hs _ hi, mk1]
    have : (succs (blkAt bs _).term).any (fun s => m.getD s.toNat false) = true := List.any_eq_true.2 ⟨_, hm, ih⟩
    rw [this, hd]; simp

theorem fix_more {bs : List Blk} {v : Int} {r : Nat} (h : mkN bs v (r + 1) = mkN bs v r) : ∀ k, mkN bs v (r + k) = mkN bs v r
  | 0 => rfl
  | k + 1 => by
    show mkR bs v (mkN bs v (r + k)) _ = _
    rw [fix_more h k]; exact h

theorem grow (bs : List Blk) (v : Int) : ∀ r, r ≤ cntT (mkN bs v r) ∨ ∃ k, k < r ∧ cntT (mkN bs v (k + 1)) = cntT (mkN bs v k)
  | 0 => .inl (Nat.zero_le _)
  | r + 1 => by
    rcases grow bs v r with h | ⟨k, hk, h⟩
    · have := (mkR_cnt bs v (mkN bs v r) bs.length).1
      by_cases e : cntT (mkN bs v (r + 1)) = cntT (mkN bs v r)
      · exact .inr ⟨r, by omega, e⟩
      · left
        rw [mkN] at e ⊢
        omega
    · exact .inr ⟨k, by omega, h⟩

/-- After one round more than there are blocks, exactly the live ones are marked. -/
theorem mkN_iff (bs : List Blk) (v : Int) (i : Nat) : (mkN bs v (bs.length + 1)).getD i false = true ↔ Lv bs v i := by
  refine ⟨mkN_snd bs v _ i, fun h => ?_⟩
  have h0 : ∃ k, k ≤ bs.length ∧ cntT (mkN bs v (k + 1)) = cntT (mkN bs v k) := by
    rcases grow bs v (bs.length + 1) with g | ⟨k, hk, g⟩
    · have := cntT_le (mkN bs v (bs.length + 1))
      rw [mkN_len] at this
      omega
    · exact ⟨k, by omega, g⟩
  obtain ⟨k, hk, hc⟩ := h0
  have hf := (mkR_cnt bs v (mkN bs v k) bs.length).2 hc
  have h1 : mkN bs v (k + 1) = mkN bs v k := hf _ (Nat.le_refl _)
  have h2 := fix_more h1 (bs.length + 1 - k)
  rw [show k + (bs.length + 1 - k) = bs.length + 1 by omega] at h2
  rw [h2]
  exact fix_cmp (mkN_len bs v k) hf i h

/-- Whether a register is live, as a truth value. -/
def lvB (bs : List Blk) (v : Int) (i : Nat) : Bool := (mkN bs v (bs.length + 1)).getD i false

theorem lvB_iff (bs : List Blk) (v : Int) (i : Nat) : lvB bs v i = true ↔ Lv bs v i := mkN_iff bs v i

/-- Live at the exit. -/
def lvO (bs : List Blk) (v : Int) (i : Nat) : Bool := (succs (blkAt bs i).term).any fun s => lvB bs v s.toNat

theorem lvB_eq {bs : List Blk} {v : Int} {i : Nat} (hi : i < bs.length) : lvB bs v i = (bUse (blkAt bs i) v || lvO bs v i && !bDef (blkAt bs i) v) := by
  rw [Bool.eq_iff_iff, lvB_iff, lv_iff hi]
  simp only [lvO, Bool.or_eq_true, Bool.and_eq_true, Bool.not_eq_true', List.any_eq_true, lvB_iff]

/-- The registers below k that P holds of, in ascending order. -/
def regL (P : Int → Bool) : Nat → List Int
  | 0 => []
  | k + 1 => if P (k : Int) then regL P k ++ [(k : Int)] else regL P k

theorem regL_mem (P : Int → Bool) (v : Int) : ∀ k, v ∈ regL P k ↔ 0 ≤ v ∧ v < k ∧ P v = true
  | 0 => by simp [regL]; omega
  | k + 1 => by
    rw [regL]
    by_cases h : P (k : Int) = true
    · rw [if_pos h, List.mem_append, List.mem_singleton, regL_mem P v k]
      constructor
      · rintro (⟨h1, h2, h3⟩ | rfl)
        · exact ⟨h1, by omega, h3⟩
        · exact ⟨by omega, by omega, h⟩
      · rintro ⟨h1, h2, h3⟩
        by_cases e : v = (k : Int)
        · exact .inr e
        · exact .inl ⟨h1, by omega, h3⟩
    · rw [if_neg h, regL_mem P v k]
      constructor
      · rintro ⟨h1, h2, h3⟩; exact ⟨h1, by omega, h3⟩
      · rintro ⟨h1, h2, h3⟩
        by_cases e : v = (k : Int)
        · subst e; exact absurd h3 h
        · exact ⟨h1, by omega, h3⟩

theorem regL_len (P : Int → Bool) : ∀ k, (regL P k).length ≤ k
  | 0 => Nat.le_refl _
  | k + 1 => by
    rw [regL]
    have := regL_len P k
    split
    · rw [List.length_append, List.length_singleton]; omega
    · omega

theorem regL_congr {P Q : Int → Bool} : ∀ k : Nat, (∀ v : Int, 0 ≤ v → v < k → P v = Q v) → regL P k = regL Q k
  | 0, _ => rfl
  | k + 1, h => by
    rw [regL, regL, regL_congr k fun v h0 h1 => h v h0 (by omega), h k (by omega) (by omega)]

/-- In ascending order: any list that is strictly ascending and has the same elements is the same list. -/
theorem regL_sorted (P : Int → Bool) : ∀ k, (regL P k).Pairwise (· < ·)
  | 0 => List.Pairwise.nil
  | k + 1 => by
    rw [regL]
    split
    · rw [List.pairwise_append]
      refine ⟨regL_sorted P k, List.pairwise_singleton _ _, fun a ha b hb => ?_⟩
      rw [List.mem_singleton] at hb
      subst hb
      exact ((regL_mem P a k).1 ha).2.1
    · exact regL_sorted P k

theorem asc_ext : ∀ {l m : List Int}, l.Pairwise (· < ·) → m.Pairwise (· < ·) → (∀ v, v ∈ l ↔ v ∈ m) → l = m
  | [], [], _, _, _ => rfl
  | [], y :: m, _, _, h => absurd ((h y).2 (by simp)) (by simp)
  | x :: l, [], _, _, h => absurd ((h x).1 (by simp)) (by simp)
  | x :: l, y :: m, hl, hm, h => by
    obtain ⟨l1, l2⟩ := List.pairwise_cons.1 hl
    obtain ⟨m1, m2⟩ := List.pairwise_cons.1 hm
    have e : x = y := by
      rcases List.mem_cons.1 ((h x).1 (by simp)) with e | hx
      · exact e
      · rcases List.mem_cons.1 ((h y).2 (by simp)) with e | hy
        · exact e.symm
        · have := l1 _ hy
          have := m1 _ hx
          omega
    subst e
    rw [asc_ext l2 m2 fun v => ?_]
    constructor
    · intro hv
      rcases List.mem_cons.1 ((h v).1 (List.mem_cons_of_mem _ hv)) with e | hv'
      · have := l1 _ hv; omega
      · exact hv'
    · intro hv
      rcases List.mem_cons.1 ((h v).2 (List.mem_cons_of_mem _ hv)) with e | hv'
      · have := m1 _ hv; omega
      · exact hv'

def useL (b : Blk) (n : Nat) : List Int := regL (bUse b) n

def defL (b : Blk) (n : Nat) : List Int := regL (bDef b) n

def inL (bs : List Blk) (n i : Nat) : List Int := regL (fun v => lvB bs v i) n

def outL (bs : List Blk) (n i : Nat) : List Int := regL (fun v => lvO bs v i) n

end Go.Proofs.Ytncigbpeempnfaa
