import Derived.Test.YtcoehkphdfejjaaPk1
import Derived.Test.YtcoehkphdfejjaaPk3
import Derived.Laws.StructEq
import Derived.Deep.RegionHeldLaw

/-
  Alignments of a source block and an allocated block, as data.
-/
namespace Go.Proofs.Ytcoehkphdfejjaa
open Go.RowKit
set_option linter.unusedVariables false
set_option linter.unusedSectionVars false

/-- A row of an alignment. -/
structure Rw where
  cf : Int
  ct : Int
  mf : Int
  mt : Int
  s : Int
  m : Int

def isC (x : In) : Bool := x.op == 2

def isM (x : Mi) : Bool := x.op == 18

/-- Whether an instruction and an allocated instruction correspond. -/
def smP (x : In) (y : Mi) : Bool := x.op == y.op && x.op != 2 && x.op != 18 && x.imm == y.imm

section
variable {α : Type} (p : α → Bool)

/-- How many elements at the beginning satisfy p. -/
def ld : List α → Nat
  | [] => 0
  | x :: r => if p x then ld r + 1 else 0

/-- The indices of those that do not. -/
def idx : List α → Nat → List Nat
  | [], _ => []
  | x :: r, i => if p x then idx r (i + 1) else i :: idx r (i + 1)

theorem ld_le : ∀ l : List α, ld p l ≤ l.length
  | [] => Nat.le_refl _
  | x :: r => by
    rw [ld]
    have := ld_le r
    split <;> simp <;> omega

theorem ld_lt : ∀ (l : List α) (k : Nat) (h : k < l.length), k < ld p l → p l[k] = true
  | x :: r, k, h, hk => by
    rw [ld] at hk
    split at hk
    · rcases k with _ | k
      · assumption
      · exact ld_lt r k (by simpa using h) (by omega)
    · omega

theorem ld_at : ∀ (l : List α) (h : ld p l < l.length), p l[ld p l] = false
  | x :: r, h => by
    by_cases hx : p x = true
    · have e : ld p (x :: r) = ld p r + 1 := by rw [ld, if_pos hx]
      simp only [e, List.getElem_cons_succ]
      exact ld_at r _
    · have e : ld p (x :: r) = 0 := by rw [ld, if_neg hx]
      simp only [e, List.getElem_cons_zero]
      simpa using hx

theorem idx_ld : ∀ (l : List α) (i : Nat), idx p l i = if ld p l < l.length then (i + ld p l) :: idx p (l.drop (ld p l + 1)) (i + ld p l + 1) else []
  | [], i => rfl
  | x :: r, i => by
    by_cases hx : p x = true
    · rw [idx, if_pos hx, idx_ld r (i + 1), ld, if_pos hx]
      simp only [List.length_cons, Nat.add_lt_add_iff_right, List.drop_succ_cons]
      rw [show i + 1 + ld p r = i + (ld p r + 1) by omega]
    · rw [idx, if_neg hx, ld, if_neg hx, if_pos (by simp)]
      simp

theorem idx_lt : ∀ (l : List α) (i x : Nat), x ∈ idx p l i → i ≤ x ∧ x < i + l.length ∧ ∀ y, l[x - i]? = some y → p y = false
  | z :: r, i, x, h => by
    rw [idx] at h
    split at h
    · have := idx_lt r (i + 1) x h
      refine ⟨by omega, by simp; omega, fun y hy => ?_⟩
      rw [show x - i = (x - (i + 1)) + 1 by omega, List.getElem?_cons_succ] at hy
      exact this.2.2 y hy
    · rcases List.mem_cons.1 h with rfl | h
      · refine ⟨Nat.le_refl _, by simp, fun y hy => ?_⟩
        simp only [Nat.sub_self, List.getElem?_cons_zero, Option.some.injEq] at hy
        subst hy
        rename_i hn
        simpa using hn
      · have := idx_lt r (i + 1) x h
        refine ⟨by omega, by simp; omega, fun y hy => ?_⟩
        rw [show x - i = (x - (i + 1)) + 1 by omega, List.getElem?_cons_succ] at hy
        exact this.2.2 y hy

theorem idx_len : ∀ (l : List α) (i : Nat), (idx p l i).length = (l.filter fun x => !p x).length
  | [], _ => rfl
  | x :: r, i => by
    rw [idx]
    cases hx : p x
    · simp [hx, idx_len r]
    · simp [hx, idx_len r]

theorem idx_le (l : List α) (i : Nat) : (idx p l i).length ≤ l.length := by
  rw [idx_len]
  exact List.length_filter_le _ _

theorem idx_append : ∀ (a b : List α) (i : Nat), idx p (a ++ b) i = idx p a i ++ idx p b (i + a.length)
  | [], b, i => by simp [idx]
  | x :: r, b, i => by
    rw [List.cons_append, idx, idx, idx_append r b (i + 1), List.length_cons, show i + 1 + r.length = i + (r.length + 1) by omega]
    split
    · rfl
    · rfl

theorem idx_none : ∀ (l : List α) (i : Nat), (∀ x ∈ l, p x = false) → idx p l i = List.range' i l.length
  | [], _, _ => rfl
  | x :: r, i, h => by
    rw [idx, h x (by simp), idx_none r (i + 1) fun y hy => h y (List.mem_cons_of_mem _ hy), List.length_cons, List.range'_succ]
    simp

theorem idx_snoc {l : List α} {k : Nat} (hk : k < l.length) : idx p (l.take (k + 1)) 0 = idx p (l.take k) 0 ++ if p l[k] then [] else [k] := by
  rw [List.take_succ_eq_append_getElem hk, idx_append, List.length_take, Nat.min_eq_left (by omega)]
  cases h : p l[k] <;> simp [idx, h]

end

section
variable (code : List In) (mach : List Mi)

/-- Whether the instructions with these indices correspond. -/
def smA (x y : Nat) : Bool := match code[x]?, mach[y]? with
  | some a, some b => smP a b
  | _, _ => false

/-- The alignment from the indices of the instructions that are left on. -/
def al : List Nat → List Nat → Nat → Nat → List Rw → List Rw × Nat × Int
  | [], [], i, k, acc => (acc ++ [⟨i, code.length, k, mach.length, -1, -1⟩], mach.length, 0)
  | _ :: _, [], _, _, _ => ([], mach.length, 20)
  | [], y :: _, _, _, _ => ([], y, 20)
  | x :: a, y :: b, i, k, acc => if smA code mach x y = true then al a b (x + 1) (y + 1) (acc ++ [⟨i, x, k, y, x, y⟩]) else ([], y, 20)

/-- The alignment from these indices on. -/
def alS (s m : Nat) (acc : List Rw) : List Rw × Nat × Int := al code mach (idx isC (code.drop s) s) (idx isM (mach.drop m) m) s m acc

/-- The alignment. -/
def alC : List Rw × Nat × Int := al code mach (idx isC code 0) (idx isM mach 0) 0 0 []

end

section
variable {code : List In} {mach : List Mi}

theorem smA_eq {x y : Nat} (hx : x < code.length) (hy : y < mach.length) : smA code mach x y = smP code[x] mach[y] := by simp [smA, hx, hy]

theorem alS_zero : alS code mach 0 0 [] = alC code mach := rfl

section
variable {s m ct mt : Nat} {acc : List Rw} (hs : s ≤ code.length) (hm : m ≤ mach.length) (hc : ct = s + ld isC (code.drop s)) (ht : mt = m + ld isM (mach.drop m))
include hs hm hc ht

theorem alS_end (h1 : ct = code.length) (h2 : mt = mach.length) : alS code mach s m acc = (acc ++ [⟨s, ct, m, mt, -1, -1⟩], mt, 0) := by
  unfold alS
  rw [idx_ld isC (code.drop s), idx_ld isM (mach.drop m), if_neg (by simp; omega), if_neg (by simp; omega), al, ← h1, ← h2]

theorem alS_src (h1 : ct = code.length) (h2 : mt < mach.length) : alS code mach s m acc = ([], mt, 20) := by
  unfold alS
  rw [idx_ld isC (code.drop s), idx_ld isM (mach.drop m), if_neg (by simp; omega), if_pos (by simp; omega), al, ht]

theorem alS_mach (h1 : ct < code.length) (h2 : mt = mach.length) : alS code mach s m acc = ([], mt, 20) := by
  unfold alS
  rw [idx_ld isC (code.drop s), idx_ld isM (mach.drop m), if_pos (by simp; omega), if_neg (by simp; omega), al, h2]

theorem alS_bad (h1 : ct < code.length) (h2 : mt < mach.length) (h : smP code[ct] mach[mt] = false) : alS code mach s m acc = ([], mt, 20) := by
  unfold alS
  rw [idx_ld isC (code.drop s), idx_ld isM (mach.drop m), if_pos (by simp; omega), if_pos (by simp; omega), al, ← hc, ← ht, smA_eq h1 h2, h, if_neg (by simp)]

theorem alS_ok (h1 : ct < code.length) (h2 : mt < mach.length) (h : smP code[ct] mach[mt] = true) : alS code mach s m acc = alS code mach (ct + 1) (mt + 1) (acc ++ [⟨s, ct, m, mt, ct, mt⟩]) := by
  unfold alS
  rw [idx_ld isC (code.drop s), idx_ld isM (mach.drop m), if_pos (by simp; omega), if_pos (by simp; omega), al, ← hc, ← ht, smA_eq h1 h2, h, if_pos rfl, List.drop_drop, List.drop_drop,
    show s + (ld isC (code.drop s) + 1) = ct + 1 by omega, show m + (ld isM (mach.drop m) + 1) = mt + 1 by omega]

end

end

end Go.Proofs.Ytcoehkphdfejjaa

/-
  What the rows of an alignment are.
-/
namespace Go.Proofs.Ytcoehkphdfejjaa
open Go.RowKit
set_option linter.unusedVariables false
set_option linter.unusedSectionVars false

/-- The rows from these indices on. -/
inductive Chn (code : List In) (mach : List Mi) : Nat → Nat → List Rw → Prop
  | last {i k : Nat} (hi : i ≤ code.length) (hk : k ≤ mach.length) (hc : ∀ z (h : z < code.length), i ≤ z → isC code[z] = true) (hm : ∀ z (h : z < mach.length), k ≤ z → isM mach[z] = true) :
      Chn code mach i k [⟨i, code.length, k, mach.length, -1, -1⟩]
  | step {i k x y : Nat} {r : List Rw} (hi : i ≤ x) (hx : x < code.length) (hk : k ≤ y) (hy : y < mach.length) (hc : ∀ z (h : z < code.length), i ≤ z → z < x → isC code[z] = true) (hm : ∀ z (h : z < mach.length), k ≤ z → z < y → isM mach[z] = true)
      (hs : smP code[x] mach[y] = true) (hr : Chn code mach (x + 1) (y + 1) r) : Chn code mach i k (⟨i, x, k, y, x, y⟩ :: r)

theorem Chn.ne {code : List In} {mach : List Mi} {i k : Nat} {r : List Rw} (h : Chn code mach i k r) : r ≠ [] := by
  cases h <;> simp

theorem Chn.len {code : List In} {mach : List Mi} {i k : Nat} {r : List Rw} (h : Chn code mach i k r) : r.length + i ≤ code.length + 1 := by
  induction h with
  | last hi _ _ _ => simp; omega
  | step hi hx _ _ _ _ _ _ ih => simp; omega

theorem ld_drop {α : Type} (p : α → Bool) (l : List α) (i : Nat) : ∀ z (h : z < l.length), i ≤ z → z < i + ld p (l.drop i) → p l[z] = true := fun z h h1 h2 => by
  have := ld_lt p (l.drop i) (z - i) (by simp; omega) (by omega)
  simp only [List.getElem_drop] at this
  simpa [show i + (z - i) = z by omega] using this

theorem ld_drop_at {α : Type} (p : α → Bool) (l : List α) (i : Nat) (h : i + ld p (l.drop i) < l.length) : p l[i + ld p (l.drop i)] = false := by
  have := ld_at p (l.drop i) (by simp; omega)
  simpa only [List.getElem_drop] using this

/-- What the alignment from these indices on comes to. -/
def Out (code : List In) (mach : List Mi) (s m : Nat) (acc : List Rw) : Prop :=
  (∃ r, alS code mach s m acc = (acc ++ r, mach.length, 0) ∧ Chn code mach s m r) ∨ (∃ y, alS code mach s m acc = ([], y, 20) ∧ y ≤ mach.length ∧ ∀ h : y < mach.length, isM mach[y] = false)

theorem out_one {code : List In} {mach : List Mi} {s m : Nat} {acc : List Rw} (hs : s ≤ code.length) (hm : m ≤ mach.length)
    (ih : ∀ x y, s ≤ x → x < code.length → y < mach.length → ∀ acc', Out code mach (x + 1) (y + 1) acc') : Out code mach s m acc := by
  obtain ⟨ct, hc⟩ : ∃ ct, ct = s + ld isC (code.drop s) := ⟨_, rfl⟩
  obtain ⟨mt, ht⟩ : ∃ mt, mt = m + ld isM (mach.drop m) := ⟨_, rfl⟩
  have l1 := ld_le isC (code.drop s)
  have l2 := ld_le isM (mach.drop m)
  rw [List.length_drop] at l1 l2
  have k1 := ld_drop isC code s
  have k2 := ld_drop isM mach m
  have k4 := ld_drop_at isM mach m
  rw [← hc] at k1
  simp only [← ht] at k2 k4
  by_cases h1 : ct = code.length
  · by_cases h2 : mt = mach.length
    · refine .inl ⟨[⟨s, ct, m, mt, -1, -1⟩], ?_, ?_⟩
      · rw [alS_end hs hm hc ht h1 h2, h2]
      · rw [h1, h2]
        exact .last hs hm (fun z h hz => k1 z h hz (by omega)) (fun z h hz => k2 z h hz (by omega))
    · exact .inr ⟨mt, alS_src hs hm hc ht h1 (by omega), by omega, k4⟩
  · by_cases h2 : mt = mach.length
    · exact .inr ⟨mt, alS_mach hs hm hc ht (by omega) h2, by omega, k4⟩
    · have g1 : ct < code.length := by omega
      have g2 : mt < mach.length := by omega
      cases hh : smP code[ct] mach[mt]
      · exact .inr ⟨mt, alS_bad hs hm hc ht g1 g2 hh, by omega, k4⟩
      · have e := alS_ok (acc := acc) hs hm hc ht g1 g2 hh
        rcases ih ct mt (by omega) g1 g2 (acc ++ [⟨s, ct, m, mt, ct, mt⟩]) with ⟨r, h3, h4⟩ | ⟨y, h3, h4⟩
        · refine .inl ⟨⟨s, ct, m, mt, ct, mt⟩ :: r, ?_, .step (by omega) g1 (by omega) g2 (fun z h hz hz2 => k1 z h hz hz2) (fun z h hz hz2 => k2 z h hz hz2) hh h4⟩
          rw [e, h3]
          simp
        · exact .inr ⟨y, e.trans h3, h4⟩

theorem out_all (code : List In) (mach : List Mi) : ∀ (f s m : Nat) (acc : List Rw), code.length - s ≤ f → s ≤ code.length → m ≤ mach.length → Out code mach s m acc
  | 0, s, m, acc, hf, hs, hm => out_one hs hm fun x y h1 h2 h3 acc' => by omega
  | f + 1, s, m, acc, hf, hs, hm => out_one hs hm fun x y h1 h2 h3 acc' => out_all code mach f _ _ acc' (by omega) (by omega) (by omega)

theorem alC_out (code : List In) (mach : List Mi) : (∃ r, alC code mach = (r, mach.length, 0) ∧ Chn code mach 0 0 r) ∨ (∃ y, alC code mach = ([], y, 20) ∧ y ≤ mach.length ∧ ∀ h : y < mach.length, isM mach[y] = false) :=
  out_all code mach code.length 0 0 [] (by omega) (by omega) (by omega)

end Go.Proofs.Ytcoehkphdfejjaa

/-
  What memory shows of instructions, machine instructions and rows.
-/
namespace Go.Proofs.Ytcoehkphdfejjaa
open Go.RowKit
set_option linter.unusedVariables false

def Rw.cells (x : Rw) : List Value := [.int .i64 x.cf, .int .i64 x.ct, .int .i64 x.mf, .int .i64 x.mt, .int .i64 x.s, .int .i64 x.m]

/-- A row's six cells. -/
structure Rw.At (w : World) (b o : Nat) (x : Rw) : Prop where
  c0 : w.cell? ⟨b, o, none⟩ = some (.int .i64 x.cf)
  c1 : w.cell? ⟨b, o + 1, none⟩ = some (.int .i64 x.ct)
  c2 : w.cell? ⟨b, o + 2, none⟩ = some (.int .i64 x.mf)
  c3 : w.cell? ⟨b, o + 3, none⟩ = some (.int .i64 x.mt)
  c4 : w.cell? ⟨b, o + 4, none⟩ = some (.int .i64 x.s)
  c5 : w.cell? ⟨b, o + 5, none⟩ = some (.int .i64 x.m)

/-- The slice address A shows these rows, below block B. -/
def RwsAt (w : World) (B : Nat) (A : Option Addr) (xs : List Rw) : Prop :=
  xs ≠ [] → ∃ b o, A = some ⟨b, o, none⟩ ∧ b < B ∧ ∀ (i : Nat) (x : Rw), xs[i]? = some x → x.At w b (o + i * 6)

theorem in_len (x : In) : x.cells.length = 5 := rfl

theorem mi_len (x : Mi) : x.cells.length = 7 := rfl

theorem rw_len (x : Rw) : x.cells.length = 6 := rfl

theorem in_one (x : In) : ∀ u ∈ x.cells, u.oneCell' = true := fun u hu => by
  simp only [In.cells, List.mem_cons, List.not_mem_nil, or_false] at hu
  rcases hu with rfl | rfl | rfl | rfl | rfl <;> rfl

theorem mi_one (x : Mi) : ∀ u ∈ x.cells, u.oneCell' = true := fun u hu => by
  simp only [Mi.cells, List.mem_cons, List.not_mem_nil, or_false] at hu
  rcases hu with rfl | rfl | rfl | rfl | rfl | rfl | rfl <;> rfl

theorem rw_one (x : Rw) : ∀ u ∈ x.cells, u.oneCell' = true := fun u hu => by
  simp only [Rw.cells, List.mem_cons, List.not_mem_nil, or_false] at hu
  rcases hu with rfl | rfl | rfl | rfl | rfl | rfl <;> rfl

section
variable {w w' : World} {B B' : Nat} {A : Option Addr} {b o : Nat}

theorem flat_ne {α : Type} {f : α → List Value} {s : Nat} (hs : ∀ x, (f x).length = s) (h0 : 0 < s) {l : List α} (hn : l ≠ []) : l.flatMap f ≠ [] := fun e => by
  have := congrArg List.length e
  rw [flatS_len hs] at this
  rcases l with _ | ⟨x, r⟩
  · exact hn rfl
  · rw [List.length_cons, Nat.succ_mul] at this
    simp at this
    omega

theorem InsAt.of_sees {xs : List In} (h : Sees w B A (xs.flatMap In.cells)) : InsAt w B A xs := fun hn => by
  obtain ⟨b, o, e, hb, hc⟩ := h (flat_ne in_len (by decide) hn)
  refine ⟨b, o, e, hb, fun i x hx => ?_⟩
  have hg := flat_get In.cells 5 (fun _ => rfl) xs i x hx
  have g := fun j u hu => hc _ _ (hg j u hu)
  refine ⟨?_, ?_, ?_, ?_, ?_⟩
  · exact g 0 _ rfl
  · rw [Nat.add_assoc]; exact g 1 _ rfl
  · rw [Nat.add_assoc]; exact g 2 _ rfl
  · rw [Nat.add_assoc]; exact g 3 _ rfl
  · rw [Nat.add_assoc]; exact g 4 _ rfl

theorem MisAt.of_sees {xs : List Mi} (h : Sees w B A (xs.flatMap Mi.cells)) (hok : ∀ x ∈ xs, x.Ok) : MisAt w B A xs := fun hn => by
  obtain ⟨b, o, e, hb, hc⟩ := h (flat_ne mi_len (by decide) hn)
  refine ⟨b, o, e, hb, fun i x hx => ?_⟩
  have hg := flat_get Mi.cells 7 (fun _ => rfl) xs i x hx
  have g := fun j u hu => hc _ _ (hg j u hu)
  refine ⟨hok x (List.mem_of_getElem? hx), ?_, ?_, ?_, ?_, ?_, ?_, ?_⟩
  · exact g 0 _ rfl
  · rw [Nat.add_assoc]; exact g 1 _ rfl
  · rw [Nat.add_assoc]; exact g 2 _ rfl
  · rw [Nat.add_assoc]; exact g 3 _ rfl
  · rw [Nat.add_assoc]; exact g 4 _ rfl
  · rw [Nat.add_assoc]; exact g 5 _ rfl
  · rw [Nat.add_assoc]; exact g 6 _ rfl

theorem RwsAt.of_sees {xs : List Rw} (h : Sees w B A (xs.flatMap Rw.cells)) : RwsAt w B A xs := fun hn => by
  obtain ⟨b, o, e, hb, hc⟩ := h (flat_ne rw_len (by decide) hn)
  refine ⟨b, o, e, hb, fun i x hx => ?_⟩
  have hg := flat_get Rw.cells 6 (fun _ => rfl) xs i x hx
  have g := fun j u hu => hc _ _ (hg j u hu)
  refine ⟨?_, ?_, ?_, ?_, ?_, ?_⟩
  · exact g 0 _ rfl
  · rw [Nat.add_assoc]; exact g 1 _ rfl
  · rw [Nat.add_assoc]; exact g 2 _ rfl
  · rw [Nat.add_assoc]; exact g 3 _ rfl
  · rw [Nat.add_assoc]; exact g 4 _ rfl
  · rw [Nat.add_assoc]; exact g 5 _ rfl

theorem RwsAt.keep {xs : List Rw} (h : RwsAt w B A xs) (hk : ∀ p : Addr, p.block < B → w'.cell? p = w.cell? p) : RwsAt w' B A xs := fun hn => by
  obtain ⟨b, o, e, hb, hc⟩ := h hn
  exact ⟨b, o, e, hb, fun i x hx => ⟨(hk ⟨b, _, none⟩ hb).trans (hc i x hx).c0, (hk ⟨b, _, none⟩ hb).trans (hc i x hx).c1, (hk ⟨b, _, none⟩ hb).trans (hc i x hx).c2, (hk ⟨b, _, none⟩ hb).trans (hc i x hx).c3, (hk ⟨b, _, none⟩ hb).trans (hc i x hx).c4, (hk ⟨b, _, none⟩ hb).trans (hc i x hx).c5⟩⟩

theorem RwsAt.more {xs : List Rw} (h : RwsAt w B A xs) (hB : B ≤ B') : RwsAt w B' A xs := fun hn => by
  obtain ⟨b, o, e, hb, hc⟩ := h hn
  exact ⟨b, o, e, by omega, hc⟩

theorem RwsAt.below {xs : List Rw} (h : RwsAt w B A xs) (hb : Below B w w') : RwsAt w' B A xs := h.keep fun _ hp => hb.cell hp

theorem RwsAt.at_ {xs : List Rw} (h : RwsAt w B A xs) {i : Nat} (hi : i < xs.length) : ∃ b o, A = some ⟨b, o, none⟩ ∧ b < B ∧ xs[i].At w b (o + i * 6) := by
  obtain ⟨b, o, e, hb, hc⟩ := h (by intro e; subst e; simp at hi)
  exact ⟨b, o, e, hb, hc i _ (List.getElem?_eq_getElem hi)⟩

theorem InsAt.sees {xs : List In} (h : InsAt w B A xs) : Sees w B A (xs.flatMap In.cells) := fun hn => by
  obtain ⟨b, o, e, hb, hc⟩ := h (by rintro rfl; exact hn rfl)
  refine ⟨b, o, e, hb, fun i u hu => ?_⟩
  obtain ⟨k, j, x, h1, h2, rfl⟩ := flat_inv In.cells 5 (fun _ => rfl) xs i u hu
  have hx := hc k x h1
  have hj : j < 5 := (List.getElem?_eq_some_iff.1 h2).1
  rcases (by omega : j = 0 ∨ j = 1 ∨ j = 2 ∨ j = 3 ∨ j = 4) with rfl | rfl | rfl | rfl | rfl
  · rw [← h2]; exact hx.c0
  · rw [← h2, ← Nat.add_assoc]; exact hx.c1
  · rw [← h2, ← Nat.add_assoc]; exact hx.c2
  · rw [← h2, ← Nat.add_assoc]; exact hx.c3
  · rw [← h2, ← Nat.add_assoc]; exact hx.c4

theorem MisAt.sees {xs : List Mi} (h : MisAt w B A xs) : Sees w B A (xs.flatMap Mi.cells) := fun hn => by
  obtain ⟨b, o, e, hb, hc⟩ := h (by rintro rfl; exact hn rfl)
  refine ⟨b, o, e, hb, fun i u hu => ?_⟩
  obtain ⟨k, j, x, h1, h2, rfl⟩ := flat_inv Mi.cells 7 (fun _ => rfl) xs i u hu
  have hx := hc k x h1
  have hj : j < 7 := (List.getElem?_eq_some_iff.1 h2).1
  rcases (by omega : j = 0 ∨ j = 1 ∨ j = 2 ∨ j = 3 ∨ j = 4 ∨ j = 5 ∨ j = 6) with rfl | rfl | rfl | rfl | rfl | rfl | rfl
  · rw [← h2]; exact hx.c0
  · rw [← h2, ← Nat.add_assoc]; exact hx.c1
  · rw [← h2, ← Nat.add_assoc]; exact hx.c2
  · rw [← h2, ← Nat.add_assoc]; exact hx.c3
  · rw [← h2, ← Nat.add_assoc]; exact hx.c4
  · rw [← h2, ← Nat.add_assoc]; exact hx.c5
  · rw [← h2, ← Nat.add_assoc]; exact hx.c6

theorem MisAt.ok {xs : List Mi} (h : MisAt w B A xs) : ∀ x ∈ xs, x.Ok := fun x hx => by
  obtain ⟨b, o, e, hb, hc⟩ := h (by rintro rfl; simp at hx)
  obtain ⟨i, hi⟩ := List.mem_iff_getElem?.1 hx
  exact (hc i x hi).ok

/-- The cut of a slice from k on: its address as the model writes it. -/
theorem InsAt.drop {xs : List In} {b o : Nat} (h : InsAt w B (some ⟨b, o, none⟩) xs) (k : Nat) : InsAt w B (some ⟨b, o + k * 5, none⟩) (xs.drop k) := fun hn => by
  obtain ⟨b', o', e, hb, hc⟩ := h (by intro e; subst e; simp at hn)
  injection e with e
  injection e with e1 e2
  subst e1
  subst e2
  refine ⟨b, o + k * 5, rfl, hb, fun i x hx => ?_⟩
  rw [List.getElem?_drop] at hx
  have := hc _ x hx
  rwa [show o + (k + i) * 5 = o + k * 5 + i * 5 by omega] at this

end

/-- A source block that is seen. -/
structure CS (w : World) (A : Option Addr) (n c : Nat) (l : List In) : Prop where
  len : l.length = n
  cap : n ≤ c
  cmx : c ≤ maxLen
  see : InsAt w w.heap.size A l

theorem CS.below {w w' : World} {A : Option Addr} {n c : Nat} {l : List In} (h : CS w A n c l) (hb : Below w.heap.size w w') : CS w' A n c l := ⟨h.len, h.cap, h.cmx, (h.see.below hb).more hb.size⟩

/-- An allocated block that is seen. -/
structure MS (w : World) (A : Option Addr) (n c : Nat) (l : List Mi) : Prop where
  len : l.length = n
  cap : n ≤ c
  cmx : c ≤ maxLen
  see : MisAt w w.heap.size A l

theorem MS.below {w w' : World} {A : Option Addr} {n c : Nat} {l : List Mi} (h : MS w A n c l) (hb : Below w.heap.size w w') : MS w' A n c l := ⟨h.len, h.cap, h.cmx, (h.see.below hb).more hb.size⟩

theorem RL.cs {T : TypeId} {w wr : World} {A : Option Addr} {n c : Nat} {l : List In} (h : RL In.cells 5 T w (.slice A n c) l wr) : CS wr A n c l := by
  obtain ⟨A', c', e, h1, h2⟩ := h.slice
  injection e with e1 e2 e3
  subst e1 e2 e3
  exact ⟨rfl, h1, h2, InsAt.of_sees h.sees⟩

theorem RL.ms {T : TypeId} {w wr : World} {A : Option Addr} {n c : Nat} {l : List Mi} (h : RL Mi.cells 7 T w (.slice A n c) l wr) (hok : ∀ x ∈ l, x.Ok) : MS wr A n c l := by
  obtain ⟨A', c', e, h1, h2⟩ := h.slice
  injection e with e1 e2 e3
  subst e1 e2 e3
  exact ⟨rfl, h1, h2, MisAt.of_sees h.sees hok⟩

end Go.Proofs.Ytcoehkphdfejjaa

/-
  The functions of layer 13 on single instructions and terminators; == and != of rows, instructions and terminators.
-/
namespace Go.Proofs.Ytcoehkphdfejjaa
open Go.RowKit
set_option linter.unusedVariables false

/-- Whether two terminators correspond. -/
def tmP (a b : Tm) : Bool := a.kind == b.kind && a.to == b.to && a.el == b.el

theorem eq_tm (a b : Tm) (w : World) : (binOp .eql 43 (.agg #[.int .i64 a.kind, .int .i64 a.a, .int .i64 a.to, .int .i64 a.el]) (.agg #[.int .i64 b.kind, .int .i64 b.a, .int .i64 b.to, .int .i64 b.el])).run Try.prog w = .ok (.bool (a.kind == b.kind && a.a == b.a && a.to == b.to && a.el == b.el)) w := by
  have u3 := Try.underlying3
  have a3 := Try.isAgg3
  have z3 := Try.sizeOf3
  have hS : Try.prog.underlying 43 = some (.struct (Try.prog.fieldsOf 43)) := by kernel_rfl
  have hp : Try.prog.stoodInHeld 43 = false := by kernel_rfl
  rw [run_eql_struct, show (10000 : Nat) = 9999 + 1 from rfl, run_equalIn_agg w 9999 43 _ _ hS hp]
  simp only [Program.fieldsOf, Try.underlying43]
  obtain ⟨x0, x1, x2, x3⟩ := a
  obtain ⟨y0, y1, y2, y3⟩ := b
  go_simp
  by_cases h0 : x0 = y0 <;> by_cases h1 : x1 = y1 <;> by_cases h2 : x2 = y2 <;> by_cases h3 : x3 = y3 <;> simp [h0, h1, h2, h3]

/-- Whether two rows are the same. -/
def rwS (a b : Rw) : Bool := a.cf == b.cf && a.ct == b.ct && a.mf == b.mf && a.mt == b.mt && a.s == b.s && a.m == b.m

theorem rwS_refl (a : Rw) : rwS a a = true := by simp [rwS]

/-- Whether two machine instructions are the same. -/
def miS (a b : Mi) : Bool := a.op == b.op && a.d == b.d && a.a == b.a && a.b == b.b && a.imm == b.imm && a.dst == b.dst && a.src == b.src

theorem eq_mi (a b : Mi) (w : World) : (binOp .eql 69 (.agg #[.int .i64 a.op, .int .i64 a.d, .int .i64 a.a, .int .i64 a.b, .int .i64 a.imm, .int .i64 a.dst, .int .i64 a.src]) (.agg #[.int .i64 b.op, .int .i64 b.d, .int .i64 b.a, .int .i64 b.b, .int .i64 b.imm, .int .i64 b.dst, .int .i64 b.src])).run Try.prog w = .ok (.bool (miS a b)) w := by
  have u3 := Try.underlying3
  have a3 := Try.isAgg3
  have z3 := Try.sizeOf3
  have u4 := Try.underlying2
  have a4 := Try.isAgg2
  have z4 := Try.sizeOf2
  have u5 := Try.underlying64
  have a5 := Try.isAgg64
  have z5 := Try.sizeOf64
  have hS : Try.prog.underlying 69 = some (.struct (Try.prog.fieldsOf 69)) := by kernel_rfl
  have hp : Try.prog.stoodInHeld 69 = false := by kernel_rfl
  rw [run_eql_struct, show (10000 : Nat) = 9999 + 1 from rfl, run_equalIn_agg w 9999 69 _ _ hS hp]
  simp only [Program.fieldsOf, Try.underlying69]
  obtain ⟨x0, x1, x2, x3, x4, x5, x6⟩ := a
  obtain ⟨y0, y1, y2, y3, y4, y5, y6⟩ := b
  dsimp only [miS]
  go_simp
  by_cases h0 : x0 = y0 <;> by_cases h1 : x1 = y1 <;> by_cases h2 : x2 = y2 <;> by_cases h3 : x3 = y3 <;> by_cases h4 : x4 = y4 <;> by_cases h5 : x5 = y5 <;> by_cases h6 : x6 = y6 <;> simp [h0, h1, h2, h3, h4, h5, h6]

end Go.Proofs.Ytcoehkphdfejjaa

/-
  The program's leading at both types, and rowFrom.
-/
namespace Go.Proofs.Ytcoehkphdfejjaa
open Go.RowKit
set_option linter.unusedVariables false

theorem ld_stop {α : Type} {p : α → Bool} {l : List α} {k : Nat} (h : k < l.length) (hk : k ≤ ld p l) (e : p l[k] = false) : ld p l = k := by
  rcases Nat.lt_or_ge k (ld p l) with h1 | h1
  · rw [ld_lt p l k h h1] at e
    cases e
  · omega

theorem ld_more {α : Type} {p : α → Bool} {l : List α} {k : Nat} (h : k < l.length) (hk : k ≤ ld p l) (e : p l[k] = true) : k + 1 ≤ ld p l := by
  rcases Nat.lt_or_ge k (ld p l) with h1 | h1
  · exact h1
  · have h2 : ld p l = k := by omega
    have h3 := ld_at p l (by omega)
    simp only [h2] at h3
    rw [e] at h3
    cases h3

theorem InsAt.cut {w : World} {B : Nat} {A : Option Addr} {xs : List In} {k c : Nat} (h : InsAt w B A xs) (hc : xs.length ≤ c) : InsAt w B (if c = k then A else A.map fun x => x.add (k * 5)) (xs.drop k) := fun hn => by
  have hl : k < xs.length := by
    rcases Nat.lt_or_ge k xs.length with h1 | h1
    · exact h1
    · exact absurd (List.drop_eq_nil_of_le h1) hn
  obtain ⟨b, o, rfl, _, _⟩ := h (by intro e; subst e; simp at hl)
  rw [if_neg (by omega)]
  have := h.drop k hn
  simpa [Addr.add_lit] using this

theorem MisAt.cut {w : World} {B : Nat} {A : Option Addr} {xs : List Mi} {k c : Nat} (h : MisAt w B A xs) (hc : xs.length ≤ c) : MisAt w B (if c = k then A else A.map fun x => x.add (k * 7)) (xs.drop k) := fun hn => by
  have hl : k < xs.length := by
    rcases Nat.lt_or_ge k xs.length with h1 | h1
    · exact h1
    · exact absurd (List.drop_eq_nil_of_le h1) hn
  obtain ⟨b, o, rfl, _, _⟩ := h (by intro e; subst e; simp at hl)
  rw [if_neg (by omega)]
  have := h.drop k hn
  simpa [Addr.add_lit] using this

theorem Row.put6 {W : World} {p : Nat} {T : TypeId} {z0 z1 z2 z3 z4 z5 : Value} (h : Row W p T #[z0, z1, z2, z3, z4, z5]) (a0 a1 a2 a3 a4 a5 : Value) :
    Row ((((((W.setCell ⟨p, 0, none⟩ a0).setCell ⟨p, 1, none⟩ a1).setCell ⟨p, 2, none⟩ a2).setCell ⟨p, 3, none⟩ a3).setCell ⟨p, 4, none⟩ a4).setCell ⟨p, 5, none⟩ a5) p T #[a0, a1, a2, a3, a4, a5] := by
  have q0 : Row _ p T #[a0, z1, z2, z3, z4, z5] := h.put 0 a0
  have q1 : Row _ p T #[a0, a1, z2, z3, z4, z5] := q0.put 1 a1
  have q2 : Row _ p T #[a0, a1, a2, z3, z4, z5] := q1.put 2 a2
  have q3 : Row _ p T #[a0, a1, a2, a3, z4, z5] := q2.put 3 a3
  have q4 : Row _ p T #[a0, a1, a2, a3, a4, z5] := q3.put 4 a4
  exact q4.put 5 a5

theorem blw6 {B p : Nat} {w W : World} (hp : B ≤ p) (h : Below B w W) (a0 a1 a2 a3 a4 a5 : Value) :
    Below B w ((((((W.setCell ⟨p, 0, none⟩ a0).setCell ⟨p, 1, none⟩ a1).setCell ⟨p, 2, none⟩ a2).setCell ⟨p, 3, none⟩ a3).setCell ⟨p, 4, none⟩ a4).setCell ⟨p, 5, none⟩ a5) :=
  (((((h.setCell (p := ⟨p, 0, none⟩) hp a0).setCell (p := ⟨p, 1, none⟩) hp a1).setCell (p := ⟨p, 2, none⟩) hp a2).setCell (p := ⟨p, 3, none⟩) hp a3).setCell (p := ⟨p, 4, none⟩) hp a4).setCell (p := ⟨p, 5, none⟩) hp a5

end Go.Proofs.Ytcoehkphdfejjaa

/-
  Code of the program.
-/
namespace Go.Proofs.Ytcoehkphdfejjaa
open Go.RowKit
set_option linter.unusedVariables false

theorem rwl_one (a b c d e f : Int) : ∀ u ∈ (#[Value.int .i64 a, .int .i64 b, .int .i64 c, .int .i64 d, .int .i64 e, .int .i64 f] : Array Value).toList, u.oneCell' = true := fun u hu => by
  simp only [List.mem_cons, List.not_mem_nil, or_false] at hu
  rcases hu with rfl | rfl | rfl | rfl | rfl | rfl <;> rfl

theorem RL.aside {α : Type} {f : α → List Value} {s : Nat} {T : TypeId} {w wr : World} {v : Value} {l : List α} (h : RL f s T w v l wr) {q o : Nat} (hq : ∀ k, v.ownBlock = some k → ¬ k = q) (hB : w.heap.size ≤ q) (u : Value) : RL f s T w v l (wr.setCell ⟨q, o, none⟩ u) := by
  have hm : Mods (Is q) wr (wr.setCell ⟨q, o, none⟩ u) := (Mods.refl _ wr).put o u
  exact ⟨hm.ownS h.own fun k hk hs => hq k hk hs, h.blw.setCell (p := ⟨q, o, none⟩) hB u⟩

theorem RL.none {α : Type} {f : α → List Value} {s : Nat} {T : TypeId} {w wr : World} (hb : Below w.heap.size w wr) : RL f s T w (.slice none 0 0) ([] : List α) wr := (RL.nil w).next hb

theorem triple {α β γ : Type} {a a' : α} {b b' : β} {c c' : γ} (h : (a, b, c) = (a', b', c')) : a = a' ∧ b = b' ∧ c = c' := by
  injection h with h1 h2
  injection h2 with h2 h3
  exact ⟨h1, h2, h3⟩

/-- What Code returns. -/
def CodeP (T : TypeId) (w : World) (R : List Rw × Nat × Int) (e : Ending) (w' : World) : Prop := ∃ v, e = .returned (.tuple #[v, .int .i64 (R.2.1 : Nat), .int .i64 R.2.2]) ∧ RL Rw.cells 6 T w v R.1 w'

end Go.Proofs.Ytcoehkphdfejjaa

/-
  Operations and Others of the reference.
-/
namespace Go.Proofs.Ytcoehkphdfejjaa
open Go.RowKit
set_option linter.unusedVariables false

/-- An index as a cell. -/
def natC (x : Nat) : List Value := [.int .i64 (x : Int)]

theorem natC_len (x : Nat) : (natC x).length = 1 := rfl

theorem infoInt : (Try.prog.info? 3).map (fun i => (i.zero, i.size, i.bytes)) = some (some (.int .i64 0), 1, 8) := by kernel_rfl

theorem info_int : ∃ i : TypeInfo, Try.prog.info? 3 = some i ∧ i.zero = some (.int .i64 0) ∧ i.size = 1 ∧ i.bytes = 8 := by
  have h := infoInt
  rcases hi : Try.prog.info? 3 with _ | i
  · rw [hi] at h; simp at h
  · rw [hi] at h
    simp only [Option.map_some, Option.some.injEq, Prod.mk.injEq] at h
    exact ⟨i, rfl, h.1, h.2.1, h.2.2⟩

theorem int_one (a : Int) : ∀ u ∈ (#[Value.int .i64 a] : Array Value).toList, u.oneCell' = true := fun u hu => by
  simp only [List.mem_cons, List.not_mem_nil, or_false] at hu
  rcases hu with rfl
  rfl

theorem idx_true {α : Type} {p : α → Bool} {l : List α} {k : Nat} (hk : k < l.length) (h : p l[k] = true) : idx p (l.take (k + 1)) 0 = idx p (l.take k) 0 := by
  rw [idx_snoc p hk, if_pos h, List.append_nil]

theorem idx_false {α : Type} {p : α → Bool} {l : List α} {k : Nat} (hk : k < l.length) (h : p l[k] = false) : idx p (l.take (k + 1)) 0 = idx p (l.take k) 0 ++ [k] := by
  rw [idx_snoc p hk, h, if_neg (by simp)]

end Go.Proofs.Ytcoehkphdfejjaa

/-
  Code of the reference.
-/
namespace Go.Proofs.Ytcoehkphdfejjaa
open Go.RowKit
set_option linter.unusedVariables false

theorem nat_at {w : World} {B : Nat} {A : Option Addr} {l : List Nat} (h : Sees w B A (l.flatMap natC)) {i : Nat} (hi : i < l.length) : ∃ b o, A = some ⟨b, o, none⟩ ∧ b < B ∧ w.cell? ⟨b, o + i, none⟩ = some (.int .i64 (l[i] : Int)) := by
  obtain ⟨b, o, e, hb, hc⟩ := h (flat_ne natC_len (by decide) (by intro e; subst e; simp at hi))
  have := flat_get natC 1 natC_len l i l[i] (List.getElem?_eq_getElem hi) 0 _ rfl
  rw [Nat.mul_one, Nat.add_zero] at this
  exact ⟨b, o, e, hb, hc i _ this⟩

section
variable {code : List In} {mach : List Mi} {a b : List Nat} {n i k : Nat} {acc : List Rw}

theorem al_src (hb : n < b.length) (ha : ¬ n < a.length) : al code mach (a.drop n) (b.drop n) i k acc = ([], b[n], 20) := by
  rw [List.drop_eq_getElem_cons hb, List.drop_eq_nil_of_le (by omega), al]

theorem al_bad (hb : n < b.length) (ha : n < a.length) (h : smA code mach a[n] b[n] = false) : al code mach (a.drop n) (b.drop n) i k acc = ([], b[n], 20) := by
  rw [List.drop_eq_getElem_cons hb, List.drop_eq_getElem_cons ha, al, h, if_neg (by simp)]

theorem al_ok (hb : n < b.length) (ha : n < a.length) (h : smA code mach a[n] b[n] = true) : al code mach (a.drop n) (b.drop n) i k acc = al code mach (a.drop (n + 1)) (b.drop (n + 1)) (a[n] + 1) (b[n] + 1) (acc ++ [⟨i, a[n], k, b[n], a[n], b[n]⟩]) := by
  rw [List.drop_eq_getElem_cons hb, List.drop_eq_getElem_cons ha, al, h, if_pos rfl]

theorem al_more (hb : ¬ n < b.length) (ha : n < a.length) : al code mach (a.drop n) (b.drop n) i k acc = ([], mach.length, 20) := by
  rw [List.drop_eq_getElem_cons ha, List.drop_eq_nil_of_le (Nat.le_of_not_lt hb), al]

theorem al_end (hb : ¬ n < b.length) (ha : ¬ n < a.length) : al code mach (a.drop n) (b.drop n) i k acc = (acc ++ [⟨i, code.length, k, mach.length, -1, -1⟩], mach.length, 0) := by
  rw [List.drop_eq_nil_of_le (Nat.le_of_not_lt hb), List.drop_eq_nil_of_le (Nat.le_of_not_lt ha), al]

end

end Go.Proofs.Ytcoehkphdfejjaa

/-
  The statements' rows, the reference's Rows.
-/
namespace Go.Proofs.Ytcoehkphdfejjaa
open Go.RowKit
set_option linter.unusedVariables false

/-- Rows that are seen. -/
structure RS (w : World) (A : Option Addr) (n c : Nat) (l : List Rw) : Prop where
  len : l.length = n
  cap : n ≤ c
  cmx : c ≤ maxLen
  see : RwsAt w w.heap.size A l

theorem RS.below {w w' : World} {A : Option Addr} {n c : Nat} {l : List Rw} (h : RS w A n c l) (hb : Below w.heap.size w w') : RS w' A n c l := ⟨h.len, h.cap, h.cmx, (h.see.below hb).more hb.size⟩

theorem RL.rs {T : TypeId} {w wr : World} {A : Option Addr} {n c : Nat} {l : List Rw} (h : RL Rw.cells 6 T w (.slice A n c) l wr) : RS wr A n c l := by
  obtain ⟨A', c', e, h1, h2⟩ := h.slice
  injection e with e1 e2 e3
  subst e1 e2 e3
  exact ⟨rfl, h1, h2, RwsAt.of_sees h.sees⟩

end Go.Proofs.Ytcoehkphdfejjaa
