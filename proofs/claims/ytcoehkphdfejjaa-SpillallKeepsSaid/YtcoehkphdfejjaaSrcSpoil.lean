/-
  What spoiling an unused field of an instruction does to the errors; an own function's blocks, element by element.
-/
import Derived.Test.YtcoehkphdfejjaaSrcCopy
import Derived.Test.YtcoehkphdfejjaaPk2
namespace Go.Proofs.Ytcoehkphdfejjaa
open Go.RowKit
set_option linter.unusedVariables false
set_option linter.unusedSimpArgs false

/-- The instruction with an unused field set. -/
def In.sp (y : In) (v : Int) : In := if uB y.op && uD y.op then { y with imm := v } else { y with b := v }

theorem srcO_zero {x : In} {n : Int} (h : eI x n = 0) : srcO x.op = true ∧ okR n x.regF = true := by
  unfold eI at h
  split at h
  · next h1 =>
    split at h
    · next h2 => exact ⟨h1, h2⟩
    · cases h
  · cases h

theorem eI_sp {y : In} {n v : Int} (h : eI y n = 0) (hv : v ≠ 0) : eI (y.sp v) n = 12 := by
  obtain ⟨h1, h2⟩ := srcO_zero h
  have hz : fZ (false, v) = false := by simp [fZ, hv]
  obtain ⟨_, hs⟩ := shapes h1
  simp only [okR, In.regF, List.all_cons, List.all_nil, Bool.and_true, Bool.and_eq_true] at h2
  obtain ⟨q1, q2, q3⟩ := h2
  rcases hs with ⟨sd, sa, sb, si, _⟩ | ⟨sd, sa, sb, si, _⟩ | ⟨sd, sa, sb, si, _⟩ | ⟨sd, sa, sb, si, _⟩
  · rw [In.sp, sb, sd, eI]
    simp only [Bool.false_and, Bool.false_eq_true, if_false, h1, if_true, okR, okZ, In.regF, In.allF, List.all_cons, List.all_nil, q1, q2, sb, hz, Bool.and_true, Bool.false_and, Bool.and_false, Bool.true_and, fR_inr, Bool.not_false, Bool.true_or]
  · rw [In.sp, sb, sd, eI]
    simp only [Bool.false_and, Bool.false_eq_true, if_false, h1, if_true, okR, okZ, In.regF, In.allF, List.all_cons, List.all_nil, q1, q2, sb, hz, Bool.and_true, Bool.false_and, Bool.and_false, Bool.true_and, fR_inr, Bool.not_false, Bool.true_or]
  · rw [In.sp, sb, sd, eI]
    simp only [Bool.and_self, if_true, h1, okR, okZ, In.regF, In.allF, List.all_cons, List.all_nil, q1, q2, q3, si, hz, Bool.and_true, Bool.false_and, Bool.and_false, Bool.true_and, Bool.false_eq_true, if_false]
  · rw [In.sp, sb, sd, eI]
    simp only [Bool.false_and, Bool.false_eq_true, if_false, h1, if_true, okR, okZ, In.regF, In.allF, List.all_cons, List.all_nil, q1, q2, sb, hz, Bool.and_true, Bool.false_and, Bool.and_false, Bool.true_and, fR_inr, Bool.not_false, Bool.true_or]

theorem eIs_set {n e : Int} (he : e ≠ 0) {y : In} (hy : eI y n = e) : ∀ (l : List In) (k : Nat), k < l.length → eIs n l = 0 → eIs n (l.set k y) = e
  | [], k, h, _ => by simp at h
  | x :: r, 0, _, _ => by rw [List.set_cons_zero, eIs, hy, if_neg he]
  | x :: r, k + 1, h, h0 => by
    rw [eIs] at h0
    split at h0
    · next hx => rw [List.set_cons_succ, eIs, if_pos hx]; exact eIs_set he hy r k (by simpa using h) h0
    · next hx => exact absurd h0 hx

theorem eBs_set {n m e : Int} (he : e ≠ 0) {y : Blk} (hy : eB y n m = e) : ∀ (l : List Blk) (k : Nat), k < l.length → eBs n m l = 0 → eBs n m (l.set k y) = e
  | [], k, h, _ => by simp at h
  | x :: r, 0, _, _ => by rw [List.set_cons_zero, eBs, hy, if_neg he]
  | x :: r, k + 1, h, h0 => by
    rw [eBs] at h0
    split at h0
    · next hx => rw [List.set_cons_succ, eBs, if_pos hx]; exact eBs_set he hy r k (by simpa using h) h0
    · next hx => exact absurd h0 hx

theorem eIs_get {n : Int} : ∀ (l : List In) (k : Nat) (h : k < l.length), eIs n l = 0 → eI l[k] n = 0
  | [], k, h, _ => by simp at h
  | x :: r, k, h, h0 => by
    rw [eIs] at h0
    split at h0
    · next hx =>
      cases k with
      | zero => exact hx
      | succ k => exact eIs_get r k (by simpa using h) h0
    · next hx => exact absurd h0 hx

theorem eBs_get {n m : Int} : ∀ (l : List Blk) (k : Nat) (h : k < l.length), eBs n m l = 0 → eB l[k] n m = 0
  | [], k, h, _ => by simp at h
  | x :: r, k, h, h0 => by
    rw [eBs] at h0
    split at h0
    · next hx =>
      cases k with
      | zero => exact hx
      | succ k => exact eBs_get r k (by simpa using h) h0
    · next hx => exact absurd h0 hx

theorem codeN_set {x : Blk} : ∀ (l : List Blk) (k : Nat) (h : k < l.length), x.code.length = l[k].code.length → codeN (l.set k x) = codeN l
  | [], k, h, _ => by simp at h
  | y :: r, 0, _, e => by rw [List.set_cons_zero, codeN_cons, codeN_cons, e]; rfl
  | y :: r, k + 1, h, e => by rw [List.set_cons_succ, codeN_cons, codeN_cons, codeN_set r k (by simpa using h) e]

/-- A spoiled instruction of a valid function is its first error. -/
theorem eF_spoil {args regs v : Int} {bs : List Blk} {i k : Nat} (hi : i < bs.length) (hk : k < bs[i].code.length) (h : eF args regs bs = 0) (hv : v ≠ 0) :
    eF args regs (bs.set i { bs[i] with code := bs[i].code.set k (bs[i].code[k].sp v) }) = 12 := by
  have hsz : eSz args regs bs = 0 := by
    unfold eF at h
    split at h
    · assumption
    · next h1 => exact absurd h h1
  have hbs : eBs regs bs.length bs = 0 := by
    rw [eF, if_pos hsz] at h
    exact h
  have hb := eBs_get bs i hi hbs
  have hcs : eIs regs bs[i].code = 0 := by
    unfold eB at hb
    split at hb
    · assumption
    · next h1 => exact absurd hb h1
  have hin := eIs_get _ k hk hcs
  have h1 : eIs regs (bs[i].code.set k (bs[i].code[k].sp v)) = 12 := eIs_set (by decide) (eI_sp hin hv) _ k hk hcs
  have h2 : eB { bs[i] with code := bs[i].code.set k (bs[i].code[k].sp v) } regs bs.length = 12 := by
    rw [eB]
    simp only [h1]
    rfl
  have h3 := eBs_set (by decide) h2 bs i hi hbs
  have h4 : eSz args regs (bs.set i { bs[i] with code := bs[i].code.set k (bs[i].code[k].sp v) }) = 0 := by
    rw [eSz, List.length_set, codeN_set bs i hi (by simp)]
    exact hsz
  rw [eF, if_pos h4, List.length_set]
  exact h3

/-- The cells of instructions, one of them turned in one field. -/
theorem ins_set {y y' : In} {z : Value} {j : Nat} (hj : j < 5) (hc : y'.cells = y.cells.set j z) : ∀ (l : List In) (k : Nat) (h : k < l.length), l[k] = y → (l.set k y').flatMap In.cells = (l.flatMap In.cells).set (k * 5 + j) z
  | [], k, h, _ => by simp at h
  | x :: r, 0, _, e => by
    have e : x = y := e
    subst e
    rw [List.set_cons_zero, List.flatMap_cons, List.flatMap_cons, hc, Nat.zero_mul, Nat.zero_add, List.set_append_left _ _ (by show j < 5; exact hj)]
  | x :: r, k + 1, h, e => by
    rw [List.set_cons_succ, List.flatMap_cons, List.flatMap_cons, ins_set hj hc r k (by simpa using h) e, List.set_append_right _ _ (by show 5 ≤ _; omega)]
    congr 2
    show k * 5 + j = (k + 1) * 5 + j - 5
    omega

/-- An element of an own list of blocks, in memory. -/
theorem nest_at {w : World} {base : Nat} {v : Value} {vs : List Value} {bs : List Blk} (h : NestV bshp w base v vs bs) {i : Nat} (hi : i < bs.length) :
    ∃ b o cap A c, v = .slice (some ⟨b, o, none⟩) bs.length cap ∧ b < w.heap.size ∧ w.cell? ⟨b, o + i * 5, none⟩ = some (.slice A bs[i].code.length c) ∧ vs[i]? = some (.slice A bs[i].code.length c) ∧ w.ownsRow base 62 5 (.slice A bs[i].code.length c) bs[i].code.length (bs[i].code.flatMap In.cells) := by
  obtain ⟨A, c, hv, _, _, hb⟩ := nest_blks h
  obtain ⟨b, o, rfl, hlt, hat⟩ := hb.at_ hi
  obtain ⟨u, hu, hin⟩ := h.got hi
  obtain ⟨A', c', rfl, _, _⟩ := ownS_slice hin
  refine ⟨b, o, c, A', c', hv, hlt, ?_, hu, hin⟩
  obtain ⟨A2, c2, hcell, _⟩ := hat.code
  have ho := h.outer
  rw [hv, h.len] at ho
  have hs := sees_own ho
  have hg := flat_get (fun p : Value × Blk => bshp.oc p.1 p.2) 5 (fun _ => rfl) (vs.zip bs) i (.slice A' (bshp.il bs[i]) c', bs[i]) (by rw [List.getElem?_zip_eq_some]; exact ⟨hu, List.getElem?_eq_getElem hi⟩) 0 _ rfl
  obtain ⟨b', o', e, _, hc⟩ := hs (by intro e; rw [e] at hg; cases hg)
  injection e with e
  injection e with e1 e2
  subst e1
  subst e2
  exact hc _ _ hg

theorem own_block {w : World} {base n s c : Nat} {e : TypeId} {A : Option Addr} {xs : List Value} (h : w.ownsRow base e s (.slice A n c) n xs) (hn : 0 < n) : ∃ g, A = some ⟨g, 0, none⟩ ∧ base ≤ g ∧ g < w.heap.size ∧ ∀ j, w.frozen? ⟨g, j, none⟩ = false := by
  rcases h.2 with ⟨h0, h1⟩ | ⟨g, cap, cur, hv, hb, hg, _⟩
  · omega
  · injection hv with hA
    exact ⟨g, hA, hb, (Array.getElem?_eq_some_iff.1 hg).1, fun j => Row.frozen (w := w) (p := g) (T := e) (cs := cur) hg j⟩

/-- One cell of one instruction is stored. -/
theorem nest_store {w : World} {base : Nat} {v : Value} {vs : List Value} {bs : List Blk} (h : NestV bshp w base v vs bs) {i k j g n c : Nat} (hi : i < bs.length) (hk : k < bs[i].code.length) (hvs : vs[i]? = some (.slice (some ⟨g, 0, none⟩) n c)) (hj : j < 5) {y' : In} {z : Value} (hc : y'.cells = bs[i].code[k].cells.set j z) :
    NestV bshp (w.setCell ⟨g, k * 5 + j, none⟩ z) base v vs (bs.set i { bs[i] with code := bs[i].code.set k y' }) :=
  h.put hvs (List.getElem?_eq_getElem hi) (x' := { bs[i] with code := bs[i].code.set k y' }) rfl (by show k * 5 + j < (bs[i].code.flatMap In.cells).length; rw [ins_len]; omega) z (ins_set hj hc bs[i].code k hk rfl) (by show (bs[i].code.set k y').length = bs[i].code.length; rw [List.length_set]) fun _ => rfl

end Go.Proofs.Ytcoehkphdfejjaa
