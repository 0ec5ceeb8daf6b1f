/-
  A register that is not live does not matter: two runs that differ in such registers alone stay in step.
-/
import Derived.Test.YtncigbpeempnfaaLvMath
namespace Go.Proofs.Ytncigbpeempnfaa
open Go.RowKit
set_option linter.unusedVariables false

theorem lvD_cons (x : In) (l : List In) (v : Int) (k : Nat) : lvD (x :: l) v (k + 1) = (iDef x v || lvD l v k) := by simp [lvD]

theorem lvU_cons (x : In) (l : List In) (v : Int) : ∀ k, k ≤ l.length → lvU (x :: l) v (k + 1) = (iUse x v || !iDef x v && lvU l v k)
  | 0, _ => by simp [lvU, lvD_zero]
  | k + 1, h => by
    rw [lvU_succ (x :: l) v (k + 1) (by simp; omega), lvU_cons x l v k (by omega), lvU_succ l v k (by omega), lvD_cons, List.getElem_cons_succ]
    cases iUse x v <;> cases iDef x v <;> simp

/-- What is live ahead of instructions, if behind them t holds. -/
def lvC (t : Bool) (v : Int) : List In → Bool
  | [] => t
  | x :: r => iUse x v || !iDef x v && lvC t v r

theorem lvC_eq (t : Bool) (v : Int) : ∀ l : List In, lvC t v l = (lvU l v l.length || t && !lvD l v l.length)
  | [] => by simp [lvC, lvU, lvD]
  | x :: l => by
    rw [lvC, lvC_eq t v l, List.length_cons, lvU_cons x l v l.length (Nat.le_refl _), lvD_cons]
    cases iUse x v <;> cases iDef x v <;> simp

/-- Live at the end of a block, ahead of its terminator; at a point of it. -/
def lvT (bs : List Blk) (i : Nat) (v : Int) : Bool := tUse (blkAt bs i).term v || lvO bs v i

def lvP (bs : List Blk) (i p : Nat) (v : Int) : Bool := lvC (lvT bs i v) v ((blkAt bs i).code.drop p)

theorem lvP_zero {bs : List Blk} {i : Nat} (hi : i < bs.length) (v : Int) : lvP bs i 0 v = lvB bs v i := by
  rw [lvP, List.drop_zero, lvC_eq, lvB_eq hi, bUse, bDef, lvT]
  cases lvU (blkAt bs i).code v (blkAt bs i).code.length <;> cases lvD (blkAt bs i).code v (blkAt bs i).code.length <;> simp

theorem lvP_ins {bs : List Blk} {i p : Nat} (h : p < (blkAt bs i).code.length) (v : Int) : lvP bs i p v = (iUse (blkAt bs i).code[p] v || !iDef (blkAt bs i).code[p] v && lvP bs i (p + 1) v) := by
  rw [lvP, List.drop_eq_getElem_cons h, lvC]; rfl

theorem lvP_end {bs : List Blk} {i p : Nat} (h : ¬ p < (blkAt bs i).code.length) (v : Int) : lvP bs i p v = lvT bs i v := by
  rw [lvP, List.drop_eq_nil_of_le (by omega), lvC]

/-- Every instruction is one of the source's. -/
def Ops (bs : List Blk) : Prop := ∀ b ∈ bs, ∀ i ∈ b.code, 1 ≤ i.op ∧ i.op ≤ 17

theorem eIs_ops {regs : Int} : ∀ {l : List In}, eIs regs l = 0 → ∀ y ∈ l, 1 ≤ y.op ∧ y.op ≤ 17
  | [], _, y, hy => by simp at hy
  | x :: r, h, y, hy => by
    unfold eIs at h
    split at h
    · rename_i hx
      rcases List.mem_cons.1 hy with rfl | hy
      · unfold eI at hx
        split at hx
        · rename_i hO
          simp [srcO, uO] at hO
          omega
        · cases hx
      · exact eIs_ops h y hy
    · rename_i hx; exact absurd h hx

theorem eBs_ops {regs n : Int} : ∀ {l : List Blk}, eBs regs n l = 0 → Ops l
  | [], _ => fun b hb => by simp at hb
  | x :: r, h => by
    unfold eBs at h
    split at h
    · rename_i hx
      intro b hb
      rcases List.mem_cons.1 hb with rfl | hb
      · unfold eB at hx
        split at hx
        · rename_i hi; exact eIs_ops hi
        · rename_i hi; exact absurd hx hi
      · exact eBs_ops h b hb
    · rename_i hx; exact absurd h hx

theorem eF_ops {args regs : Int} {bs : List Blk} (h : eF args regs bs = 0) : Ops bs := by
  unfold eF at h
  split at h
  · exact eBs_ops h
  · rename_i hz; exact absurd h hz

/-- A result hangs on the operands that are used. -/
theorem ev_used {op a b a' b' : Int} (i : Int) (h1 : 1 ≤ op) (h2 : op ≤ 16) (ha : uA op = true → a = a') (hb : uB op = true → b = b') : ev op a b i = ev op a' b' i ∧ evo op b = evo op b' := by
  by_cases e1 : op = 1
  · subst e1; exact ⟨rfl, rfl⟩
  obtain rfl := ha (by unfold uA; exact decide_eq_true (by omega))
  by_cases e4 : op ≤ 4
  · have : op = 2 ∨ op = 3 ∨ op = 4 := by omega
    rcases this with rfl | rfl | rfl <;> exact ⟨rfl, by simp [evo]⟩
  · obtain rfl := hb (by unfold uB; exact decide_eq_true (by omega))
    exact ⟨rfl, rfl⟩

structure Stay (bs : List Blk) (r s : Rn) : Prop where
  st : r.st = s.st
  blk : r.blk = s.blk
  pos : r.pos = s.pos
  val : r.val = s.val
  tr : r.trace = s.trace
  steps : r.steps = s.steps
  len : r.regs.length = s.regs.length
  dif : r.st = 0 → ∀ v : Int, 0 ≤ v → ¬ rg r.regs v = rg s.regs v → lvP bs r.blk r.pos v = false

theorem Stay.same {bs : List Blk} {r s : Rn} (h : Stay bs r s) (h0 : r.st = 0) {v : Int} (hv : 0 ≤ v) (hl : lvP bs r.blk r.pos v = true) : rg r.regs v = rg s.regs v := by
  by_cases e : rg r.regs v = rg s.regs v
  · exact e
  · rw [h.dif h0 v hv e] at hl; cases hl

theorem rg_set {l : List Int} {d v x : Int} (hd : 0 ≤ d) (hl : d < l.length) (hv : 0 ≤ v) : rg (l.set d.toNat x) v = if v = d then x else rg l v := by
  unfold rg
  rw [List.getD_eq_getElem?_getD, List.getD_eq_getElem?_getD, List.getElem?_set]
  by_cases e : v = d
  · subst e; rw [if_pos rfl, if_pos rfl, if_pos (by omega)]; rfl
  · rw [if_neg e, if_neg (by omega)]

section
variable {regs : Nat} {bs : List Blk} {r s : Rn}

theorem perf_stay (hF : OkF regs bs) (hO : Ops bs) (hG : Good regs bs r) (h : Stay bs r s) (h0 : r.st = 0) (hp : r.pos < (blkAt bs r.blk).code.length) : Stay bs (perf ((blkAt bs r.blk).code[r.pos]) r) (perf ((blkAt bs r.blk).code[r.pos]) s) := by
  have hi := hF.ins _ (blkAt_mem hG.blk) _ (List.getElem_mem hp)
  have ho := hO _ (blkAt_mem hG.blk) _ (List.getElem_mem hp)
  have hu := lvP_ins hp
  have hlen := h.len
  have hrl := hG.len
  revert hi ho hu
  generalize (blkAt bs r.blk).code[r.pos] = x
  intro hi ho hu
  have hA : uA x.op = true → rg r.regs x.a = rg s.regs x.a := fun e => h.same h0 hi.2.1 (by rw [hu, iUse, e]; simp)
  unfold perf
  by_cases h17 : x.op = 17
  · rw [if_pos h17, if_pos h17]
    refine ⟨h.st, h.blk, by show r.pos + 1 = s.pos + 1; rw [h.pos], h.val, ?_, by show r.steps + 1 = s.steps + 1; rw [h.steps], h.len, fun _ v hv hd => ?_⟩
    · show r.trace ++ _ = s.trace ++ _
      rw [h.tr, hA (by rw [h17]; rfl)]
    · have := h.dif h0 v hv hd
      rw [hu, iDef, h17] at this
      show lvP bs r.blk (r.pos + 1) v = false
      have hnd : uD 17 = false := rfl
      rw [hnd] at this
      simp at this
      exact this.2
  · obtain ⟨hd0, hd1, hb0, hb1⟩ : 0 ≤ x.d ∧ x.d < regs ∧ 0 ≤ x.b ∧ x.b < regs := by
      rcases hi.2.2.2 with e | ⟨_, g⟩
      · exact absurd e h17
      · exact g
    have hB : uB x.op = true → rg r.regs x.b = rg s.regs x.b := fun e => h.same h0 hb0 (by rw [hu, iUse, e]; simp)
    obtain ⟨g1, g2⟩ := ev_used x.imm ho.1 (by omega) hA hB
    rw [if_neg h17, if_neg h17, ← g1, ← g2]
    by_cases hv : evo x.op (rg r.regs x.b) = true
    · rw [if_pos hv, if_pos hv]
      refine ⟨h.st, h.blk, by show r.pos + 1 = s.pos + 1; rw [h.pos], h.val, h.tr, by show r.steps + 1 = s.steps + 1; rw [h.steps], by show (r.regs.set _ _).length = (s.regs.set _ _).length; rw [List.length_set, List.length_set, h.len], fun _ v hv hd => ?_⟩
      show lvP bs r.blk (r.pos + 1) v = false
      have hd : ¬ rg (r.regs.set x.d.toNat (ev x.op (rg r.regs x.a) (rg r.regs x.b) x.imm)) v = rg (s.regs.set x.d.toNat (ev x.op (rg r.regs x.a) (rg r.regs x.b) x.imm)) v := hd
      rw [rg_set hd0 (by omega) hv, rg_set hd0 (by omega) hv] at hd
      by_cases e : v = x.d
      · rw [if_pos e, if_pos e] at hd; exact absurd rfl hd
      · rw [if_neg e, if_neg e] at hd
        have := h.dif h0 v hv hd
        rw [hu, iDef, beq_eq_false_iff_ne.2 (Ne.symm e)] at this
        simp at this
        exact this.2
    · rw [if_neg hv, if_neg hv]
      exact ⟨rfl, h.blk, h.pos, h.val, h.tr, h.steps, h.len, fun e => absurd (show (2 : Int) = 0 from e) (by decide)⟩

theorem leav_stay (hF : OkF regs bs) (hG : Good regs bs r) (h : Stay bs r s) (h0 : r.st = 0) (hp : ¬ r.pos < (blkAt bs r.blk).code.length) : Stay bs (leav (blkAt bs r.blk).term r) (leav (blkAt bs r.blk).term s) := by
  have ht := hF.tm _ (blkAt_mem hG.blk)
  have hu : ∀ v, lvP bs r.blk r.pos v = (tUse (blkAt bs r.blk).term v || (succs (blkAt bs r.blk).term).any fun s => lvB bs v s.toNat) := lvP_end hp
  revert ht hu
  generalize (blkAt bs r.blk).term = t
  intro ht hu
  have hA : ¬ t.kind = 1 → 0 ≤ t.a → rg r.regs t.a = rg s.regs t.a := fun e hv => h.same h0 hv (by rw [hu, tUse]; simp [bne, beq_eq_false_iff_ne.2 e])
  have hst := h.st
  unfold leav
  by_cases h3 : t.kind = 3
  · rw [if_pos h3, if_pos h3]
    refine ⟨rfl, h.blk, h.pos, ?_, h.tr, by show r.steps + 1 = s.steps + 1; rw [h.steps], h.len, fun e => absurd (show (1 : Int) = 0 from e) (by decide)⟩
    refine hA (by omega) ?_
    rcases ht with ⟨e, _⟩ | ⟨e, _⟩ | ⟨e, h1, _⟩
    · omega
    · omega
    · exact h1
  · rw [if_neg h3, if_neg h3]
    have hto : ∀ q : Nat, (∃ z ∈ succs t, z.toNat = q) → q < bs.length → ∀ v : Int, 0 ≤ v → ¬ rg r.regs v = rg s.regs v → lvP bs q 0 v = false := by
      rintro q ⟨z, hz, rfl⟩ hq v hv hd
      have := h.dif h0 v hv hd
      rw [hu, Bool.or_eq_false_iff, List.any_eq_false] at this
      rw [lvP_zero hq]
      simpa using this.2 z hz
    have hc : (t.kind = 2 ∧ rg r.regs t.a = 0) = (t.kind = 2 ∧ rg s.regs t.a = 0) := by
      rcases ht with ⟨e, _⟩ | ⟨e, h1, _⟩ | ⟨e, _⟩
      · rw [e]; simp
      · rw [hA (by omega) h1]
      · rw [e]; simp
    refine ⟨h.st, ?_, rfl, h.val, h.tr, by show r.steps + 1 = s.steps + 1; rw [h.steps], h.len, fun _ v hv hd => ?_⟩
    · show (if t.kind = 2 ∧ rg r.regs t.a = 0 then _ else _) = (if t.kind = 2 ∧ rg s.regs t.a = 0 then _ else _)
      by_cases e : t.kind = 2 ∧ rg r.regs t.a = 0
      · rw [if_pos e, if_pos (hc ▸ e)]
      · rw [if_neg e, if_neg (fun g => e (hc ▸ g))]
    · show lvP bs (if t.kind = 2 ∧ rg r.regs t.a = 0 then t.el.toNat else t.to.toNat) 0 v = false
      have hd : ¬ rg r.regs v = rg s.regs v := hd
      refine hto _ ?_ ?_ v hv hd
      · unfold succs
        rcases ht with ⟨e, _⟩ | ⟨e, _⟩ | ⟨e, _⟩
        · rw [if_pos e, if_neg (fun g => by have := g.1; omega)]; exact ⟨_, List.mem_singleton.2 rfl, rfl⟩
        · rw [if_neg (show ¬ t.kind = 1 by omega), if_pos e]
          split
          · exact ⟨t.el, by simp, rfl⟩
          · exact ⟨t.to, by simp, rfl⟩
        · exact absurd e h3
      · rcases ht with ⟨e, h1, h2⟩ | ⟨e, _, _, h1, h2, h4, h5⟩ | ⟨e, _⟩
        · rw [if_neg (fun g => by have := g.1; omega)]; omega
        · split <;> omega
        · exact absurd e h3

theorem step_stay (hF : OkF regs bs) (hO : Ops bs) (hG : Good regs bs r) (h : Stay bs r s) : Stay bs (stepR bs r) (stepR bs s) := by
  by_cases h0 : r.st = 0
  · have hs0 : s.st = 0 := by rw [← h.st]; exact h0
    rw [stepR, if_pos h0, stepR, if_pos hs0]
    by_cases hp : r.pos < (blkAt bs r.blk).code.length
    · rw [dif_pos hp, dif_pos (by rw [← h.blk, ← h.pos]; exact hp)]
      have e : (blkAt bs s.blk).code[s.pos]'(by rw [← h.blk, ← h.pos]; exact hp) = (blkAt bs r.blk).code[r.pos] := by simp only [← h.blk, ← h.pos]
      rw [e]
      exact perf_stay hF hO hG h h0 hp
    · rw [dif_neg hp, dif_neg (by rw [← h.blk, ← h.pos]; exact hp), ← h.blk]
      exact leav_stay hF hG h h0 hp
  · rw [stepR_stop h0, stepR_stop (by rw [← h.st]; exact h0)]
    exact h

theorem run_stay (hF : OkF regs bs) (hO : Ops bs) (hG : Good regs bs r) (h : Stay bs r s) : ∀ n, Stay bs (runR bs r n) (runR bs s n)
  | 0 => h
  | n + 1 => step_stay hF hO (run_good hF hG n) (run_stay hF hO hG h n)

/-- A run at the beginning of a block, of which a register that is not live is changed. -/
theorem set_stay (hG : Good regs bs r) (hp : r.pos = 0) {k : Int} (hk : 0 ≤ k) (hl : k < regs) (x : Int) (hn : lvB bs k r.blk = false) : Stay bs r { r with regs := r.regs.set k.toNat x } := by
  refine ⟨rfl, rfl, rfl, rfl, rfl, rfl, by show _ = (r.regs.set _ _).length; rw [List.length_set], fun _ v hv hd => ?_⟩
  have hd : ¬ rg r.regs v = rg (r.regs.set k.toNat x) v := hd
  rw [rg_set hk (by rw [hG.len]; exact hl) hv] at hd
  by_cases e : v = k
  · subst e
    rw [hp, lvP_zero hG.blk]; exact hn
  · rw [if_neg e] at hd; exact absurd rfl hd

theorem set_good (hG : Good regs bs r) {k : Int} {x : Int} (hx : InI x) : Good regs bs { r with regs := r.regs.set k.toNat x } :=
  ⟨hG.blk, hG.pos, by show (r.regs.set _ _).length = _; rw [List.length_set]; exact hG.len, fun v hv => by
    rcases List.mem_or_eq_of_mem_set hv with hv | rfl
    · exact hG.wf v hv
    · exact hx, hG.tr⟩

end

end Go.Proofs.Ytncigbpeempnfaa
