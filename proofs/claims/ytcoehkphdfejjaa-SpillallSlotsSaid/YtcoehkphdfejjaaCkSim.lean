/-
  An accepted certificate: the allocated function simulates the source function.
-/
import Derived.Test.YtcoehkphdfejjaaBcSim
import Derived.Test.YtcoehkphdfejjaaCkMath
namespace Go.Proofs.Ytcoehkphdfejjaa
open Go.RowKit
set_option linter.unusedVariables false

/-! Runs of moves. -/

theorem mvs_drop : ∀ (l : List Mi) (k : Nat), mvs (l.drop k) ≤ mvs l
  | [], k => by simp
  | x :: r, 0 => Nat.le_refl _
  | x :: r, k + 1 => by
    rw [List.drop_succ_cons, mvs]
    exact Nat.le_trans (mvs_drop r k) (Nat.le_max_right _ _)

theorem lead_ge : ∀ (l : List Mi) (c : Nat), c ≤ l.length → (∀ z (h : z < l.length), z < c → isM l[z] = true) → c ≤ lead l
  | [], c, h, _ => by have : c = 0 := by simpa using h
                      omega
  | x :: r, 0, _, _ => Nat.zero_le _
  | x :: r, c + 1, h, hz => by
    have h0 := hz 0 (by simp) (by omega)
    have h1 : x.mv = true := h0
    rw [lead, if_pos h1]
    have := lead_ge r c (by simpa using h) fun z hz1 hz2 => by
      have := hz (z + 1) (by simpa using hz1) (by omega)
      simpa using this
    omega

theorem moves_run {mach : List Mi} {k b : Nat} (hb : b ≤ mach.length) (hz : ∀ z (h : z < mach.length), k ≤ z → z < b → isM mach[z] = true) : b - k ≤ mvs mach := by
  by_cases hkb : k ≤ b
  · refine Nat.le_trans ?_ (mvs_drop mach k)
    refine Nat.le_trans ?_ (lead_mvs _)
    refine lead_ge (mach.drop k) (b - k) (by rw [List.length_drop]; omega) fun z h1 h2 => ?_
    rw [List.length_drop] at h1
    rw [List.getElem_drop]
    exact hz (k + z) (by omega) (by omega) (by omega)
  · omega

section
variable {N n m q : Nat} {code : List In} {mach : List Mi} {bt mt : Tm} {bs : List Blk} {ms : List MBlk} {most : Int}

theorem chn_len {i k : Nat} {rows : List Rw} (h : Chn code mach i k rows) (hm : mvs mach ≤ 64) : mach.length - k + 1 ≤ 65 * (code.length - i + 1) := by
  induction h with
  | @last i k hi hk hc hmm =>
    have := moves_run (mach := mach) (k := k) (b := mach.length) (Nat.le_refl _) fun z h h1 _ => hmm z h h1
    omega
  | @step i k a b rest hi hxl hk hyl hc hmm hs hr ih =>
    have := moves_run (mach := mach) (k := k) (b := b) (by omega) hmm
    omega

theorem cp_trace (hb : blkAt bs q = ⟨code, bt⟩) (hok : ∀ x ∈ code, InOk N x) : ∀ (c i : Nat) (x : Rn), SQ N q i x → i + c ≤ code.length → (∀ z (h : z < code.length), i ≤ z → z < i + c → isC code[z] = true) → SQ N q (i + c) (runR bs x c) ∧ (runR bs x c).trace = x.trace
  | 0, i, x, hx, _, _ => ⟨hx, rfl⟩
  | c + 1, i, x, hx, hc, hz => by
    have hi : i < code.length := by omega
    have h2 : code[i].op = 2 := by simpa [isC] using hz i hi (Nat.le_refl _) (by omega)
    have hp : perf code[i] x = { x with regs := x.regs.set code[i].d.toNat (rg x.regs code[i].a), pos := x.pos + 1, steps := x.steps + 1 } := by
      unfold perf
      rw [if_neg (by omega), h2, if_pos (by rfl), ev_2]
    have hst : SQ N q (i + 1) (stepR bs x) := by
      rw [step_src hb hx hi, hp]
      exact ⟨hx.st, hx.blk, by show x.pos + 1 = _; rw [hx.pos], by show (x.regs.set _ _).length = _; rw [List.length_set]; exact hx.len, hx.val⟩
    have ht : (stepR bs x).trace = x.trace := by rw [step_src hb hx hi, hp]
    obtain ⟨r1, r2⟩ := cp_trace hb hok c (i + 1) (stepR bs x) hst (by omega) (fun z h h1 h2 => hz z h (by omega) (by omega))
    have e : runR bs x (c + 1) = runR bs (stepR bs x) c := by
      rw [Nat.add_comm c 1, runR_add]
      rfl
    rw [e]
    exact ⟨by rw [show i + (c + 1) = i + 1 + c by omega]; exact r1, r2.trans ht⟩

/-- A part of a block. -/
theorem sim_part (hb : blkAt bs q = ⟨code, bt⟩) (hmb : mblkAt ms q = ⟨mach, mt⟩) (hok : ∀ x ∈ code, InOk N x) (hmk : ∀ y ∈ mach, MiOk n m y) (hmv : mvs mach ≤ 64) {i k : Nat} {rows : List Rw} (hch : Chn code mach i k rows) :
    ∀ (x : Rn) (y : Xn) (r : Rs), SQ N q i x → SZ n m q k y → x.trace = y.trace → HoldS n m r.out x.regs y.regs y.slots → (foldE most (rows.flatMap (rowOps code mach)) r).err = 0 → ∀ j, j ≤ code.length - i →
      (∃ j', j' ≤ j ∧ (runR bs x j').st = 2) ∨ ((runR bs x j).st = 0 ∧ ∃ k', k' ≤ 65 * j ∧ (runX ms y k').trace = (runR bs x j).trace) := by
  induction hch with
  | @last i k hi hk hcc hmm =>
    intro x y r hx hy ht hh hf j hj
    obtain ⟨c1, c2⟩ := cp_trace hb hok j i x hx (by omega) (fun z h h1 _ => hcc z h h1)
    exact .inr ⟨c1.st, 0, Nat.zero_le _, ht.symm.trans c2.symm⟩
  | @step i k a b rest hi hxl hk hyl hcc hmm hs hr ih =>
    intro x y r hx hy ht hh hf j hj
    by_cases hja : j ≤ a - i
    · obtain ⟨c1, c2⟩ := cp_trace hb hok j i x hx (by omega) (fun z h h1 h2 => hcc z h h1 (by omega))
      exact .inr ⟨c1.st, 0, Nat.zero_le _, ht.symm.trans c2.symm⟩
    · rw [List.flatMap_cons, foldE_append] at hf
      have hf1 := foldE_first hf
      rw [rowOps_step hxl hyl, foldE_append, foldE_append] at hf1 hf
      have hf2 := foldE_first hf1
      have hf3 := foldE_first hf2
      obtain ⟨s1, s2, s3⟩ := sim_cp (most := most) (n := n) (m := m) hb hok k (a - i) i x r hx (by omega) (fun z h h1 h2 => hcc z h h1 (by omega)) y.regs y.slots hh hf3
      obtain ⟨t1, t2, t3⟩ := sim_mv (most := most) (n := n) (m := m) hmb hmk (b - k) k y _ hy (by omega) (fun z h h1 h2 => hmm z h h1 (by omega)) _ s3 hf2
      rw [show i + (a - i) = a by omega] at s1
      rw [show k + (b - k) = b by omega] at t1
      have hio := sim_ins (most := most) (kk := b) hb hmb hxl hyl (hok _ (List.getElem_mem hxl)) (hmk _ (List.getElem_mem hyl)) hs s1 t1 (s2.trans (ht.trans t2.symm)) t3 hf1
      have ex : runR bs x (a - i + 1) = stepR bs (runR bs x (a - i)) := rfl
      have ey : runX ms y (b - k + 1) = stepX ms (runX ms y (b - k)) := rfl
      rcases hio with h2 | ⟨u1, u2, u3, u4⟩
      · exact .inl ⟨a - i + 1, by omega, by rw [ex]; exact h2⟩
      · have c := ih (stepR bs (runR bs x (a - i))) (stepX ms (runX ms y (b - k))) _ u1 u2 u3 u4 hf (j - (a - i + 1)) (by omega)
        rw [← ex, ← ey, ← runR_add, show a - i + 1 + (j - (a - i + 1)) = j by omega] at c
        rcases c with ⟨j', hj', c⟩ | ⟨c0, k', hk', c⟩
        · rw [← runR_add] at c
          exact .inl ⟨a - i + 1 + j', by omega, c⟩
        · rw [← runX_add] at c
          have := moves_run (mach := mach) (k := k) (b := b) (by omega) hmm
          exact .inr ⟨c0, b - k + 1 + k', by omega, c⟩

/-- A block as a whole: up to its terminators. -/
theorem block_go (hb : blkAt bs q = ⟨code, bt⟩) (hmb : mblkAt ms q = ⟨mach, mt⟩) (hok : ∀ x ∈ code, InOk N x) (hmk : ∀ y ∈ mach, MiOk n m y) (hmv : mvs mach ≤ 64) {ok : Bool} (htm : ok = true → bt.kind = mt.kind ∧ bt.to = mt.to ∧ bt.el = mt.el) {l : List Pr} {x : Rn} {y : Xn}
    (hx : SQ N q 0 x) (hy : SZ n m q 0 y) (ht : x.trace = y.trace) (hh : HoldS n m l x.regs y.regs y.slots) (hacc : (checkE code mach bt mt ok l most).err = 0) :
    (∀ j, j ≤ code.length → (∃ j', j' ≤ j ∧ (runR bs x j').st = 2) ∨ ((runR bs x j).st = 0 ∧ ∃ k', k' ≤ 65 * j ∧ (runX ms y k').trace = (runR bs x j).trace)) ∧ mach.length + 1 ≤ 65 * (code.length + 1) ∧
    ((∃ j, j ≤ code.length ∧ (runR bs x j).st = 2) ∨
      ∃ x' y', x' = runR bs x code.length ∧ y' = runX ms y mach.length ∧ SQ N q code.length x' ∧ SZ n m q mach.length y' ∧ x'.trace = y'.trace ∧ HoldS n m (checkE code mach bt mt ok l most).out x'.regs y'.regs y'.slots ∧
        (¬ bt.kind = 1 → rg x'.regs bt.a = rg y'.regs mt.a) ∧ stepR bs x' = leav bt x' ∧ stepX ms y' = xleav mt y' ∧ bt.kind = mt.kind ∧ bt.to = mt.to ∧ bt.el = mt.el) := by
  unfold checkE at hacc ⊢
  by_cases hmst : most < (l.length : Int)
  · rw [if_pos hmst] at hacc
    cases hacc
  · rw [if_neg hmst] at hacc ⊢
    rcases alC_out code mach with ⟨rows, hr, hch⟩ | ⟨z, hr, _, _⟩
    · rw [hr] at hacc ⊢
      dsimp only at hacc ⊢
      simp only [ne_eq, not_true_eq_false, if_false] at hacc ⊢
      cases ok
      · simp only [if_true] at hacc
        cases hacc
      · simp only [Bool.true_eq_false, if_false] at hacc ⊢
        obtain ⟨tk, tt, te⟩ := htm rfl
        unfold runE at hacc ⊢
        dsimp only at hacc ⊢
        have hq : (foldE most (blkOps code mach rows bt mt) ⟨l, 0, 0, 0, l.length⟩).err = 0 := by
          by_cases h0 : (foldE most (blkOps code mach rows bt mt) ⟨l, 0, 0, 0, l.length⟩).err = 0
          · exact h0
          · rw [if_neg h0] at hacc
            exact absurd hacc h0
        rw [if_pos hq]
        show _ ∧ _ ∧ (_ ∨ ∃ x' y', _ ∧ _ ∧ _ ∧ _ ∧ _ ∧ HoldS n m (foldE most (blkOps code mach rows bt mt) ⟨l, 0, 0, 0, l.length⟩).out _ _ _ ∧ _)
        unfold blkOps at hq ⊢
        rw [foldE_append] at hq ⊢
        have hq1 := foldE_first hq
        have hlen := chn_len hch hmv
        refine ⟨fun j hj => sim_part hb hmb hok hmk hmv hch x y ⟨l, 0, 0, 0, l.length⟩ hx hy ht hh hq1 j (by omega), by omega, ?_⟩
        rcases sim_rows hb hmb hok hmk hch x y ⟨l, 0, 0, 0, l.length⟩ hx hy ht hh hq1 with ⟨j, hj, h2⟩ | ⟨c1, c2, c3, c4⟩
        · exact .inl ⟨j, by omega, h2⟩
        · right
          simp only [Nat.sub_zero] at c1 c2 c3 c4
          refine ⟨_, _, rfl, rfl, c1, c2, c3, ?_⟩
          generalize runR bs x code.length = x' at *
          generalize runX ms y mach.length = y' at *
          generalize foldE most (rows.flatMap (rowOps code mach)) ⟨l, 0, 0, 0, l.length⟩ = r at *
          have hA : ¬ bt.kind = 1 → rg x'.regs bt.a = rg y'.regs mt.a := fun h => by
            rw [if_neg h, foldE_cons, foldE_nil] at hq
            obtain ⟨_, _, b3⟩ := stepE_out hq
            have := (c4 _ (b3 _ _ _ rfl)).2.2.2
            rw [rd2_reg] at this
            exact this.symm
          have hout : (foldE most (if bt.kind = 1 then [] else [EOp.us bt.a mt.a mach.length]) r).out = r.out := by
            by_cases h : bt.kind = 1
            · rw [if_pos h, foldE_nil]
            · rw [if_neg h, foldE_cons, foldE_nil] at hq ⊢
              exact (stepE_out hq).2.1
          rw [hout]
          have sx : stepR bs x' = leav bt x' := by
            unfold stepR
            rw [if_pos c1.st, dif_neg (by rw [c1.blk, hb, c1.pos]; exact Nat.lt_irrefl _), c1.blk, hb]
          have sy : stepX ms y' = xleav mt y' := by
            unfold stepX
            rw [if_pos c2.st, dif_neg (by rw [c2.blk, hmb, c2.pos]; exact Nat.lt_irrefl _), c2.blk, hmb]
          exact ⟨c4, hA, sx, sy, tk, tt, te⟩
    · rw [hr] at hacc
      dsimp only at hacc
      rw [if_pos (by decide)] at hacc
      cases hacc

end

/-- What a certificate's simulation needs. -/
structure SimC (c : Ct) (N n m : Nat) : Prop where
  fs : OkF N c.bs
  ft : OkM n m c.ms
  len : c.bs.length = c.ms.length
  mv : ∀ b ∈ c.ms, mvs b.code ≤ 64
  ok : ∀ j, j < c.bs.length → okB c j

theorem tmP_eq {a b : Tm} (h : tmP a b = true) : a.kind = b.kind ∧ a.to = b.to ∧ a.el = b.el := by
  simpa [tmP, and_assoc] using h

theorem run_two {bs : List Blk} {x : Rn} {j f : Nat} (hj : j ≤ f) (h : (runR bs x j).st = 2) : (runR bs x f).st = 2 := by
  have := run_stop bs x (n := j) (by rw [h]; decide) (f - j)
  rw [show j + (f - j) = f by omega] at this
  rw [this]
  exact h

theorem sim_all {c : Ct} {N n m : Nat} (hc : SimC c N n m) : ∀ (f q : Nat) (x : Rn) (y : Xn), q < c.bs.length → SQ N q 0 x → SZ n m q 0 y → x.trace = y.trace → HoldS n m (c.i q) x.regs y.regs y.slots →
    (runR c.bs x f).st = 2 ∨
    ((runR c.bs x f).st = 1 ∧ ∃ s k, (runR c.bs x f).steps = x.steps + s ∧ k ≤ 65 * s ∧ (runX c.ms y k).st = 1 ∧ (runX c.ms y k).val = (runR c.bs x f).val ∧ (runX c.ms y k).trace = (runR c.bs x f).trace) ∨
    ((runR c.bs x f).st = 0 ∧ ∃ k, k ≤ 65 * f ∧ (runX c.ms y k).trace = (runR c.bs x f).trace) := by
  intro f
  induction f using Nat.strongRecOn with
  | _ f ih =>
    intro q x y hq hx hy ht hh
    have hqm : q < c.ms.length := by rw [← hc.len]; exact hq
    obtain ⟨hok1, hok2⟩ := hc.ok q hq
    have hb : blkAt c.bs q = ⟨(blkAt c.bs q).code, (blkAt c.bs q).term⟩ := rfl
    have hmb : mblkAt c.ms q = ⟨(mblkAt c.ms q).code, (mblkAt c.ms q).term⟩ := rfl
    have htm := hc.fs.tm _ (blkAt_mem hq)
    obtain ⟨g1, g2, g3⟩ := block_go (most := 1048576) hb hmb (hc.fs.ins _ (blkAt_mem hq)) (hc.ft.ins _ (mblkAt_mem hqm)) (hc.mv _ (mblkAt_mem hqm)) (ok := tmP (blkAt c.bs q).term (mblkAt c.ms q).term) tmP_eq hx hy ht hh hok1
    change _ ∨ ∃ x' y', _ ∧ _ ∧ _ ∧ _ ∧ _ ∧ HoldS n m (ckB c q).out _ _ _ ∧ _ at g3
    generalize (blkAt c.bs q).code = code at *
    generalize (mblkAt c.ms q).code = mach at *
    generalize (blkAt c.bs q).term = bt at *
    generalize (mblkAt c.ms q).term = mt at *
    generalize (ckB c q).out = out at *
    clear hb hmb
    by_cases hfc : f ≤ code.length
    · rcases g1 f hfc with ⟨j', hj', h2⟩ | ⟨h0, k', hk', h2⟩
      · exact .inl (run_two hj' h2)
      · exact .inr (.inr ⟨h0, k', hk', h2⟩)
    · rcases g3 with ⟨j, hj, h2⟩ | ⟨x', y', ex, ey, sx, sy, st, sh, sa, lx, ly, tk, tt, te⟩
      · exact .inl (run_two (by omega) h2)
      · have e1 : runR c.bs x (code.length + 1) = leav bt x' := by rw [← lx, ex]; rfl
        have e2 : runX c.ms y (mach.length + 1) = xleav mt y' := by rw [← ly, ey]; rfl
        have es : x'.steps = x.steps + code.length := by
          have := (run_steps c.bs x code.length).2.2
          rw [← ex] at this
          exact this sx.st
        by_cases h3 : bt.kind = 3
        · have f1 : leav bt x' = { x' with st := 1, val := rg x'.regs bt.a, steps := x'.steps + 1 } := by unfold leav; rw [if_pos h3]
          have f2 : xleav mt y' = { y' with st := 1, val := rg y'.regs mt.a, steps := y'.steps + 1 } := by unfold xleav; rw [if_pos (show mt.kind = 3 by omega)]
          have f3 : runR c.bs x f = leav bt x' := by
            have := run_stop c.bs x (n := code.length + 1) (by rw [e1, f1]; show ¬ (1 : Int) = 0; decide) (f - (code.length + 1))
            rw [show code.length + 1 + (f - (code.length + 1)) = f by omega] at this
            rw [this, e1]
          right; left
          rw [f3, f1]
          refine ⟨rfl, code.length + 1, mach.length + 1, by show x'.steps + 1 = _; omega, g2, ?_⟩
          rw [e2, f2]
          exact ⟨rfl, (sa (by omega)).symm, st.symm⟩
        · have f1 : leav bt x' = { x' with blk := if bt.kind = 2 ∧ rg x'.regs bt.a = 0 then bt.el.toNat else bt.to.toNat, pos := 0, steps := x'.steps + 1 } := by unfold leav; rw [if_neg h3]
          have f2 : xleav mt y' = { y' with blk := if mt.kind = 2 ∧ rg y'.regs mt.a = 0 then mt.el.toNat else mt.to.toNat, pos := 0, steps := y'.steps + 1 } := by unfold xleav; rw [if_neg (show ¬ mt.kind = 3 by omega)]
          obtain ⟨q', hq'⟩ : ∃ z, z = if bt.kind = 2 ∧ rg x'.regs bt.a = 0 then bt.el.toNat else bt.to.toNat := ⟨_, rfl⟩
          have hq2 : (if mt.kind = 2 ∧ rg y'.regs mt.a = 0 then mt.el.toNat else mt.to.toNat) = q' := by
            rw [hq', ← tk, ← tt, ← te]
            by_cases h2 : bt.kind = 2
            · rw [sa (by omega)]
            · rw [if_neg (fun h => h2 h.1), if_neg (fun h => h2 h.1)]
          rw [← hq'] at f1
          rw [hq2] at f2
          have hsu : q' < c.bs.length ∧ ∃ t ∈ succs bt, t.toNat = q' := by
            rcases htm with ⟨k1, k2, k3⟩ | ⟨k1, k2, k3, k4, k5, k6, k7⟩ | ⟨k1, _⟩
            · rw [if_neg (fun h => by omega)] at hq'
              exact ⟨by omega, bt.to, by unfold succs; rw [if_pos k1]; simp, hq'.symm⟩
            · by_cases h0 : rg x'.regs bt.a = 0
              · rw [if_pos ⟨k1, h0⟩] at hq'
                exact ⟨by omega, bt.el, by unfold succs; rw [if_neg (by omega), if_pos k1]; simp, hq'.symm⟩
              · rw [if_neg (fun h => h0 h.2)] at hq'
                exact ⟨by omega, bt.to, by unfold succs; rw [if_neg (by omega), if_pos k1]; simp, hq'.symm⟩
            · exact absurd k1 h3
          obtain ⟨hql, t, hts, htq⟩ := hsu
          have hmis := hok2 t hts
          rw [htq, misP_none] at hmis
          have hx1 : SQ N q' 0 (leav bt x') := by rw [f1]; exact ⟨sx.st, rfl, rfl, sx.len, sx.val⟩
          have hy1 : SZ n m q' 0 (xleav mt y') := by rw [f2]; exact ⟨sy.st, rfl, rfl, sy.lr, sy.ls, sy.val⟩
          have ht1 : (leav bt x').trace = (xleav mt y').trace := by rw [f1, f2]; exact st
          have hh1 : HoldS n m (c.i q') (leav bt x').regs (xleav mt y').regs (xleav mt y').slots := by
            rw [f1, f2]
            exact fun p hp => sh p (hmis p hp)
          have hs1 : (leav bt x').steps = x.steps + code.length + 1 := by rw [f1]; show x'.steps + 1 = _; omega
          have hi := ih (f - (code.length + 1)) (by omega) q' _ _ hql hx1 hy1 ht1 hh1
          rw [← e1, ← e2, ← runR_add, show code.length + 1 + (f - (code.length + 1)) = f by omega] at hi
          rw [← e1] at hs1
          rcases hi with hi | ⟨hi, s, k, i1, i2, i3, i4, i5⟩ | ⟨hi, k, i1, i2⟩
          · exact .inl hi
          · rw [← runX_add] at i3 i4 i5
            exact .inr (.inl ⟨hi, code.length + 1 + s, mach.length + 1 + k, by omega, by omega, i3, i4, i5⟩)
          · rw [← runX_add] at i2
            exact .inr (.inr ⟨hi, mach.length + 1 + k, by omega, i2⟩)

/-- Accepted and valid certificates can be simulated. -/
theorem simC_of {c : Ct} (h : okC c) (hw : ∀ y ∈ c.bs, y.Wf) (hv : ∀ y ∈ c.ms, y.Wf) : ∃ N n m : Nat, c.sr = N ∧ c.tr = n ∧ c.ts = m ∧ 0 ≤ c.sa ∧ c.sa ≤ N ∧ c.sa ≤ m ∧ c.sa = c.ta ∧ SimC c N n m ∧ vlsE c.sr c.tr c.ts c.inv = 0 ∧ c.inv.length = c.bs.length := by
  obtain ⟨h1, h2, h3⟩ := h
  unfold validC at h1
  split at h1
  · rename_i h4; exact absurd h1 h4
  · rename_i h4
    split at h1
    · rename_i h5; exact absurd h1 h5
    · rename_i h5
      split at h1
      · cases h1
      · rename_i h6
        have h4 : eF c.sa c.sr c.bs = 0 := by omega
        have h5 : eMF c.ta c.tr c.ts c.ms = 0 := by omega
        obtain ⟨N, e1, a1, a2, hF⟩ := eF_ok h4 hw
        obtain ⟨n, m, e2, e3, a3, a4, hM⟩ := eMF_ok h5 hv
        unfold validE at h1
        split at h1
        · cases h1
        · rename_i h7
          refine ⟨N, n, m, e1, e2, e3, a1, a2, by omega, by omega, ⟨hF, hM, by omega, fun b hb => ?_, h3⟩, h1, by omega⟩
          have hz : eMBs c.tr c.ts c.ms.length c.ms = 0 := by
            unfold eMF at h5
            split at h5
            · exact h5
            · rename_i h8; exact absurd h5 h8
          have key : ∀ (l : List MBlk) (k : Int), eMBs c.tr c.ts k l = 0 → ∀ b ∈ l, mvs b.code ≤ 64 := by
            intro l k
            induction l with
            | nil => intro _ b hb; cases hb
            | cons x l ih =>
              intro hl b hb
              unfold eMBs at hl
              split at hl
              · rename_i hx
                rcases List.mem_cons.1 hb with rfl | hb
                · unfold eMB at hx
                  split at hx
                  · rename_i h9; exact ((eCd_ok c.tr c.ts b.code 0 (by omega)).1 h9).2.2
                  · rename_i h9; exact absurd hx h9
                · exact ih hl b hb
              · rename_i hx; exact absurd hl hx
          exact key _ _ hz b hb

theorem rg_zeros (k : Nat) (j : Int) : rg (List.replicate k 0) j = 0 := by
  unfold rg
  rw [List.getD, List.getElem?_replicate]
  split <;> rfl

theorem rg_left {a b : List Int} {j : Int} (h : j.toNat < a.length) : rg (a ++ b) j = rg a j := by
  unfold rg
  rw [List.getD, List.getD, List.getElem?_append_left h]

theorem rg_right {a : List Int} {k : Nat} {j : Int} (h : a.length ≤ j.toNat) : rg (a ++ List.replicate k 0) j = 0 := by
  unfold rg
  rw [List.getD, List.getElem?_append_right h, List.getElem?_replicate]
  split <;> rfl

/-- The pairs of the entry hold at the start. -/
theorem hold_start {c : Ct} {N n m : Nat} {args : List Int} (hl : (args.length : Int) = c.sa) (h : entP (c.i 0) c.sa = none) (hr : ∀ p ∈ c.i 0, (0 ≤ p.1 ∧ p.1 < (N : Int)) ∧ locS p.2 n m = true) (hN : args.length ≤ N) (hm : args.length ≤ m) :
    HoldS n m (c.i 0) (rn0 N args).regs (xn0 n m args).regs (xn0 n m args).slots := fun p hp => by
  obtain ⟨⟨h1, h2⟩, h3⟩ := hr p hp
  have hok := locS_ok h3
  have hin := entP_none.1 h p hp
  refine ⟨h1, by simp [rn0]; omega, hok, ?_⟩
  show rd2 (List.replicate n 0) (args ++ List.replicate (m - args.length) 0) p.2 = rg (args ++ List.replicate (N - args.length) 0) p.1
  unfold initP at hin
  unfold rd2
  by_cases hv : p.1 < c.sa
  · rw [if_pos hv] at hin
    simp only [Bool.and_eq_true, decide_eq_true_eq] at hin
    rw [if_pos hin.1, hin.2, rg_left (by omega), rg_left (by omega)]
  · rw [if_neg hv] at hin
    simp only [Bool.or_eq_true, decide_eq_true_eq] at hin
    rw [rg_right (a := args) (j := p.1) (by omega)]
    by_cases h5 : p.2 % 2 = 1
    · rw [if_pos h5]
      rcases hin with hin | hin
      · exact absurd h5 hin
      · exact rg_right (by omega)
    · rw [if_neg h5, rg_zeros]

/-- What the statement on soundness asks. -/
theorem checkC_sound {c : Ct} (h : (checkC c).err = 0) (hw : ∀ y ∈ c.bs, y.Wf) (hv : ∀ y ∈ c.ms, y.Wf) {args : List Int} (hl : (args.length : Int) = c.sa) (f : Nat) :
    ∃ N n m : Nat, c.sr = N ∧ c.tr = n ∧ c.ts = m ∧
    ((runR c.bs (rn0 N args) f).st = 2 ∨
     ((runR c.bs (rn0 N args) f).st = 1 ∧ (runX c.ms (xn0 n m args) (65 * (runR c.bs (rn0 N args) f).steps)).st = 1 ∧ (runX c.ms (xn0 n m args) (65 * (runR c.bs (rn0 N args) f).steps)).val = (runR c.bs (rn0 N args) f).val ∧ (runX c.ms (xn0 n m args) (65 * (runR c.bs (rn0 N args) f).steps)).trace = (runR c.bs (rn0 N args) f).trace ∧ (runX c.ms (xn0 n m args) (65 * (runR c.bs (rn0 N args) f).steps)).steps ≤ 65 * (runR c.bs (rn0 N args) f).steps) ∨
     ((runR c.bs (rn0 N args) f).st = 0 ∧ ∃ l, (runX c.ms (xn0 n m args) (65 * (runR c.bs (rn0 N args) f).steps)).trace = (runR c.bs (rn0 N args) f).trace ++ l)) := by
  have hk := checkC_ok h
  obtain ⟨N, n, m, e1, e2, e3, a1, a2, a3, a4, hS, hvl, hil⟩ := simC_of hk hw hv
  refine ⟨N, n, m, e1, e2, e3, ?_⟩
  have hne := hS.fs.ne
  have h0 : c.i 0 ∈ c.inv := Ct.i_mem (by omega)
  have hr : ∀ p ∈ c.i 0, (0 ≤ p.1 ∧ p.1 < (N : Int)) ∧ locS p.2 n m = true := by
    have key : ∀ (w : List (List Pr)), vlsE c.sr c.tr c.ts w = 0 → ∀ l ∈ w, vlE c.sr c.tr c.ts none l = 0 := by
      intro w
      induction w with
      | nil => intro _ l hl; cases hl
      | cons x w ih =>
        intro hw l hl
        rw [vlsE] at hw
        split at hw
        · rename_i h9; exact absurd hw h9
        · rename_i h9
          rcases List.mem_cons.1 hl with rfl | hl
          · omega
          · exact ih hw l hl
    intro p hp
    have := vlE_range (key _ hvl _ h0) p hp
    rw [e1, e2, e3] at this
    exact this
  have hh := hold_start (c := c) (N := N) (n := n) (m := m) hl hk.2.1 hr (by omega) (by omega)
  have hx : SQ N 0 0 (rn0 N args) := ⟨rfl, rfl, rfl, by simp [rn0]; omega, rfl⟩
  have hy : SZ n m 0 0 (xn0 n m args) := ⟨rfl, rfl, rfl, by simp [xn0], by simp [xn0]; omega, rfl⟩
  have hs0 : (rn0 N args).steps = 0 := rfl
  rcases sim_all hS f 0 _ _ hne hx hy rfl hh with g | ⟨g, s, k, g1, g2, g3, g4, g5⟩ | ⟨g, k, g1, g2⟩
  · exact .inl g
  · right; left
    have e : runX c.ms (xn0 n m args) (65 * (runR c.bs (rn0 N args) f).steps) = runX c.ms (xn0 n m args) k := by
      have := runX_stop c.ms (xn0 n m args) (n := k) (by rw [g3]; decide) (65 * (runR c.bs (rn0 N args) f).steps - k)
      rw [show k + (65 * (runR c.bs (rn0 N args) f).steps - k) = 65 * (runR c.bs (rn0 N args) f).steps by omega] at this
      exact this
    have hst := (runX_steps c.ms (xn0 n m args) (65 * (runR c.bs (rn0 N args) f).steps)).1
    have hz : (xn0 n m args).steps = 0 := rfl
    rw [hz, Nat.zero_add] at hst
    refine ⟨g, ?_, ?_, ?_, hst⟩
    · rw [e]; exact g3
    · rw [e]; exact g4
    · rw [e]; exact g5
  · right; right
    refine ⟨g, ?_⟩
    have hst := (run_steps c.bs (rn0 N args) f).2.2 g
    rw [hs0, Nat.zero_add] at hst
    rw [hst]
    obtain ⟨l, hl2⟩ := runX_pre c.ms (xn0 n m args) k (65 * f - k)
    rw [show k + (65 * f - k) = 65 * f by omega] at hl2
    exact ⟨l, by rw [hl2, g2]⟩

end Go.Proofs.Ytcoehkphdfejjaa
