/-
  The program of layer 21, as functions on data: states that are equal or both wrong; instructions, blocks and pairs as the program counts them.
-/
import Derived.Test.YtkapmfopfddmbaaGreatDcEx
namespace Go.Proofs.YtkapmfopfddmbaaGreat
open Go.RowKit
set_option linter.unusedVariables false

/-- Two states that are equal, or both of which have an error. -/
def Al (s t : Ip) : Prop := s = t ∨ (s.err ≠ 0 ∧ t.err ≠ 0)

theorem Al.refl (s : Ip) : Al s s := .inl rfl

theorem Al.eq {s t : Ip} (h : Al s t) (h0 : s.err = 0) : s = t := h.elim id fun hh => absurd h0 hh.1

theorem Al.bad {s t : Ip} (h : Al s t) (h0 : s.err ≠ 0) : t.err ≠ 0 := h.elim (fun hh => hh ▸ h0) fun hh => hh.2

theorem cP_al {vr r n tot : Int} {m : Nat} {s t : Ip} (h : Al s t) : cP vr r n m tot s = cP vr r n m tot t := by
  rcases h with rfl | ⟨h1, h2⟩
  · rfl
  · rw [cP_err h1, cP_err h2]

/-- Instructions, of which a reader tells the opcode: what is behind them. -/
def cdE (g : Ip → Int × Ip) : Nat → Nat → Ip → Ip
  | 0, _, s => s
  | k + 1, run, s => if s.err ≠ 0 then s else cdE g k (if (g s).1 = 18 then run + 1 else 0) (if 64 < (if (g s).1 = 18 then run + 1 else 0) then failE 15 (g s).2 else (g s).2)

def gI (r : Int) (s : Ip) : Int × Ip := ((instrE r s).1.op, (instrE r s).2)

def gM (r n : Int) (s : Ip) : Int × Ip := ((machE r n s).1.op, (machE r n s).2)

theorem cdE_err {g : Ip → Int × Ip} {k run : Nat} {s : Ip} (h : s.err ≠ 0) : cdE g k run s = s := by
  cases k with
  | zero => rfl
  | succ k => exact if_pos h

theorem first_op21 {most nt why : Int} {s : Ip} (h : 0 ≤ most) : (firstE most nt why s).1 ≤ most := by
  unfold firstE
  split
  · exact h
  · split
    · exact h
    · split
      · exact h
      · dsimp only; omega

theorem gI_op {r : Int} {s : Ip} : (gI r s).1 ≠ 18 := by
  show (instrE r s).1.op ≠ 18
  have h0 : (firstE 17 0 8 s).1 ≤ 17 := first_op21 (by decide)
  unfold instrE
  split
  · show (0 : Int) ≠ 18; decide
  · unfold readE
    split
    · show (0 : Int) ≠ 18; decide
    · dsimp only; omega

theorem cdE_gI {r : Int} : ∀ (k : Nat) (s : Ip), cdE (gI r) k 0 s = (insE r k s).2
  | 0, _ => rfl
  | k + 1, s => by
    by_cases h0 : s.err ≠ 0
    · rw [cdE_err h0, insE_err h0]
    · have e1 : cdE (gI r) (k + 1) 0 s = cdE (gI r) k (if (gI r s).1 = 18 then 0 + 1 else 0) (if 64 < (if (gI r s).1 = 18 then 0 + 1 else 0) then failE 15 (gI r s).2 else (gI r s).2) := if_neg h0
      have e2 : insE r (k + 1) s = ((instrE r s).1.ins :: (insE r k (instrE r s).2).1, (insE r k (instrE r s).2).2) := if_neg h0
      rw [e1, e2, if_neg gI_op, if_neg (by decide)]
      exact cdE_gI k _

theorem mv_op21 (x : Mi) : x.mv = decide (x.op = 18) := by
  unfold Mi.mv
  rw [Bool.eq_iff_iff]
  simp

theorem cdE_gM {r n : Int} : ∀ (k run : Nat) (s : Ip), cdE (gM r n) k run s = (miE r n k run s).2
  | 0, _, _ => rfl
  | k + 1, run, s => by
    by_cases h0 : s.err ≠ 0
    · rw [cdE_err h0, miE_err h0]
    · have e1 : cdE (gM r n) (k + 1) run s = cdE (gM r n) k (if (gM r n s).1 = 18 then run + 1 else 0) (if 64 < (if (gM r n s).1 = 18 then run + 1 else 0) then failE 15 (gM r n s).2 else (gM r n s).2) := if_neg h0
      have e2 : miE r n (k + 1) run s = ((machE r n s).1 :: (miE r n k (ext run (machE r n s).1) (mvE run (machE r n s).1 (machE r n s).2)).1, (miE r n k (ext run (machE r n s).1) (mvE run (machE r n s).1 (machE r n s).2)).2) := if_neg h0
      have e3 : ext run (machE r n s).1 = if (gM r n s).1 = 18 then run + 1 else 0 := by
        unfold ext
        rw [mv_op21]
        show (if decide ((machE r n s).1.op = 18) = true then run + 1 else 0) = if (machE r n s).1.op = 18 then run + 1 else 0
        by_cases h9 : (machE r n s).1.op = 18 <;> simp [h9]
      rw [e1, e2, cdE_gM k _ _]
      unfold mvE
      rw [e3]
      rfl

/-- A block: what is behind it; blocks: what is behind them, and the instructions that they announce. -/
def bkT (g : Ip → Int × Ip) (regs n tot : Int) (s : Ip) : Ip := (termE regs n (cdE g (cntE 2 s).1.toNat 0 (icE tot s).2)).2

def bksT (g : Ip → Int × Ip) (regs n : Int) : Nat → Int → Ip → Ip
  | 0, _, s => s
  | m + 1, tot, s => if s.err ≠ 0 then s else bksT g regs n m (tot + (cntE 2 s).1) (bkT g regs n tot s)

def bksI (g : Ip → Int × Ip) (regs n : Int) : Nat → Int → Ip → Int
  | 0, _, _ => 0
  | m + 1, tot, s => if s.err ≠ 0 then 0 else (cntE 2 s).1 + bksI g regs n m (tot + (cntE 2 s).1) (bkT g regs n tot s)

theorem bksT_err {g : Ip → Int × Ip} {regs n tot : Int} {m : Nat} {s : Ip} (h : s.err ≠ 0) : bksT g regs n m tot s = s := by
  cases m with
  | zero => rfl
  | succ m => exact if_pos h

theorem bksI_err {g : Ip → Int × Ip} {regs n tot : Int} {m : Nat} {s : Ip} (h : s.err ≠ 0) : bksI g regs n m tot s = 0 := by
  cases m with
  | zero => rfl
  | succ m => exact if_pos h

theorem bksI_nn {g : Ip → Int × Ip} {regs n : Int} : ∀ (m : Nat) (tot : Int) (s : Ip), 0 ≤ bksI g regs n m tot s
  | 0, _, _ => Int.le_refl _
  | m + 1, tot, s => by
    unfold bksI
    split
    · exact Int.le_refl _
    · have h1 := (cntE_rng (k := 2) (s := s)).1
      have h2 := bksI_nn (g := g) (regs := regs) (n := n) m (tot + (cntE 2 s).1) (bkT g regs n tot s)
      omega

/-- Too many instructions, or as many as are read. -/
theorem ic_code (tot : Int) (s : Ip) : ((codeE tot s).2.err ≠ 0 ∧ (icE tot s).2 = (codeE tot s).2) ∨ (codeE tot s = cntE 2 s ∧ (icE tot s).2 = (cntE 2 s).2) := by
  unfold codeE icE
  by_cases h0 : 1048576 < tot + (cntE 2 s).1
  · rw [if_pos h0, if_pos h0]
    exact .inl ⟨failE_err (by decide), rfl⟩
  · rw [if_neg h0, if_neg h0]
    exact .inr ⟨rfl, rfl⟩

theorem bkT_gI {regs n tot : Int} {s : Ip} : bkT (gI regs) regs n tot s = (blkT regs n tot s).2 := by
  unfold bkT blkT blkI
  rw [cdE_gI]
  rcases ic_code tot s with ⟨h1, h2⟩ | ⟨h1, h2⟩
  · rw [h2, insE_err h1, insE_err h1]
  · rw [h1, h2]

theorem bkT_gM {regs slots n tot : Int} {s : Ip} : bkT (gM regs slots) regs n tot s = (mblkT regs slots n tot s).2 := by
  unfold bkT mblkT mblkI
  rw [cdE_gM]
  rcases ic_code tot s with ⟨h1, h2⟩ | ⟨h1, h2⟩
  · rw [h2, miE_err h1, miE_err h1]
  · rw [h1, h2]

theorem blk_over {regs n tot : Int} {s : Ip} (h : (codeE tot s).2.err ≠ 0) : (blkT regs n tot s).2.err ≠ 0 := by
  unfold blkT blkI
  rw [insE_err h, termE_err h]
  exact h

theorem mblk_over {regs slots n tot : Int} {s : Ip} (h : (codeE tot s).2.err ≠ 0) : (mblkT regs slots n tot s).2.err ≠ 0 := by
  unfold mblkT mblkI
  rw [miE_err h, termE_err h]
  exact h

theorem bksT_gI {regs n : Int} : ∀ (m : Nat) (tot : Int) (s : Ip), bksT (gI regs) regs n m tot s = (blksE regs n m tot s).2
  | 0, _, _ => rfl
  | m + 1, tot, s => by
    by_cases h0 : s.err ≠ 0
    · rw [bksT_err h0, blksE_err h0]
    · have e1 : bksT (gI regs) regs n (m + 1) tot s = bksT (gI regs) regs n m (tot + (cntE 2 s).1) (bkT (gI regs) regs n tot s) := if_neg h0
      have e2' : blksE regs n (m + 1) tot s = (⟨(blkI regs tot s).1, (blkT regs n tot s).1⟩ :: (blksE regs n m (tot + blkK tot s) (blkT regs n tot s).2).1, (blksE regs n m (tot + blkK tot s) (blkT regs n tot s).2).2) := if_neg h0
      have e2 : (blksE regs n (m + 1) tot s).2 = (blksE regs n m (tot + blkK tot s) (blkT regs n tot s).2).2 := by rw [e2']
      rw [e1, e2, bkT_gI]
      rcases ic_code tot s with ⟨h1, h2⟩ | ⟨h1, h2⟩
      · rw [bksT_err (blk_over h1), blksE_err (blk_over h1)]
      · rw [bksT_gI m _ _]
        unfold blkK
        rw [h1]

theorem bksI_gI {regs n : Int} : ∀ (m : Nat) (tot : Int) (s : Ip), bksI (gI regs) regs n m tot s = cI regs n m tot s
  | 0, _, _ => rfl
  | m + 1, tot, s => by
    unfold bksI cI
    rw [bkT_gI, bksI_gI m _ _]

theorem bksT_gM {regs slots n : Int} : ∀ (m : Nat) (tot : Int) (s : Ip), bksT (gM regs slots) regs n m tot s = (mblksE regs slots n m tot s).2
  | 0, _, _ => rfl
  | m + 1, tot, s => by
    by_cases h0 : s.err ≠ 0
    · rw [bksT_err h0, mblksE_err h0]
    · have e1 : bksT (gM regs slots) regs n (m + 1) tot s = bksT (gM regs slots) regs n m (tot + (cntE 2 s).1) (bkT (gM regs slots) regs n tot s) := if_neg h0
      have e2' : mblksE regs slots n (m + 1) tot s = (⟨(mblkI regs slots tot s).1, (mblkT regs slots n tot s).1⟩ :: (mblksE regs slots n m (tot + blkK tot s) (mblkT regs slots n tot s).2).1, (mblksE regs slots n m (tot + blkK tot s) (mblkT regs slots n tot s).2).2) := if_neg h0
      have e2 : (mblksE regs slots n (m + 1) tot s).2 = (mblksE regs slots n m (tot + blkK tot s) (mblkT regs slots n tot s).2).2 := by rw [e2']
      rw [e1, e2, bkT_gM]
      rcases ic_code tot s with ⟨h1, h2⟩ | ⟨h1, h2⟩
      · rw [bksT_err (mblk_over h1), mblksE_err (mblk_over h1)]
      · rw [bksT_gM m _ _]
        unfold blkK
        rw [h1]

theorem bksI_gM {regs slots n : Int} : ∀ (m : Nat) (tot : Int) (s : Ip), bksI (gM regs slots) regs n m tot s = cM regs slots n m tot s
  | 0, _, _ => rfl
  | m + 1, tot, s => by
    unfold bksI cM
    rw [bkT_gM, bksI_gM m _ _]

/-- The blocks of a function, whose number may be 0. -/
def bkZ (s : Ip) : Ip := if (cntE 3 s).1 = 0 then failE 14 (cntE 3 s).2 else (cntE 3 s).2

theorem fB_bks {s : Ip} : (fB s).2 = bksT (gI (fR' s).1) (fR' s).1 (fcB s) (fcB s).toNat 0 (bkZ (fC s)) ∧ fcI s = bksI (gI (fR' s).1) (fR' s).1 (fcB s) (fcB s).toNat 0 (bkZ (fC s)) := by
  rw [bksT_gI, bksI_gI]
  unfold fB fN nblkE bkZ fcI fcB
  by_cases h0 : (cntE 3 (fC s)).1 = 0
  · rw [if_pos h0, if_pos h0, h0]
    exact ⟨rfl, rfl⟩
  · rw [if_neg h0, if_neg h0]
    exact ⟨rfl, rfl⟩

theorem gB_bks {s : Ip} : (gB s).2 = bksT (gM (fR' s).1 (gS s).1) (fR' s).1 (gcB s) (gcB s).toNat 0 (bkZ (gC s)) ∧ gcI s = bksI (gM (fR' s).1 (gS s).1) (fR' s).1 (gcB s) (gcB s).toNat 0 (bkZ (gC s)) := by
  rw [bksT_gM, bksI_gM]
  unfold gB gN nblkE bkZ gcI gcB
  by_cases h0 : (cntE 3 (gC s)).1 = 0
  · rw [if_pos h0, if_pos h0, h0]
    exact ⟨rfl, rfl⟩
  · rw [if_neg h0, if_neg h0]
    exact ⟨rfl, rfl⟩

/-- A pair, as the program reads it behind the register v and the location l. -/
def pgV (s : Ip) : Int × Ip := numE 2097153 6 s

def pgL (s : Ip) : Int × Ip := numE 2097153 6 (pgV s).2

def pgl (l : Int) (s : Ip) : Int := (if 0 < (pgV s).1 then -1 else l) + (1 + (pgL s).1)

def pg1 (vr v : Int) (s : Ip) : Ip := if vr ≤ v + (pgV s).1 then failE 9 (pgL s).2 else (pgL s).2

def pgT (vr r n v l : Int) (s : Ip) : Ip := if locS (pgl l s) r n = false then failE 10 (pg1 vr v s) else pg1 vr v s

def pgsT (vr r n : Int) : Nat → Int → Int → Ip → Ip
  | 0, _, _, s => s
  | k + 1, v, l, s => if s.err ≠ 0 then s else pgsT vr r n k (v + (pgV s).1) (pgl l s) (pgT vr r n v l s)

theorem pgsT_err {vr r n v l : Int} {k : Nat} {s : Ip} (h : s.err ≠ 0) : pgsT vr r n k v l s = s := by
  cases k with
  | zero => rfl
  | succ k => exact if_pos h

theorem pgV_rng {s : Ip} : 0 ≤ (pgV s).1 ∧ (pgV s).1 ≤ 2097152 := by
  unfold pgV numE
  split
  · exact ⟨Int.le_refl _, by show (0 : Int) ≤ 2097152; decide⟩
  · split
    · exact ⟨Int.le_refl _, by show (0 : Int) ≤ 2097152; decide⟩
    · split
      · exact ⟨Int.le_refl _, by show (0 : Int) ≤ 2097152; decide⟩
      · dsimp only; omega

theorem pgL_rng {s : Ip} : 0 ≤ (pgL s).1 ∧ (pgL s).1 ≤ 2097152 := pgV_rng (s := (pgV s).2)

theorem fail_ne21 {e : Int} {s : Ip} (h : s.err ≠ 0) : (failE e s).err ≠ 0 := by rw [failE_keep h]; exact h

theorem pgT_err {vr r n v l : Int} {s : Ip} (h : (pgL s).2.err ≠ 0) : (pgT vr r n v l s).err ≠ 0 := by
  have h1 : (pg1 vr v s).err ≠ 0 := by
    unfold pg1
    split
    · exact fail_ne21 h
    · exact h
  unfold pgT
  split
  · exact fail_ne21 h1
  · exact h1

theorem pgT_reg {vr r n v l : Int} {s : Ip} (h : vr ≤ v + (pgV s).1) : (pgT vr r n v l s).err ≠ 0 := by
  have h1 : (pg1 vr v s).err ≠ 0 := by
    unfold pg1
    rw [if_pos h]
    exact failE_err (by decide)
  unfold pgT
  split
  · exact fail_ne21 h1
  · exact h1

theorem numE_bad21 {bd why : Int} {t : Ip} (h0 : t.err = 0) (h2 : (getS t.rest).2.2 ≠ 0) : numE bd why t = (0, ⟨[], ((getS t.rest).2.2 : Int)⟩) := (if_neg fun hh => hh h0).trans (if_pos h2)

theorem numE_good21 {bd why : Int} {t : Ip} (h0 : t.err = 0) (h2 : (getS t.rest).2.2 = 0) : numE bd why t = if bd ≤ ((getS t.rest).1 : Int) then (0, ⟨[], why⟩) else (((getS t.rest).1 : Int), ⟨t.rest.drop (getS t.rest).2.1, 0⟩) := (if_neg fun hh => hh h0).trans (if_neg fun hh => hh h2)

theorem loc_big21 {l r n : Int} (hr : r ≤ 1048576) (hn : n ≤ 1048576) (h : 2097152 ≤ l) : locS l r n = false := by
  unfold locS
  rw [if_neg (by omega)]
  split
  · exact decide_eq_false (by omega)
  · exact decide_eq_false (by omega)

/-- Where the program stands: behind another pair, or ahead of the first one. -/
def PosV (vr : Int) (f : Bool) (q : Pr) (v l : Int) : Prop := (f = true ∧ q = (0, 0) ∧ v = 0 ∧ l = -1) ∨ (f = false ∧ v = q.1 ∧ l = q.2 ∧ 0 ≤ v ∧ v < vr ∧ 0 ≤ l)

theorem PosV.q1 {vr v l : Int} {f : Bool} {q : Pr} (h : PosV vr f q v l) : v = q.1 ∧ 0 ≤ v ∧ -1 ≤ l := by
  rcases h with ⟨_, rfl, rfl, rfl⟩ | ⟨_, h1, _, h3, _, h4⟩
  · exact ⟨rfl, by decide, by decide⟩
  · exact ⟨h1, h3, by omega⟩

theorem pg_step {vr r n v l : Int} {f : Bool} {q : Pr} {s : Ip} (hq : PosV vr f q v l) (hv : vr ≤ 1048576) (hr : r ≤ 1048576) (hn : n ≤ 1048576) (h0 : s.err = 0) :
    Al (pgT vr r n v l s) (pairE vr r n f q s).2 ∧ ((pgT vr r n v l s).err = 0 → PosV vr false (pairE vr r n f q s).1 (v + (pgV s).1) (pgl l s)) := by
  obtain ⟨hvq, hv0, hl0⟩ := hq.q1
  by_cases g1 : (getS s.rest).2.2 ≠ 0
  · have e1 : pdvE vr q s = (0, ⟨[], ((getS s.rest).2.2 : Int)⟩) := numE_bad21 h0 g1
    have e2 : pgV s = (0, ⟨[], ((getS s.rest).2.2 : Int)⟩) := numE_bad21 h0 g1
    have hz : ((getS s.rest).2.2 : Int) ≠ 0 := by omega
    have e3 : pdlE vr q s = (0, ⟨[], ((getS s.rest).2.2 : Int)⟩) := by unfold pdlE; rw [e1]; exact numE_err hz
    have e4 : pgL s = (0, ⟨[], ((getS s.rest).2.2 : Int)⟩) := by unfold pgL; rw [e2]; exact numE_err hz
    have hb : (pgT vr r n v l s).err ≠ 0 := pgT_err (by rw [e4]; exact hz)
    refine ⟨.inr ⟨hb, ?_⟩, fun h => absurd h hb⟩
    unfold pairE
    rw [e3]
    dsimp only
    rw [if_neg (fun h => hz h.1)]
    exact hz
  have g1' : (getS s.rest).2.2 = 0 := by omega
  obtain ⟨a, ha⟩ : ∃ a : Int, a = ((getS s.rest).1 : Int) := ⟨_, rfl⟩
  obtain ⟨s1, hs1⟩ : ∃ s1 : Ip, s1 = ⟨s.rest.drop (getS s.rest).2.1, 0⟩ := ⟨_, rfl⟩
  have e1 : pdvE vr q s = if vr - q.1 ≤ a then (0, ⟨[], 9⟩) else (a, s1) := by rw [ha, hs1]; exact numE_good21 h0 g1'
  have e2 : pgV s = if 2097153 ≤ a then (0, ⟨[], 6⟩) else (a, s1) := by rw [ha, hs1]; exact numE_good21 h0 g1'
  have ha0 : 0 ≤ a := by omega
  have hs0 : s1.err = 0 := by rw [hs1]
  clear ha hs1
  by_cases g2 : vr - q.1 ≤ a
  · rw [if_pos g2] at e1
    have e3 : pdlE vr q s = (0, ⟨[], 9⟩) := by unfold pdlE; rw [e1]; exact numE_err (by show (9 : Int) ≠ 0; decide)
    have hb : (pgT vr r n v l s).err ≠ 0 := by
      by_cases g3 : 2097153 ≤ a
      · rw [if_pos g3] at e2
        have e4 : pgL s = (0, ⟨[], 6⟩) := by unfold pgL; rw [e2]; exact numE_err (by show (6 : Int) ≠ 0; decide)
        exact pgT_err (by rw [e4]; show (6 : Int) ≠ 0; decide)
      · rw [if_neg g3] at e2
        exact pgT_reg (by rw [e2]; dsimp only; omega)
    refine ⟨.inr ⟨hb, ?_⟩, fun h => absurd h hb⟩
    unfold pairE
    rw [e3]
    dsimp only
    rw [if_neg (fun h => by have := h.1; revert this; decide)]
    decide
  rw [if_neg g2] at e1
  rw [if_neg (by omega)] at e2
  have e5 : pdlE vr q s = numE 4611686018427387904 10 s1 := by unfold pdlE; rw [e1]
  have e6 : pgL s = numE 2097153 6 s1 := by unfold pgL; rw [e2]
  by_cases g3 : (getS s1.rest).2.2 ≠ 0
  · have hz : ((getS s1.rest).2.2 : Int) ≠ 0 := by omega
    rw [numE_bad21 hs0 g3] at e5 e6
    have hb : (pgT vr r n v l s).err ≠ 0 := pgT_err (by rw [e6]; exact hz)
    refine ⟨.inr ⟨hb, ?_⟩, fun h => absurd h hb⟩
    unfold pairE
    rw [e5]
    dsimp only
    rw [if_neg (fun h => hz h.1)]
    exact hz
  have g3' : (getS s1.rest).2.2 = 0 := by omega
  rw [numE_good21 hs0 g3'] at e5 e6
  obtain ⟨b, hb⟩ : ∃ b : Int, b = ((getS s1.rest).1 : Int) := ⟨_, rfl⟩
  obtain ⟨s2, hs2⟩ : ∃ s2 : Ip, s2 = ⟨s1.rest.drop (getS s1.rest).2.1, 0⟩ := ⟨_, rfl⟩
  have hb0 : 0 ≤ b := by omega
  have hs20 : s2.err = 0 := by rw [hs2]
  rw [← hb, ← hs2] at e5 e6
  clear hb hs2 g3 g3'
  by_cases g4 : 2097153 ≤ b
  · rw [if_pos g4] at e6
    have hbd : (pgT vr r n v l s).err ≠ 0 := pgT_err (by rw [e6]; show (6 : Int) ≠ 0; decide)
    refine ⟨.inr ⟨hbd, ?_⟩, fun h => absurd h hbd⟩
    by_cases g5 : 4611686018427387904 ≤ b
    · rw [if_pos g5] at e5
      unfold pairE
      rw [e5]
      dsimp only
      rw [if_neg (fun h => by have := h.1; revert this; decide)]
      decide
    · rw [if_neg g5] at e5
      have hl : plE vr f q s = if f = false ∧ a = 0 then q.2 + 1 + b else b := by unfold plE; rw [e1, e5]
      have hbig : 2097152 ≤ plE vr f q s := by
        rw [hl]
        rcases hq with ⟨hf, _⟩ | ⟨hf, _, h9, _, _, h8⟩
        · rw [if_neg (fun h => by rw [hf] at h; cases h.1)]; omega
        · split <;> omega
      unfold pairE
      rw [e5]
      dsimp only
      rw [if_pos ⟨hs20, loc_big21 hr hn hbig⟩]
      exact failE_err (by decide)
  rw [if_neg g4] at e6
  rw [if_neg (by omega)] at e5
  have hl : plE vr f q s = if f = false ∧ a = 0 then q.2 + 1 + b else b := by unfold plE; rw [e1, e5]
  have hgl : pgl l s = plE vr f q s := by
    unfold pgl
    rw [hl, e2, e6]
    dsimp only
    rcases hq with ⟨hf, _, _, h9⟩ | ⟨hf, _, h9, _, _, h8⟩
    · rw [if_neg (show ¬ (f = false ∧ a = 0) from fun h => by rw [hf] at h; cases h.1)]
      split <;> omega
    · by_cases h7 : a = 0
      · rw [if_pos (show f = false ∧ a = 0 from ⟨hf, h7⟩), if_neg (show ¬ 0 < a by omega)]; omega
      · rw [if_neg (show ¬ (f = false ∧ a = 0) from fun h => h7 h.2), if_pos (show 0 < a by omega)]; omega
  have h1 : pg1 vr v s = s2 := by
    unfold pg1
    rw [e2, e6]
    dsimp only
    rw [if_neg (by omega)]
  have e8 : pgT vr r n v l s = (pairE vr r n f q s).2 := by
    unfold pgT pairE
    rw [h1, e5, hgl]
    dsimp only
    by_cases h7 : locS (plE vr f q s) r n = false
    · rw [if_pos h7, if_pos ⟨hs20, h7⟩]
    · rw [if_neg h7, if_neg (fun h => h7 h.2)]
  refine ⟨.inl e8, fun h => ?_⟩
  right
  have hp1 : (pairE vr r n f q s).1 = (q.1 + a, plE vr f q s) := by unfold pairE; rw [e1]
  rw [hp1, e2]
  dsimp only
  have hlS : 0 ≤ plE vr f q s := by
    rw [hl]
    rcases hq with ⟨hf, _⟩ | ⟨hf, _, h9, _, _, h8⟩
    · rw [if_neg (fun h => by rw [hf] at h; cases h.1)]; omega
    · split <;> omega
  exact ⟨rfl, by omega, hgl, by omega, by omega, by omega⟩

theorem pgs_prs {vr r n : Int} (hv : vr ≤ 1048576) (hr : r ≤ 1048576) (hn : n ≤ 1048576) : ∀ (k : Nat) (f : Bool) (q : Pr) (v l : Int) (s : Ip), PosV vr f q v l ∨ s.err ≠ 0 → Al (pgsT vr r n k v l s) (prsE vr r n k f q s).2
  | 0, _, _, _, _, s, _ => .inl rfl
  | k + 1, f, q, v, l, s, hq => by
    by_cases h0 : s.err ≠ 0
    · rw [pgsT_err h0, prsE_err h0]
      exact .inl rfl
    · have h0' : s.err = 0 := by omega
      have e1 : pgsT vr r n (k + 1) v l s = pgsT vr r n k (v + (pgV s).1) (pgl l s) (pgT vr r n v l s) := if_neg h0
      have e2' : prsE vr r n (k + 1) f q s = ((pairE vr r n f q s).1 :: (prsE vr r n k false (pairE vr r n f q s).1 (pairE vr r n f q s).2).1, (prsE vr r n k false (pairE vr r n f q s).1 (pairE vr r n f q s).2).2) := if_neg h0
      have e2 : (prsE vr r n (k + 1) f q s).2 = (prsE vr r n k false (pairE vr r n f q s).1 (pairE vr r n f q s).2).2 := by rw [e2']
      rw [e1, e2]
      obtain ⟨a1, a2⟩ := pg_step (hq.resolve_right h0) hv hr hn h0'
      by_cases h9 : (pgT vr r n v l s).err = 0
      · have e3 := a1.eq h9
        have := pgs_prs hv hr hn k false (pairE vr r n f q s).1 (v + (pgV s).1) (pgl l s) (pgT vr r n v l s) (.inl (a2 h9))
        rw [e3] at this ⊢
        exact this
      · rw [pgsT_err h9, prsE_err (a1.bad h9)]
        exact .inr ⟨h9, a1.bad h9⟩

/-- An invariant. -/
def pvT (vr r n tot : Int) (s : Ip) : Ip := pgsT vr r n (cntE 2 s).1.toNat 0 (-1) (icE tot s).2

theorem pv_iv {vr r n tot : Int} {s : Ip} (hv : vr ≤ 1048576) (hr : r ≤ 1048576) (hn : n ≤ 1048576) : Al (pvT vr r n tot s) (ivE vr r n tot s).2 :=
  pgs_prs hv hr hn (cntE 2 s).1.toNat true (0, 0) 0 (-1) (icE tot s).2 (.inl (.inl ⟨rfl, rfl, rfl, rfl⟩))

/-- One more invariant. -/
theorem cP_step21 {vr r n tot : Int} {m : Nat} {s : Ip} (hv : vr ≤ 1048576) (hr : r ≤ 1048576) (hn : n ≤ 1048576) (h : s.err = 0) : cP vr r n (m + 1) tot s = (cntE 2 s).1 + cP vr r n m (tot + (cntE 2 s).1) (pvT vr r n tot s) := by
  have e : cP vr r n (m + 1) tot s = (cntE 2 s).1 + cP vr r n m (tot + (cntE 2 s).1) (ivE vr r n tot s).2 := if_neg fun hh => hh h
  rw [e, cP_al (pv_iv hv hr hn)]

theorem cP_nn {vr r n : Int} : ∀ (m : Nat) (tot : Int) (s : Ip), 0 ≤ cP vr r n m tot s
  | 0, _, _ => Int.le_refl _
  | m + 1, tot, s => by
    unfold cP
    split
    · exact Int.le_refl _
    · have h1 := (cntE_rng (k := 2) (s := s)).1
      have h2 := cP_nn (vr := vr) (r := r) (n := n) m (tot + (cntE 2 s).1) (ivE vr r n tot s).2
      omega

end Go.Proofs.YtkapmfopfddmbaaGreat
