/-
  What a small and valid certificate is: numbers, sets, how far its check goes.
-/
import Derived.Test.YtcoehkphdfejjaaCkVal
import Derived.Test.YtcoehkphdfejjaaCkSim
import Derived.Test.YtcoehkphdfejjaaPk6
namespace Go.Proofs.Ytcoehkphdfejjaa
open Go.RowKit
set_option linter.unusedVariables false

def rg60 : List Int := (List.range 60).map fun n : Nat => (n : Int)

def lc120 : List Int := (List.range 120).map fun n : Nat => (n : Int)

theorem room120 : rg60.length * lc120.length ≤ 400000 := by decide

theorem rg60_in {N : Nat} (hN : N ≤ 60) (z : Int) (h0 : 0 ≤ z) (h1 : z < (N : Int)) : z ∈ rg60 := List.mem_map.2 ⟨z.toNat, List.mem_range.2 (by omega), by omega⟩

theorem lc120_in {n m : Nat} (hn : n ≤ 60) (hm : m ≤ 60) (z : Int) (h : LocOk n m z) : z ∈ lc120 :=
  List.mem_map.2 ⟨z.toNat, List.mem_range.2 (by obtain ⟨h0, ⟨_, h1⟩ | ⟨_, h1⟩⟩ := h <;> omega), by obtain ⟨h0, _⟩ := h; omega⟩

theorem vlE_srt {v r s : Int} : ∀ {l : List Pr} {q : Option Pr}, vlE v r s q l = 0 → Srt l ∧ ∀ x, q = some x → ∀ p ∈ l, ltP x p = true
  | [], _, _ => ⟨List.Pairwise.nil, fun x _ p hp => by cases hp⟩
  | x :: l, q, h => by
    rw [vlE] at h
    split at h
    · next h1 => exact absurd h h1
    · next h1 =>
      have h1 : prE v r s q x = 0 := by omega
      obtain ⟨g1, g2⟩ := vlE_srt h
      have hq : ∀ y, q = some y → ltP y x = true := fun y e => by
        subst e
        unfold prE at h1
        split at h1
        · omega
        · split at h1
          · omega
          · dsimp only at h1
            split at h1
            · assumption
            · omega
      refine ⟨List.Pairwise.cons (fun p hp => g2 x rfl p hp) g1, fun y e p hp => ?_⟩
      rcases List.mem_cons.1 hp with rfl | hp
      · exact hq y e
      · exact ltP_trans (hq y e) (g2 x rfl p hp)

theorem vlsE_mem {v r s : Int} : ∀ {w : List (List Pr)}, vlsE v r s w = 0 → ∀ l ∈ w, vlE v r s none l = 0
  | [], _, l, hl => by cases hl
  | x :: w, hw, l, hl => by
    rw [vlsE] at hw
    split at hw
    · rename_i h9; exact absurd hw h9
    · rename_i h9
      rcases List.mem_cons.1 hl with rfl | hl
      · omega
      · exact vlsE_mem hw l hl

/-- A small and valid certificate. -/
structure FitC (c : Ct) (N n m : Nat) : Prop where
  sr : c.sr = N
  tr : c.tr = n
  ts : c.ts = m
  hN : N ≤ 60
  hn : n ≤ 60
  hm : m ≤ 60
  sa : 0 ≤ c.sa ∧ c.sa ≤ N ∧ c.sa ≤ m
  eq : c.sa = c.ta
  fs : OkF N c.bs
  ft : OkM n m c.ms
  len : c.bs.length = c.ms.length
  ilen : c.inv.length = c.bs.length
  b40 : c.bs.length ≤ 40
  code : codeN c.bs ≤ 300
  mcode : mcodeN c.ms ≤ 1300
  inv : ∀ l ∈ c.inv, Srt l ∧ l.length ≤ 400 ∧ (∀ p ∈ l, (0 ≤ p.1 ∧ p.1 < (N : Int)) ∧ locS p.2 n m = true) ∧ PIn rg60 lc120 l
  mv : ∀ b ∈ c.ms, mvs b.code ≤ 64

theorem fitC_of {c : Ct} (h : validC c = 0) (hs : SmC c) (hw : c.Wf) : ∃ N n m : Nat, FitC c N n m := by
  obtain ⟨⟨s1, s2, s3⟩, ⟨s4, s5, s6, s7⟩, s8, s9⟩ := hs
  unfold validC at h
  split at h
  · rename_i h4; exact absurd h h4
  · rename_i h4
    split at h
    · rename_i h5; exact absurd h h5
    · rename_i h5
      split at h
      · cases h
      · rename_i h6
        have h4 : eF c.sa c.sr c.bs = 0 := by omega
        have h5 : eMF c.ta c.tr c.ts c.ms = 0 := by omega
        obtain ⟨N, e1, a1, a2, hF⟩ := eF_ok h4 hw.bs
        obtain ⟨n, m, e2, e3, a3, a4, hM⟩ := eMF_ok h5 hw.ms
        unfold validE at h
        split at h
        · cases h
        · rename_i h7
          refine ⟨N, n, m, e1, e2, e3, by omega, by omega, by omega, ⟨a1, a2, by omega⟩, by omega, hF, hM, by omega, by omega, s1, s3, s7, fun l hl => ?_, fun b hb => ?_⟩
          · have h8 := vlsE_mem h l hl
            have h9 := vlE_range h8
            rw [e1, e2, e3] at h9
            refine ⟨(vlE_srt h8).1, s9 l hl, h9, fun p hp => ⟨rg60_in (by omega) _ (h9 p hp).1.1 (h9 p hp).1.2, lc120_in (n := n) (m := m) (by omega) (by omega) _ (locS_ok (h9 p hp).2)⟩⟩
          · have hz : eMBs c.tr c.ts c.ms.length c.ms = 0 := by
              unfold eMF at h5
              split at h5
              · exact h5
              · rename_i h8; exact absurd h5 h8
            have key : ∀ (l : List MBlk) (k : Int), eMBs c.tr c.ts k l = 0 → ∀ b ∈ l, mvs b.code ≤ 64 := by
              intro l k
              induction l with
              | nil => intro _ b hb; cases hb
              | cons x l ih =>
                intro hl b hb
                unfold eMBs at hl
                split at hl
                · rename_i hx
                  rcases List.mem_cons.1 hb with rfl | hb
                  · unfold eMB at hx
                    split at hx
                    · rename_i h9; exact ((eCd_ok c.tr c.ts b.code 0 (by omega)).1 h9).2.2
                    · rename_i h9; exact absurd hx h9
                  · exact ih hl b hb
                · rename_i hx; exact absurd hl hx
            exact key _ _ hz b hb

section
variable {c : Ct} {N n m i : Nat}

theorem FitC.pos (h : FitC c N n m) : 0 < c.bs.length := h.fs.ne

theorem FitC.imem (h : FitC c N n m) (hi : i < c.bs.length) : c.i i ∈ c.inv := Ct.i_mem (by rw [h.ilen]; exact hi)

theorem FitC.blk (h : FitC c N n m) (hi : i < c.bs.length) : (blkAt c.bs i).code.length ≤ 300 := by
  rw [blkAt_lt hi]
  exact Nat.le_trans (codeN_mem c.bs i hi) h.code

theorem FitC.mblk (h : FitC c N n m) (hi : i < c.bs.length) : (mblkAt c.ms i).code.length ≤ 1300 := by
  have hi' : i < c.ms.length := by rw [← h.len]; exact hi
  rw [mblkAt_lt hi']
  exact Nat.le_trans (mcodeN_mem c.ms i hi') h.mcode

theorem FitC.ops (h : FitC c N n m) (hi : i < c.bs.length) : ∀ rows, Chn (blkAt c.bs i).code (mblkAt c.ms i).code 0 0 rows → ∀ e ∈ blkOps (blkAt c.bs i).code (mblkAt c.ms i).code rows (blkAt c.bs i).term (mblkAt c.ms i).term, e.In rg60 lc120 := fun rows hch =>
  blk_in (N := N) (nR := n) (nS := m) (h.fs.ins _ (blkAt_mem hi)) (h.ft.ins _ (mblkAt_mem (by rw [← h.len]; exact hi))) (rg60_in h.hN) (lc120_in h.hn h.hm) _ _ hch

/-- What the check of a block comes to. -/
theorem FitC.small (h : FitC c N n m) (hi : i < c.bs.length) : Srt (ckB c i).out ∧ PIn rg60 lc120 (ckB c i).out ∧ (ckB c i).out.length ≤ 7200 ∧ (ckB c i).largest ≤ 400000 ∧ (ckB c i).steps ≤ 2000000000 := by
  obtain ⟨g1, g2, g3, g4⟩ := h.inv _ (h.imem hi)
  obtain ⟨k1, k2, k3, k4, k5⟩ := checkE_small (ok := tmP (blkAt c.bs i).term (mblkAt c.ms i).term) (most := 1048576) g1 g4 room120 (by omega) (h.ops hi)
  have hb := h.blk hi
  have hm := h.mblk hi
  have k6 : (3 * (mblkAt c.ms i).code.length + (blkAt c.bs i).code.length + 1) * 400001 ≤ 4201 * 400001 := Nat.mul_le_mul_right _ (by omega)
  have k7 : (ckB c i).out.length ≤ rg60.length * lc120.length := k2.len k1
  exact ⟨k1, k2, by have : rg60.length * lc120.length = 7200 := by decide
                    omega, k4, Nat.le_trans k5 (by omega)⟩

theorem FitC.succ (h : FitC c N n m) (hi : i < c.bs.length) {t : Int} (ht : t ∈ succs (blkAt c.bs i).term) : 0 ≤ t ∧ t < (c.bs.length : Int) := by
  have htm := h.fs.tm _ (blkAt_mem hi)
  unfold succs at ht
  rcases htm with ⟨k1, k2, k3⟩ | ⟨k1, k2, k3, k4, k5, k6, k7⟩ | ⟨k1, _⟩
  · rw [if_pos k1] at ht
    simp at ht
    subst ht
    exact ⟨k2, k3⟩
  · rw [if_neg (by omega), if_pos k1] at ht
    simp at ht
    rcases ht with rfl | rfl
    · exact ⟨k4, k5⟩
    · exact ⟨k6, k7⟩
  · rw [if_neg (by omega), if_neg (by omega)] at ht
    cases ht

theorem succs_len (t : Tm) : (succs t).length ≤ 2 := by
  unfold succs
  split
  · simp
  · split <;> simp

theorem edN_le (bs : List Blk) : edN bs ≤ 2 * bs.length := by
  unfold edN
  induction bs with
  | nil => simp
  | cons x bs ih =>
    have := succs_len x.term
    simp only [List.map_cons, List.sum_cons, List.length_cons]
    omega

/-- A report under way is small. -/
structure RpSm (r : Rp) : Prop where
  blocks : r.blocks ≤ 1000
  edges : r.edges ≤ 1000
  largest : r.largest ≤ 400000
  steps : r.steps ≤ 100000000000

end

end Go.Proofs.Ytcoehkphdfejjaa
