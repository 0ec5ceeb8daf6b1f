/-
  What decoding costs, as functions on data: the cost of a valid certificate's encoding; a header that announces too many blocks.
-/
import Derived.Test.YtkapmfopfddmbaaGreatDcMath
namespace Go.Proofs.YtkapmfopfddmbaaGreat
open Go.RowKit
set_option linter.unusedVariables false

theorem cI_ok {regs n : Int} : ∀ (m : Nat) (tot : Int) (s : Ip), Byt s.rest → (blksE regs n m tot s).2.err = 0 → cI regs n m tot s = (codeN (blksE regs n m tot s).1 : Int)
  | 0, _, _, _, _ => rfl
  | m + 1, tot, s, hb, h => by
    have h0 : s.err = 0 := by
      by_cases h9 : s.err = 0
      · exact h9
      · rw [blksE_err h9] at h; exact h
    have e : blksE regs n (m + 1) tot s = (⟨(blkI regs tot s).1, (blkT regs n tot s).1⟩ :: (blksE regs n m (tot + blkK tot s) (blkT regs n tot s).2).1, (blksE regs n m (tot + blkK tot s) (blkT regs n tot s).2).2) := if_neg fun hh => hh h0
    rw [e] at h ⊢
    dsimp only at h ⊢
    have ht : (blkT regs n tot s).2.err = 0 := by
      by_cases h9 : (blkT regs n tot s).2.err = 0
      · exact h9
      · rw [blksE_err h9] at h; exact h
    obtain ⟨_, t2, t3, t4, t5, t6⟩ := blk_ok21 hb ht
    have ek : blkK tot s = (cntE 2 s).1 := by unfold blkK; rw [t2]
    rw [ek] at h ⊢
    have ih := cI_ok m (tot + (cntE 2 s).1) (blkT regs n tot s).2 t6 h
    unfold cI
    rw [if_neg (fun hh => hh h0), ih, codeN_cons]
    dsimp only
    omega

theorem mcodeN_cons21 (b : MBlk) (bs : List MBlk) : mcodeN (b :: bs) = b.code.length + mcodeN bs := by simp [mcodeN]

theorem cM_ok {regs slots n : Int} : ∀ (m : Nat) (tot : Int) (s : Ip), Byt s.rest → (mblksE regs slots n m tot s).2.err = 0 → cM regs slots n m tot s = (mcodeN (mblksE regs slots n m tot s).1 : Int)
  | 0, _, _, _, _ => rfl
  | m + 1, tot, s, hb, h => by
    have h0 : s.err = 0 := by
      by_cases h9 : s.err = 0
      · exact h9
      · rw [mblksE_err h9] at h; exact h
    have e : mblksE regs slots n (m + 1) tot s = (⟨(mblkI regs slots tot s).1, (mblkT regs slots n tot s).1⟩ :: (mblksE regs slots n m (tot + blkK tot s) (mblkT regs slots n tot s).2).1, (mblksE regs slots n m (tot + blkK tot s) (mblkT regs slots n tot s).2).2) := if_neg fun hh => hh h0
    rw [e] at h ⊢
    dsimp only at h ⊢
    have ht : (mblkT regs slots n tot s).2.err = 0 := by
      by_cases h9 : (mblkT regs slots n tot s).2.err = 0
      · exact h9
      · rw [mblksE_err h9] at h; exact h
    obtain ⟨_, t2, t3, t4, t5, t6⟩ := mblk_ok21 hb ht
    have ek : blkK tot s = (cntE 2 s).1 := by unfold blkK; rw [t2]
    rw [ek] at h ⊢
    have ih := cM_ok m (tot + (cntE 2 s).1) (mblkT regs slots n tot s).2 t6 h
    unfold cM
    rw [if_neg (fun hh => hh h0), ih, mcodeN_cons21]
    dsimp only
    omega

theorem totP_cons21 (l : List Pr) (w : List (List Pr)) : totP (l :: w) = l.length + totP w := by simp [totP]

theorem cP_ok {vr r n : Int} : ∀ (m : Nat) (tot : Int) (s : Ip), Byt s.rest → (ivsE vr r n m tot s).2.err = 0 → cP vr r n m tot s = (totP (ivsE vr r n m tot s).1 : Int)
  | 0, _, _, _, _ => rfl
  | m + 1, tot, s, hb, h => by
    have h0 : s.err = 0 := by
      by_cases h9 : s.err = 0
      · exact h9
      · rw [ivsE_err h9] at h; exact h
    have e : ivsE vr r n (m + 1) tot s = ((ivE vr r n tot s).1 :: (ivsE vr r n m (tot + (icE tot s).1) (ivE vr r n tot s).2).1, (ivsE vr r n m (tot + (icE tot s).1) (ivE vr r n tot s).2).2) := if_neg fun hh => hh h0
    rw [e] at h ⊢
    dsimp only at h ⊢
    have ht : (ivE vr r n tot s).2.err = 0 := by
      by_cases h9 : (ivE vr r n tot s).2.err = 0
      · exact h9
      · rw [ivsE_err h9] at h; exact h
    obtain ⟨_, t3, t4, t5, t6⟩ := iv_ok21 hb ht
    have ek : (icE tot s).1 = (cntE 2 s).1 := rfl
    rw [ek] at h ⊢
    have ih := cP_ok m (tot + (cntE 2 s).1) (ivE vr r n tot s).2 t6 h
    unfold cP
    rw [if_neg (fun hh => hh h0), ih, totP_cons21]
    omega

theorem nblkE_same {s : Ip} (h : (nblkE s).2.err = 0) : nblkE s = cntE 3 s := by
  unfold nblkE at *
  by_cases h0 : (cntE 3 s).1 = 0
  · rw [if_pos h0] at h
    exact absurd h (failE_err (by decide))
  · rw [if_neg h0]

theorem fc_ok {s : Ip} (hb : Byt s.rest) (h : (fB s).2.err = 0) : fcB s = ((fB s).1.length : Int) ∧ fcI s = (codeN (fB s).1 : Int) := by
  have hn : (fN s).2.err = 0 := by
    by_cases h9 : (fN s).2.err = 0
    · exact h9
    · unfold fB at h; rw [blksE_err h9] at h; exact h
  have hc := (fC_suf (s := s)).byt hb
  have e := nblkE_same hn
  obtain ⟨_, n2, _⟩ := nblkE_ok hc hn
  have e' : fN s = cntE 3 (fC s) := e
  have e1 : fcB s = (fN s).1 := by rw [e']; rfl
  have hb2 : Byt (fN s).2.rest := by rw [e']; exact (cntE_suf (k := 3) (s := fC s)).byt hc
  have k1 := blksE_ok (regs := (fR' s).1) (n := (fN s).1) (fN s).1.toNat 0 (fN s).2 hb2 h
  have k2 := cI_ok (regs := (fR' s).1) (n := (fN s).1) (fN s).1.toNat 0 (fN s).2 hb2 h
  have n2' : 1 ≤ (fN s).1 := n2
  have l1 : (fB s).1.length = (fN s).1.toNat := k1.2.1
  refine ⟨by rw [e1, l1]; omega, ?_⟩
  have e3 : fcI s = cI (fR' s).1 (fN s).1 (fN s).1.toNat 0 (fN s).2 := by
    show cI (fR' s).1 (fcB s) (fcB s).toNat 0 (cntE 3 (fC s)).2 = _
    rw [e1, e']
  rw [e3]
  exact k2

theorem gc_ok {s : Ip} (hb : Byt s.rest) (h : (gB s).2.err = 0) : gcB s = ((gB s).1.length : Int) ∧ gcI s = (mcodeN (gB s).1 : Int) := by
  have hn : (gN s).2.err = 0 := by
    by_cases h9 : (gN s).2.err = 0
    · exact h9
    · unfold gB at h; rw [mblksE_err h9] at h; exact h
  have hc := (gC_suf (s := s)).byt hb
  have e := nblkE_same hn
  obtain ⟨_, n2, _⟩ := nblkE_ok hc hn
  have e' : gN s = cntE 3 (gC s) := e
  have e1 : gcB s = (gN s).1 := by rw [e']; rfl
  have hb2 : Byt (gN s).2.rest := by rw [e']; exact (cntE_suf (k := 3) (s := gC s)).byt hc
  have k1 := mblksE_ok (regs := (fR' s).1) (slots := (gS s).1) (n := (gN s).1) (gN s).1.toNat 0 (gN s).2 hb2 h
  have k2 := cM_ok (regs := (fR' s).1) (slots := (gS s).1) (n := (gN s).1) (gN s).1.toNat 0 (gN s).2 hb2 h
  have n2' : 1 ≤ (gN s).1 := n2
  have l1 : (gB s).1.length = (gN s).1.toNat := k1.2.1
  refine ⟨by rw [e1, l1]; omega, ?_⟩
  have e3 : gcI s = cM (fR' s).1 (gS s).1 (gN s).1 (gN s).1.toNat 0 (gN s).2 := by
    show cM (fR' s).1 (gS s).1 (gcB s) (gcB s).toNat 0 (cntE 3 (gC s)).2 = _
    rw [e1, e']
  rw [e3]
  exact k2

theorem secL_ok : ∀ (ids b : List Nat), (splitF ids b).1 = 0 → secL ids b = totalS (splitF ids b).2.1
  | [], _, _ => rfl
  | id :: ids, b, h => by
    by_cases h0 : (oneS id b).1 ≠ 0
    · have e : splitF (id :: ids) b = ((oneS id b).1, [], []) := if_pos h0
      rw [e] at h
      exact absurd h h0
    · have e : splitF (id :: ids) b = ((splitF ids (b.drop ((oneS id b).2.1 + (oneS id b).2.2))).1, ((b.drop (oneS id b).2.1).take (oneS id b).2.2) :: (splitF ids (b.drop ((oneS id b).2.1 + (oneS id b).2.2))).2.1, (splitF ids (b.drop ((oneS id b).2.1 + (oneS id b).2.2))).2.2) := if_neg h0
      rw [e] at h ⊢
      have ih := secL_ok ids (b.drop ((oneS id b).2.1 + (oneS id b).2.2)) h
      have hl := oneS_le id b (by omega)
      unfold secL
      rw [if_neg h0, ih]
      show _ = ((b.drop (oneS id b).2.1).take (oneS id b).2.2).length + totalS _
      rw [List.length_take, List.length_drop]
      omega

theorem secL_pack (ids : List Nat) (xs : List (List Nat)) (h : ids.length = xs.length) (hx : ∀ x ∈ xs, x.length < 18446744073709551616) : secL ids (packS ids xs) = totalS xs := by
  have e := split_pack ids xs h hx
  rw [secL_ok ids (packS ids xs) (by rw [e]), e]

/-- The cost of a valid certificate's encoding. -/
theorem costE_exact {c : Ct} (h : validC c = 0) (hi : CtI c) (hr : CtR c) (hl : CtL c) (hby : Byt (encCt c)) :
    (costE (encCt c)).b = (c.bs.length + c.ms.length : Nat) ∧ (costE (encCt c)).i = (codeN c.bs + mcodeN c.ms : Nat) ∧ (costE (encCt c)).p = (totP c.inv : Nat) ∧ (costE (encCt c)).y + 9 ≤ (encCt c).length ∧ c.ms.length = c.bs.length ∧ c.inv.length = c.bs.length := by
  obtain ⟨v1, v2, v3, v4, v5⟩ := valid_parts h
  have e1 := funcE_put (f := c.f) v1 hi.s []
  have e2 := mfuncE_put (g := c.g) v2 hi.t []
  rw [List.append_nil] at e1 e2
  have v6 : c.bs.length = c.inv.length := by
    unfold validE at v5
    by_cases h9 : (c.inv.length : Int) ≠ (c.bs.length : Int)
    · rw [if_pos h9] at v5; cases v5
    · omega
  have v7 : validE c.inv c.inv.length c.sr c.tr c.ts = 0 := by rw [v6] at v5; exact v5
  have e3 := getE19_put hr.sr hr.tr hr.ts v7 hr.np []
  rw [List.append_nil, ← v6] at e3
  have hbp : ∀ x ∈ parts20 c, Byt x := fun x hx b hb => hby b (by
    show b ∈ 82 :: 67 :: 1 :: packS ids20 (parts20 c)
    exact List.mem_cons_of_mem _ (List.mem_cons_of_mem _ (List.mem_cons_of_mem _ (packS_mem ids20 (parts20 c) rfl x hx b hb))))
  have b1 : Byt (encF' c.f) := hbp _ (by unfold parts20; simp)
  have b2 : Byt (encG c.g) := hbp _ (by unfold parts20; simp)
  have b3 : Byt (encW19 c.inv) := hbp _ (by unfold parts20; simp)
  -- the parts
  have f1 : (fB ⟨encF' c.f, 0⟩).2 = ⟨[], 0⟩ ∧ (fB ⟨encF' c.f, 0⟩).1 = c.f.bs := by
    have e := e1
    unfold funcE at e
    by_cases h9 : (fB ⟨encF' c.f, 0⟩).2.err ≠ 0
    · rw [if_pos h9] at e
      injection e with _ e
      rw [e] at h9
      exact absurd rfl h9
    · rw [if_neg h9] at e
      injection e with e e'
      exact ⟨e', congrArg Fd.bs e⟩
  have g1 : (gB ⟨encG c.g, 0⟩).2 = ⟨[], 0⟩ ∧ (gB ⟨encG c.g, 0⟩).1 = c.g.ms := by
    have e := e2
    unfold mfuncE at e
    by_cases h9 : (gB ⟨encG c.g, 0⟩).2.err ≠ 0
    · rw [if_pos h9] at e
      injection e with _ e
      rw [e] at h9
      exact absurd rfl h9
    · rw [if_neg h9] at e
      injection e with e e'
      exact ⟨e', congrArg Gd.ms e⟩
  have w1 : (ivsE c.sr c.tr c.ts c.bs.length 0 ⟨encW19 c.inv, 0⟩).2.err = 0 ∧ (ivsE c.sr c.tr c.ts c.bs.length 0 ⟨encW19 c.inv, 0⟩).1 = c.inv := by
    have e := e3
    unfold getE19 at e
    by_cases h9 : (ivsE c.sr c.tr c.ts c.bs.length 0 ⟨encW19 c.inv, 0⟩).2.err ≠ 0
    · rw [if_pos h9] at e
      injection e with _ e
      rw [e] at h9
      exact absurd rfl h9
    · rw [if_neg h9] at e
      rw [e]
      exact ⟨rfl, rfl⟩
  obtain ⟨k1, k2⟩ := fc_ok (s := ⟨encF' c.f, 0⟩) b1 (by rw [f1.1])
  obtain ⟨k3, k4⟩ := gc_ok (s := ⟨encG c.g, 0⟩) b2 (by rw [g1.1])
  have k5 := cP_ok (vr := c.sr) (r := c.tr) (n := c.ts) c.bs.length 0 ⟨encW19 c.inv, 0⟩ b3 w1.1
  rw [f1.2] at k1 k2
  rw [g1.2] at k3 k4
  rw [w1.2] at k5
  have hlen : (encCt c).length = 3 + (packS ids20 (parts20 c)).length := by unfold encCt; simp; omega
  have ht := packS_tot ids20 (parts20 c) rfl
  have hy := secL_pack ids20 (parts20 c) rfl hl.all
  have l3 : (parts20 c).length = 3 := rfl
  have ec : costE (encCt c) = ⟨fcB ⟨encF' c.f, 0⟩ + gcB ⟨encG c.g, 0⟩, fcI ⟨encF' c.f, 0⟩ + gcI ⟨encG c.g, 0⟩, cP c.sr c.tr c.ts c.bs.length 0 ⟨encW19 c.inv, 0⟩, totalS (parts20 c)⟩ := by
    unfold costE
    rw [if_neg (by
      have a0 : (encCt c).getD 0 0 = 82 := rfl
      have a1 : (encCt c).getD 1 0 = 67 := rfl
      have a2 : (encCt c).getD 2 0 = 1 := rfl
      omega)]
    show cost0 (packS ids20 (parts20 c)) = _
    unfold cost0
    rw [splitE_pack ids20 (parts20 c) rfl hl.all, if_neg (by decide), split_pack ids20 (parts20 c) rfl hl.all, hy]
    show cost1 (totalS (parts20 c)) (encF' c.f) (encG c.g) (encW19 c.inv) = _
    unfold cost1
    rw [e1, e2, if_neg (by rw [endT_full]; decide), if_neg (by
      rw [endT_full]
      intro h9
      rcases h9 with h9 | h9 | h9
      · exact h9 rfl
      · exact h9 v3
      · exact h9 v4)]
    rfl
  rw [ec]
  dsimp only
  have x1 : c.f.bs = c.bs := rfl
  have x2 : c.g.ms = c.ms := rfl
  rw [x1] at k1 k2
  rw [x2] at k3 k4
  rw [k1, k2, k3, k4, k5]
  exact ⟨by omega, by omega, rfl, by omega, by omega, by omega⟩

/-- A header that announces so many blocks, ahead of so many bytes. -/
theorem sizeE_put21 {v : Nat} (h : v ≤ 1048576) (q : List Nat) : sizeE ⟨putS v ++ q, 0⟩ = ((v : Int), ⟨q, 0⟩) := by
  have := (sizeE_gt (v := (v : Int)) (by omega) (by omega) q (putS v ++ q).length)
  rw [Int.toNat_natCast] at this
  exact this.full (f := sizeE)

theorem cnt_huge {m : Nat} {rest : List Nat} (hm : m < 18446744073709551616) (hr : rest.length ≤ 500) : (cntE 3 ⟨putS m ++ rest, 0⟩).1 = if rest.length / 3 < m then 0 else (m : Int) := by
  by_cases h1 : m ≤ 1048576
  · have e := sizeE_put21 h1 rest
    unfold cntE
    rw [e]
    dsimp only
    by_cases h2 : rest.length / 3 < m
    · rw [if_pos h2, if_pos ⟨rfl, by omega⟩]
    · rw [if_neg h2, if_neg (fun h => h2 (by have := h.2; omega))]
  · have hz : (cntE 3 ⟨putS m ++ rest, 0⟩).2.err ≠ 0 := by
      have e : sizeE ⟨putS m ++ rest, 0⟩ = (0, ⟨[], 6⟩) := by
        unfold sizeE numE
        dsimp only
        rw [getS_putS m rest hm, if_neg (by decide), if_neg (by dsimp only; decide), if_pos (by dsimp only; omega)]
      unfold cntE
      rw [e]
      show (if (6 : Int) = 0 ∧ _ then _ else _ : Int × Ip).2.err ≠ 0
      rw [if_neg (fun h => by have := h.1; omega)]
      decide
    rw [cntE_zero hz, if_pos (by omega)]

theorem fcB_huge {a r m : Nat} {rest : List Nat} (ha : a < 256) (hr : r < 256) (hm : m < 18446744073709551616) (hl : rest.length ≤ 500) :
    fcB ⟨putS a ++ (putS r ++ (putS m ++ rest)), 0⟩ = if r < a ∨ rest.length / 3 < m then 0 else (m : Int) := by
  have e1 : fA ⟨putS a ++ (putS r ++ (putS m ++ rest)), 0⟩ = ((a : Int), ⟨putS r ++ (putS m ++ rest), 0⟩) := sizeE_put21 (by omega) _
  have e2 : fR' ⟨putS a ++ (putS r ++ (putS m ++ rest)), 0⟩ = ((r : Int), ⟨putS m ++ rest, 0⟩) := by unfold fR'; rw [e1]; exact sizeE_put21 (by omega) _
  unfold fcB fC
  rw [e1, e2]
  dsimp only
  by_cases h1 : r < a
  · rw [if_pos (by omega), if_pos (.inl h1)]
    exact cntE_zero (k := 3) (by show (cntE 3 ⟨[], 9⟩).2.err ≠ 0; decide)
  · rw [if_neg (by omega), cnt_huge hm hl]
    by_cases h2 : rest.length / 3 < m
    · rw [if_pos h2, if_pos (.inr h2)]
    · rw [if_neg h2, if_neg (fun h => h.elim h1 h2)]

theorem fcI_zero {s : Ip} (h : fcB s = 0) : fcI s = 0 := by
  unfold fcI
  rw [h]
  rfl

/-- The cost of such an input. -/
theorem costE_huge {a r m : Nat} {rest : List Nat} (ha : a < 256) (hr : r < 256) (hm : m < 18446744073709551616) (hl : rest.length ≤ 500) {s : List Nat} (hs : s = putS a ++ (putS r ++ (putS m ++ rest))) :
    (costE (82 :: 67 :: 1 :: (encS 1 s ++ [2, 0, 3, 0]))).p = 0 ∧ (costE (82 :: 67 :: 1 :: (encS 1 s ++ [2, 0, 3, 0]))).b = (if r < a ∨ rest.length / 3 < m then 0 else (m : Int)) ∧ (r < a ∨ rest.length / 3 < m → (costE (82 :: 67 :: 1 :: (encS 1 s ++ [2, 0, 3, 0]))).i = 0) := by
  have hsl : s.length < 18446744073709551616 := by
    have h1 := putS_le a; have h2 := putS_le r; have h3 := putS_le m
    rw [hs, List.length_append, List.length_append, List.length_append]
    omega
  have hp : encS 1 s ++ [2, 0, 3, 0] = packS ids20 [s, [], []] := rfl
  have hx : ∀ x ∈ [s, [], []], x.length < 18446744073709551616 := by
    intro x hx
    simp at hx
    rcases hx with rfl | rfl
    · exact hsl
    · decide
  have z1 : gcB ⟨[], 0⟩ = 0 := cntE_zero (k := 3) (by decide)
  have z2 : gcI ⟨[], 0⟩ = 0 := by
    unfold gcI
    rw [z1]
    rfl
  have hB := fcB_huge ha hr hm hl
  rw [← hs] at hB
  have ec : costE (82 :: 67 :: 1 :: (encS 1 s ++ [2, 0, 3, 0])) = cost1 (secL ids20 (packS ids20 [s, [], []])) s [] [] := by
    unfold costE
    rw [if_neg (by
      intro h
      rcases h with h | h | h | h
      · simp only [List.length_cons] at h; omega
      · exact h rfl
      · exact h rfl
      · exact h rfl)]
    show cost0 (encS 1 s ++ [2, 0, 3, 0]) = _
    rw [hp]
    unfold cost0
    rw [splitE_pack ids20 [s, [], []] rfl hx, if_neg (by decide), split_pack ids20 [s, [], []] rfl hx]
    rfl
  rw [ec]
  unfold cost1
  by_cases h1 : endT (funcE ⟨s, 0⟩).2 ≠ 0
  · rw [if_pos h1]
    exact ⟨rfl, hB, fun h => fcI_zero (by rw [hB, if_pos h])⟩
  · rw [if_neg h1, if_pos (.inl (by decide)), z1, z2]
    exact ⟨rfl, by rw [← hB]; show fcB _ + 0 = _; omega, fun h => by
      have := fcI_zero (s := ⟨s, 0⟩) (by rw [hB, if_pos h])
      show fcI ⟨s, 0⟩ + 0 = 0
      omega⟩

end Go.Proofs.YtkapmfopfddmbaaGreat
