/-
  Runs of a function with more registers and one more block; a block that came in; a function's blocks with one block more.
-/
import Derived.Test.YtncigbpeempnfaaPk6
import Derived.Test.YtncigbpeempnfaaRunAwake
import Derived.Test.YtncigbpeempnfaaSrcCopy
namespace Go.Proofs.Ytncigbpeempnfaa
open Go.RowKit Go.ChangeShapes Go.WideShapes Go.Deep
set_option linter.unusedVariables false

def ext9 (k : Nat) (r : Rn) : Rn := { r with regs := r.regs ++ List.replicate k 0 }

theorem rg_app {l m : List Int} {a : Int} (h0 : 0 ≤ a) (h1 : a < l.length) : rg (l ++ m) a = rg l a := by
  have h : a.toNat < l.length := by omega
  simp [rg, List.getD, List.getElem?_append_left h]

theorem perf_ext {n : Nat} {bs : List Blk} {r : Rn} {i : In} (hg : Good n bs r) (hi : InOk n i) (k : Nat) : perf i (ext9 k r) = ext9 k (perf i r) := by
  obtain ⟨_, ha0, ha1, hop⟩ := hi
  have hl := hg.len
  have e1 : rg (r.regs ++ List.replicate k 0) i.a = rg r.regs i.a := rg_app ha0 (by omega)
  unfold perf
  by_cases h17 : i.op = 17
  · rw [if_pos h17, if_pos h17]
    show (⟨_, _, _, _, _, r.trace ++ [rg (r.regs ++ List.replicate k 0) i.a], _⟩ : Rn) = _
    rw [e1]
    rfl
  · rcases hop with h | ⟨_, hd0, hd1, hb0, hb1⟩
    · exact absurd h h17
    · have e2 : rg (r.regs ++ List.replicate k 0) i.b = rg r.regs i.b := rg_app hb0 (by omega)
      rw [if_neg h17, if_neg h17]
      show (if evo i.op (rg (r.regs ++ List.replicate k 0) i.b) = true then (⟨_, _, _, _, (r.regs ++ List.replicate k 0).set i.d.toNat (ev i.op (rg (r.regs ++ List.replicate k 0) i.a) (rg (r.regs ++ List.replicate k 0) i.b) i.imm), _, _⟩ : Rn) else ⟨_, _, _, _, _, _, _⟩) = _
      rw [e1, e2]
      by_cases hv : evo i.op (rg r.regs i.b) = true
      · rw [if_pos hv, if_pos hv, List.set_append_left _ _ (by omega)]
        rfl
      · rw [if_neg hv, if_neg hv]
        rfl

theorem leav_ext {n m : Nat} {bs : List Blk} {r : Rn} {t : Tm} (hg : Good n bs r) (ht : TmOk n m t) (k : Nat) : leav t (ext9 k r) = ext9 k (leav t r) := by
  have hl := hg.len
  unfold leav
  rcases ht with ⟨hk, _⟩ | ⟨hk, ha0, ha1, _⟩ | ⟨hk, ha0, ha1⟩
  · have h3 : ¬ t.kind = 3 := by omega
    have h2 : ¬ t.kind = 2 := by omega
    rw [if_neg h3, if_neg h3]
    simp only [h2, false_and, if_false]
    rfl
  · have e1 : rg (r.regs ++ List.replicate k 0) t.a = rg r.regs t.a := rg_app ha0 (by omega)
    have h3 : ¬ t.kind = 3 := by omega
    rw [if_neg h3, if_neg h3]
    show (⟨_, if t.kind = 2 ∧ rg (r.regs ++ List.replicate k 0) t.a = 0 then _ else _, _, _, _, _, _⟩ : Rn) = _
    rw [e1]
    rfl
  · have e1 : rg (r.regs ++ List.replicate k 0) t.a = rg r.regs t.a := rg_app ha0 (by omega)
    rw [if_pos hk, if_pos hk]
    show (⟨_, _, _, rg (r.regs ++ List.replicate k 0) t.a, _, _, _⟩ : Rn) = _
    rw [e1]
    rfl

theorem step_ext {n : Nat} {bs : List Blk} {r : Rn} (hF : OkF n bs) (hg : Good n bs r) (b : Blk) (k : Nat) : stepR (bs ++ [b]) (ext9 k r) = ext9 k (stepR bs r) := by
  have hb : blkAt (bs ++ [b]) r.blk = blkAt bs r.blk := by
    unfold blkAt List.getD
    rw [List.getElem?_append_left hg.blk]
  unfold stepR
  show (if r.st = 0 then if h : r.pos < (blkAt (bs ++ [b]) r.blk).code.length then perf (blkAt (bs ++ [b]) r.blk).code[r.pos] (ext9 k r) else leav (blkAt (bs ++ [b]) r.blk).term (ext9 k r) else ext9 k r) = _
  by_cases h0 : r.st = 0
  · rw [if_pos h0, if_pos h0]
    simp only [hb]
    by_cases hp : r.pos < (blkAt bs r.blk).code.length
    · rw [dif_pos hp, dif_pos hp]
      exact perf_ext hg (hF.ins _ (blkAt_mem hg.blk) _ (List.getElem_mem hp)) k
    · rw [dif_neg hp, dif_neg hp]
      exact leav_ext hg (hF.tm _ (blkAt_mem hg.blk)) k
  · rw [if_neg h0, if_neg h0]

theorem run_ext {n : Nat} {bs : List Blk} {r : Rn} (hF : OkF n bs) (hg : Good n bs r) (b : Blk) (k : Nat) : ∀ m, runR (bs ++ [b]) (ext9 k r) m = ext9 k (runR bs r m)
  | 0 => rfl
  | m + 1 => by
    show stepR (bs ++ [b]) (runR (bs ++ [b]) (ext9 k r) m) = ext9 k (stepR bs (runR bs r m))
    rw [run_ext hF hg b k m, step_ext hF (run_good hF hg m)]

theorem rn0_ext {n k : Nat} {args : List Int} (h : args.length ≤ n) : rn0 (n + k) args = ext9 k (rn0 n args) := by
  unfold rn0 ext9
  rw [show n + k - args.length = (n - args.length) + k by omega, ← List.replicate_append_replicate, ← List.append_assoc]

/-- Blocks laid end to end in a block of their own, each with instructions that are seen. -/
theorem flat_blks {w : World} {base : Nat} {v : Value} {vs : List Value} {bs : List Blk} (ho : w.ownsRow base 34 5 v bs.length ((vs.zip bs).flatMap fun p => bshp.oc p.1 p.2)) (hl : vs.length = bs.length)
    (each : ∀ (i : Nat) (u : Value) (x : Blk), vs[i]? = some u → bs[i]? = some x → ∃ A c, u = .slice A x.code.length c ∧ x.code.length ≤ c ∧ c ≤ maxLen ∧ InsAt w w.heap.size A x.code) : ∃ A c, v = .slice A bs.length c ∧ bs.length ≤ c ∧ c ≤ maxLen ∧ BlksAt w w.heap.size A bs := by
  obtain ⟨A, c, rfl, h1, h2⟩ := ownS_slice ho
  refine ⟨A, c, rfl, h1, h2, fun hn => ?_⟩
  have hg := flat_get (fun p : Value × Blk => bshp.oc p.1 p.2) 5 (fun _ => rfl) (vs.zip bs)
  have hz : ∀ i x, bs[i]? = some x → ∃ u, vs[i]? = some u ∧ (vs.zip bs)[i]? = some (u, x) := fun i x hx => by
    have hi : i < bs.length := (List.getElem?_eq_some_iff.1 hx).1
    have hi' : i < vs.length := by rw [hl]; exact hi
    refine ⟨vs[i], List.getElem?_eq_getElem hi', ?_⟩
    rw [List.getElem?_zip_eq_some]
    exact ⟨List.getElem?_eq_getElem hi', hx⟩
  have hne : (vs.zip bs).flatMap (fun p => bshp.oc p.1 p.2) ≠ [] := by
    rcases bs with _ | ⟨x, r⟩
    · exact absurd rfl hn
    · obtain ⟨u, _, hu⟩ := hz 0 x rfl
      intro e
      have := hg 0 (u, x) hu 0 u rfl
      rw [e] at this
      cases this
  obtain ⟨b, o, e, hb, hc⟩ := sees_own ho hne
  refine ⟨b, o, e, hb, fun i x hx => ?_⟩
  obtain ⟨u, hu, hux⟩ := hz i x hx
  obtain ⟨A', c', rfl, h3, h4, h5⟩ := each i u x hu hx
  refine ⟨⟨A', c', hc _ _ (hg i _ hux 0 _ rfl), h3, h4, h5⟩, ?_, ?_, ?_, ?_⟩
  · rw [Nat.add_assoc]; exact hc _ _ (hg i _ hux 1 _ rfl)
  · rw [Nat.add_assoc]; exact hc _ _ (hg i _ hux 2 _ rfl)
  · rw [Nat.add_assoc]; exact hc _ _ (hg i _ hux 3 _ rfl)
  · rw [Nat.add_assoc]; exact hc _ _ (hg i _ hux 4 _ rfl)

theorem own_row_ne' {w : World} {lo n p sz : Nat} {e T : TypeId} {v : Value} {xs : List Value} {cs : Array Value} (h : w.ownsRow lo e sz v n xs) (hr : Row w p T cs) (hT : e ≠ T) : ∀ k, v.ownBlock = some k → k ≠ p := by
  intro k hk e1
  subst e1
  rcases h.2 with ⟨rfl, _⟩ | ⟨a, cap, cur, rfl, _, h1, _⟩
  · cases hk
  · simp only [Value.ownBlock, Option.some.injEq] at hk
    subst hk
    unfold Row at hr
    rw [h1] at hr
    simp only [Option.some.injEq, Obj.cells.injEq] at hr
    exact hT hr.2.1

/-- The copied blocks with one block more, behind a store into the function's box. -/
theorem blks_snoc {w0 w' w'' : World} {base z : Nat} {cs0 : Array Value} {v v' : Value} {vs : List Value} {bs bs' : List Blk} {b : Blk} {A1 : Option Addr} {c1 : Nat} (h : NestV bshp w0 base v vs bs) (o : Obj) (hg : (w0.alloc o).grownBy w' v.ownBlock) (hbs : bs' = bs ++ [b])
    (ho : w'.ownsRow base 34 5 v' (bs.length + 1) (((vs.zip bs).flatMap fun p => bshp.oc p.1 p.2) ++ bshp.oc (.slice A1 b.code.length c1) b)) (hA : InsAt w0 base A1 b.code) (hc1 : b.code.length ≤ c1) (hc2 : c1 ≤ maxLen)
    (hz : Row w0 z 24 cs0) (hzb : base ≤ z) (hm : Mods (Is z) w' w'') :
    Row w' z 24 cs0 ∧ Below base w0 w'' ∧ ∃ A c, v' = .slice A bs'.length c ∧ bs'.length ≤ c ∧ c ≤ maxLen ∧ BlksAt w'' w''.heap.size A bs' := by
  have hb : base ≤ w0.heap.size := Nat.le_trans hzb (Nat.le_of_lt hz.lt)
  have hG : Mods (fun k => v.ownBlock = some k) w0 w' := ((Mods.refl _ _).alloc o).grown hg fun k hk => .inl hk
  have hbl : Below base w0 w' := hG.below hb fun k hk => (ownS_lt h.outer k hk).1
  have hz' : Row w' z 24 cs0 := hz.mods hG fun hs => own_row_ne' h.outer hz (by decide) z hs rfl
  have hbl2 : Below base w0 w'' := hbl.trans (hm.below (Nat.le_trans hb hbl.size) fun k hk => by unfold Is at hk; omega)
  have hs : base ≤ w''.heap.size := Nat.le_trans hb hbl2.size
  refine ⟨hz', hbl2, ?_⟩
  subst hbs
  refine flat_blks (base := base) (vs := vs ++ [.slice A1 b.code.length c1]) ?_ (by simp [h.len]) fun i u x hu hx => ?_
  · rw [zip_snoc _ _ _ _ h.len, List.flatMap_append, List.length_append]
    have := hm.ownS ho fun k hk hs => own_row_ne' ho hz' (by decide) k hk hs
    simpa using this
  · rcases Nat.lt_trichotomy i vs.length with hl | hl | hl
    · rw [List.getElem?_append_left hl] at hu
      rw [List.getElem?_append_left (by rw [← h.len]; exact hl)] at hx
      have hin := hG.ownS (h.inner i u x hu hx) fun k hk hs => ownS_ne h.outer (h.inner i u x hu hx) bshp.ne k hs hk
      have hin2 := hm.ownS hin fun k hk hs => own_row_ne' hin hz' (show 56 ≠ 24 by decide) k hk hs
      obtain ⟨A', c', rfl, h3, h4⟩ := ownS_slice hin2
      exact ⟨A', c', rfl, h3, h4, insAt_sees (sees_own hin2)⟩
    · subst hl
      rw [List.getElem?_append_right (Nat.le_refl _), Nat.sub_self] at hu
      rw [h.len, List.getElem?_append_right (Nat.le_refl _), Nat.sub_self] at hx
      injection hu with hu
      injection hx with hx
      subst hu
      subst hx
      exact ⟨A1, c1, rfl, hc1, hc2, (hA.below hbl2).more hs⟩
    · rw [List.getElem?_eq_none (by simp; omega)] at hu
      cases hu

end Go.Proofs.Ytncigbpeempnfaa
