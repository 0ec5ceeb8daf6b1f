/-
  Runs of an allocated function with more registers, more slots and one more block; a block that came in; a function's blocks with one block more.
-/
import Derived.Test.YtcimjghejclknaaExAwake
import Derived.Test.YtcimjghejclknaaMacCopy
namespace Go.Proofs.Ytcimjghejclknaa
open Go.RowKit Go.ChangeShapes Go.WideShapes Go.Deep
set_option linter.unusedVariables false

def extX (k1 k2 : Nat) (r : Xn) : Xn := { r with regs := r.regs ++ List.replicate k1 0, slots := r.slots ++ List.replicate k2 0 }
theorem rg_appX {l m : List Int} {a : Int} (h0 : 0 ≤ a) (h1 : a < l.length) : rg (l ++ m) a = rg l a := by
  have h : a.toNat < l.length := by omega
  simp [rg, List.getD, List.getElem?_append_left h]
section
variable {n m : Nat} {bs : List MBlk} {r : Xn} (k1 k2 : Nat)
theorem rdX_ext {l : Int} (hg : GoodX n m bs r) (hl : LocOk n m l) : rdX (extX k1 k2 r) l = rdX r l := by
  have h1 := hg.lenr
  have h2 := hg.lens
  obtain ⟨h0, ⟨h3, h4⟩ | ⟨h3, h4⟩⟩ := hl
  · rw [rdX, if_pos h3, rdX, if_pos h3]
    exact rg_appX (by omega) (by omega)
  · rw [rdX, if_neg (by omega), rdX, if_neg (by omega)]
    exact rg_appX (by omega) (by omega)
theorem putX_ext {l v : Int} (hg : GoodX n m bs r) (hl : LocOk n m l) : putX (extX k1 k2 r) l v = extX k1 k2 (putX r l v) := by
  have h1 := hg.lenr
  have h2 := hg.lens
  obtain ⟨h0, ⟨h3, h4⟩ | ⟨h3, h4⟩⟩ := hl
  · rw [putX, if_pos h3, putX, if_pos h3]
    show (⟨_, _, _, _, _, (r.slots ++ List.replicate k2 0).set (l / 2).toNat v, _, _⟩ : Xn) = _
    rw [List.set_append_left _ _ (by omega)]
    rfl
  · rw [putX, if_neg (by omega), putX, if_neg (by omega)]
    show (⟨_, _, _, _, (r.regs ++ List.replicate k1 0).set (l / 2).toNat v, _, _, _⟩ : Xn) = _
    rw [List.set_append_left _ _ (by omega)]
    rfl
theorem xperf_ext {i : Mi} (hg : GoodX n m bs r) (hi : MiOk n m i) : xperf i (extX k1 k2 r) = extX k1 k2 (xperf i r) := by
  have hl := hg.lenr
  unfold xperf
  rcases hi with ⟨h18, hd, hs⟩ | ⟨h17, ha0, ha1⟩ | ⟨h18, h17, _, ha0, ha1, hd0, hd1, hb0, hb1⟩
  · rw [if_pos h18, if_pos h18, rdX_ext k1 k2 hg hs, putX_ext k1 k2 hg hd]
    rfl
  · have h18 : ¬ i.op = 18 := by omega
    have e1 : rg (r.regs ++ List.replicate k1 0) i.a = rg r.regs i.a := rg_appX ha0 (by omega)
    rw [if_neg h18, if_neg h18, if_pos h17, if_pos h17]
    show (⟨_, _, _, _, _, _, r.trace ++ [rg (r.regs ++ List.replicate k1 0) i.a], _⟩ : Xn) = _
    rw [e1]
    rfl
  · have e1 : rg (r.regs ++ List.replicate k1 0) i.a = rg r.regs i.a := rg_appX ha0 (by omega)
    have e2 : rg (r.regs ++ List.replicate k1 0) i.b = rg r.regs i.b := rg_appX hb0 (by omega)
    rw [if_neg h18, if_neg h18, if_neg h17, if_neg h17]
    show (if evo i.op (rg (r.regs ++ List.replicate k1 0) i.b) = true then (⟨_, _, _, _, (r.regs ++ List.replicate k1 0).set i.d.toNat (ev i.op (rg (r.regs ++ List.replicate k1 0) i.a) (rg (r.regs ++ List.replicate k1 0) i.b) i.imm), _, _, _⟩ : Xn) else ⟨_, _, _, _, _, _, _, _⟩) = _
    rw [e1, e2]
    by_cases hv : evo i.op (rg r.regs i.b) = true
    · rw [if_pos hv, if_pos hv, List.set_append_left _ _ (by omega)]
      rfl
    · rw [if_neg hv, if_neg hv]
      rfl
theorem xleav_ext {q : Nat} {t : Tm} (hg : GoodX n m bs r) (ht : TmOk n q t) : xleav t (extX k1 k2 r) = extX k1 k2 (xleav t r) := by
  have hl := hg.lenr
  unfold xleav
  rcases ht with ⟨hk, _⟩ | ⟨hk, ha0, ha1, _⟩ | ⟨hk, ha0, ha1⟩
  · have h3 : ¬ t.kind = 3 := by omega
    have h2 : ¬ t.kind = 2 := by omega
    rw [if_neg h3, if_neg h3]
    simp only [h2, false_and, if_false]
    rfl
  · have e1 : rg (r.regs ++ List.replicate k1 0) t.a = rg r.regs t.a := rg_appX ha0 (by omega)
    have h3 : ¬ t.kind = 3 := by omega
    rw [if_neg h3, if_neg h3]
    show (⟨_, if t.kind = 2 ∧ rg (r.regs ++ List.replicate k1 0) t.a = 0 then _ else _, _, _, _, _, _, _⟩ : Xn) = _
    rw [e1]
    rfl
  · have e1 : rg (r.regs ++ List.replicate k1 0) t.a = rg r.regs t.a := rg_appX ha0 (by omega)
    rw [if_pos hk, if_pos hk]
    show (⟨_, _, _, rg (r.regs ++ List.replicate k1 0) t.a, _, _, _, _⟩ : Xn) = _
    rw [e1]
    rfl
theorem stepX_ext (hF : OkM n m bs) (hg : GoodX n m bs r) (b : MBlk) : stepX (bs ++ [b]) (extX k1 k2 r) = extX k1 k2 (stepX bs r) := by
  have hb : mblkAt (bs ++ [b]) r.blk = mblkAt bs r.blk := by
    unfold mblkAt List.getD
    rw [List.getElem?_append_left hg.blk]
  unfold stepX
  show (if r.st = 0 then if h : r.pos < (mblkAt (bs ++ [b]) r.blk).code.length then xperf (mblkAt (bs ++ [b]) r.blk).code[r.pos] (extX k1 k2 r) else xleav (mblkAt (bs ++ [b]) r.blk).term (extX k1 k2 r) else extX k1 k2 r) = _
  by_cases h0 : r.st = 0
  · rw [if_pos h0, if_pos h0]
    simp only [hb]
    by_cases hp : r.pos < (mblkAt bs r.blk).code.length
    · rw [dif_pos hp, dif_pos hp]
      exact xperf_ext k1 k2 hg (hF.ins _ (mblkAt_mem hg.blk) _ (List.getElem_mem hp))
    · rw [dif_neg hp, dif_neg hp]
      exact xleav_ext k1 k2 hg (hF.tm _ (mblkAt_mem hg.blk))
  · rw [if_neg h0, if_neg h0]
theorem runX_ext (hF : OkM n m bs) (hg : GoodX n m bs r) (b : MBlk) : ∀ q, runX (bs ++ [b]) (extX k1 k2 r) q = extX k1 k2 (runX bs r q)
  | 0 => rfl
  | q + 1 => by
    show stepX (bs ++ [b]) (runX (bs ++ [b]) (extX k1 k2 r) q) = extX k1 k2 (stepX bs (runX bs r q))
    rw [runX_ext hF hg b q, stepX_ext k1 k2 hF (runX_good hF hg q)]
theorem xn0_ext {args : List Int} (h : args.length ≤ m) : xn0 (n + k1) (m + k2) args = extX k1 k2 (xn0 n m args) := by
  unfold xn0 extX
  rw [show m + k2 - args.length = (m - args.length) + k2 by omega, ← List.replicate_append_replicate, ← List.replicate_append_replicate, ← List.append_assoc]
end

/-- A machine block as a value. -/
def IsMBlk (w : World) (cs : Array Value) : Prop :=
  ∃ (y : MBlk) (A : Option Addr) (c : Nat), cs = #[.slice A y.code.length c, .int .i64 y.term.kind, .int .i64 y.term.a, .int .i64 y.term.to, .int .i64 y.term.el] ∧ y.code.length ≤ c ∧ c ≤ maxLen ∧ MisAt w w.heap.size A y.code ∧ y.Wf
theorem IsMBlk.of {H : Type} {enc : TypeId × Value → H} {w : World} {base : Nat} {spare : Nat → Bool} {held : Bool} {fuel : Nat} {cs : Array Value} {x : DataW H × List MemPlace} (h : DataW.trod enc Try.prog w base spare held fuel 50 cs.toList = some x) : IsMBlk w cs := by
  obtain ⟨y, A, c, hy, h1, h2, h3, h4⟩ := MBlk.of h
  obtain ⟨cs⟩ := cs
  exact ⟨y, A, c, congrArg List.toArray hy, h1, h2, h3, h4⟩

/-- Blocks laid end to end in a block of their own, each with instructions that are seen. -/
theorem flat_mblks {w : World} {base : Nat} {v : Value} {vs : List Value} {bs : List MBlk} (ho : w.ownsRow base 50 5 v bs.length ((vs.zip bs).flatMap fun p => mshp.oc p.1 p.2)) (hl : vs.length = bs.length)
    (each : ∀ (i : Nat) (u : Value) (x : MBlk), vs[i]? = some u → bs[i]? = some x → ∃ A c, u = .slice A x.code.length c ∧ x.code.length ≤ c ∧ c ≤ maxLen ∧ MisAt w w.heap.size A x.code) : ∃ A c, v = .slice A bs.length c ∧ bs.length ≤ c ∧ c ≤ maxLen ∧ MBlksAt w w.heap.size A bs := by
  obtain ⟨A, c, rfl, h1, h2⟩ := ownS_slice ho
  refine ⟨A, c, rfl, h1, h2, fun hn => ?_⟩
  have hg := flat_get (fun p : Value × MBlk => mshp.oc p.1 p.2) 5 (fun _ => rfl) (vs.zip bs)
  have hz : ∀ i x, bs[i]? = some x → ∃ u, vs[i]? = some u ∧ (vs.zip bs)[i]? = some (u, x) := fun i x hx => by
    have hi : i < bs.length := (List.getElem?_eq_some_iff.1 hx).1
    have hi' : i < vs.length := by rw [hl]; exact hi
    refine ⟨vs[i], List.getElem?_eq_getElem hi', ?_⟩
    rw [List.getElem?_zip_eq_some]
    exact ⟨List.getElem?_eq_getElem hi', hx⟩
  have hne : (vs.zip bs).flatMap (fun p => mshp.oc p.1 p.2) ≠ [] := by
    rcases bs with _ | ⟨x, r⟩
    · exact absurd rfl hn
    · obtain ⟨u, _, hu⟩ := hz 0 x rfl
      intro e
      have := hg 0 (u, x) hu 0 u rfl
      rw [e] at this
      cases this
  obtain ⟨b, o, e, hb, hc⟩ := sees_own ho hne
  refine ⟨b, o, e, hb, fun i x hx => ?_⟩
  obtain ⟨u, hu, hux⟩ := hz i x hx
  obtain ⟨A', c', rfl, h3, h4, h5⟩ := each i u x hu hx
  refine ⟨⟨A', c', hc _ _ (hg i _ hux 0 _ rfl), h3, h4, h5⟩, ?_, ?_, ?_, ?_⟩
  · rw [Nat.add_assoc]; exact hc _ _ (hg i _ hux 1 _ rfl)
  · rw [Nat.add_assoc]; exact hc _ _ (hg i _ hux 2 _ rfl)
  · rw [Nat.add_assoc]; exact hc _ _ (hg i _ hux 3 _ rfl)
  · rw [Nat.add_assoc]; exact hc _ _ (hg i _ hux 4 _ rfl)
theorem own_row_neX {w : World} {lo n p sz : Nat} {e T : TypeId} {v : Value} {xs : List Value} {cs : Array Value} (h : w.ownsRow lo e sz v n xs) (hr : Row w p T cs) (hT : e ≠ T) : ∀ k, v.ownBlock = some k → k ≠ p := by
  intro k hk e1
  subst e1
  rcases h.2 with ⟨rfl, _⟩ | ⟨a, cap, cur, rfl, _, h1, _⟩
  · cases hk
  · simp only [Value.ownBlock, Option.some.injEq] at hk
    subst hk
    unfold Row at hr
    rw [h1] at hr
    simp only [Option.some.injEq, Obj.cells.injEq] at hr
    exact hT hr.2.1
/-- The copied blocks with one block more, behind a store into the function's box. -/
theorem mblks_snoc {w0 w' w'' : World} {base z : Nat} {cs0 : Array Value} {v v' : Value} {vs : List Value} {bs bs' : List MBlk} {b : MBlk} {A1 : Option Addr} {c1 : Nat} (h : NestV mshp w0 base v vs bs) (hok : ∀ y ∈ bs, y.Wf) (o : Obj) (hg : (w0.alloc o).grownBy w' v.ownBlock) (hbs : bs' = bs ++ [b])
    (ho : w'.ownsRow base 50 5 v' (bs.length + 1) (((vs.zip bs).flatMap fun p => mshp.oc p.1 p.2) ++ mshp.oc (.slice A1 b.code.length c1) b)) (hA : MisAt w0 base A1 b.code) (hc1 : b.code.length ≤ c1) (hc2 : c1 ≤ maxLen)
    (hz : Row w0 z 24 cs0) (hzb : base ≤ z) (hm : Mods (Is z) w' w'') :
    Row w' z 24 cs0 ∧ Below base w0 w'' ∧ ∃ A c, v' = .slice A bs'.length c ∧ bs'.length ≤ c ∧ c ≤ maxLen ∧ MBlksAt w'' w''.heap.size A bs' := by
  have hb : base ≤ w0.heap.size := Nat.le_trans hzb (Nat.le_of_lt hz.lt)
  have hG : Mods (fun k => v.ownBlock = some k) w0 w' := ((Mods.refl _ _).alloc o).grown hg fun k hk => .inl hk
  have hbl : Below base w0 w' := hG.below hb fun k hk => (ownS_lt h.outer k hk).1
  have hz' : Row w' z 24 cs0 := hz.mods hG fun hs => own_row_neX h.outer hz (by decide) z hs rfl
  have hbl2 : Below base w0 w'' := hbl.trans (hm.below (Nat.le_trans hb hbl.size) fun k hk => by unfold Is at hk; omega)
  have hs : base ≤ w''.heap.size := Nat.le_trans hb hbl2.size
  refine ⟨hz', hbl2, ?_⟩
  subst hbs
  refine flat_mblks (base := base) (vs := vs ++ [.slice A1 b.code.length c1]) ?_ (by simp [h.len]) fun i u x hu hx => ?_
  · rw [zip_snoc _ _ _ _ h.len, List.flatMap_append, List.length_append]
    have := hm.ownS ho fun k hk hs => own_row_neX ho hz' (by decide) k hk hs
    simpa using this
  · rcases Nat.lt_trichotomy i vs.length with hl | hl | hl
    · rw [List.getElem?_append_left hl] at hu
      rw [List.getElem?_append_left (by rw [← h.len]; exact hl)] at hx
      have hin := hG.ownS (h.inner i u x hu hx) fun k hk hs => ownS_ne h.outer (h.inner i u x hu hx) mshp.ne k hs hk
      have hin2 := hm.ownS hin fun k hk hs => own_row_neX hin hz' (show 52 ≠ 24 by decide) k hk hs
      obtain ⟨A', c', rfl, h3, h4⟩ := ownS_slice hin2
      exact ⟨A', c', rfl, h3, h4, MisAt.of_own hin2 fun y hy => ((hok x (List.mem_of_getElem? hx)).1 y hy).ok⟩
    · subst hl
      rw [List.getElem?_append_right (Nat.le_refl _), Nat.sub_self] at hu
      rw [h.len, List.getElem?_append_right (Nat.le_refl _), Nat.sub_self] at hx
      injection hu with hu
      injection hx with hx
      subst hu
      subst hx
      exact ⟨A1, c1, rfl, hc1, hc2, (hA.below hbl2).more hs⟩
    · rw [List.getElem?_eq_none (by simp; omega)] at hu
      cases hu

end Go.Proofs.Ytcimjghejclknaa
