import Derived.Test.YtkapmfopfddmbaaPk4
import Derived.Test.YtkapmfopfddmbaaIcMach
import Derived.Test.YtkapmfopfddmbaaIcTerm
import Derived.Test.YtkapmfopfddmbaaSrcCopy
import Derived.Test.YtkapmfopfddmbaaMacCopy
import Derived.Test.YtkapmfopfddmbaaIcEnc

/-
  What the reference's functions of layer 18 carry (made by wip/lab/genfcmem.py).
-/
namespace Go.Proofs.Ytkapmfopfddmbaa
open Go.RowKit
set_option linter.unusedVariables false

theorem own_row_ne18 {w : World} {lo n p sz : Nat} {e T : TypeId} {v : Value} {xs : List Value} {cs : Array Value} (h : w.ownsRow lo e sz v n xs) (hr : Row w p T cs) (hT : e ≠ T) : ∀ k, v.ownBlock = some k → ¬ k = p := by
  intro k hk e1
  subst e1
  rcases h.2 with ⟨rfl, _⟩ | ⟨a, cap, cur, rfl, _, h1, _⟩
  · cases hk
  · simp only [Value.ownBlock, Option.some.injEq] at hk
    subst hk
    unfold Row at hr
    rw [h1] at hr
    simp only [Option.some.injEq, Obj.cells.injEq] at hr
    exact hT hr.2.1

/-- What Func of the reference carries: the input, both results' blocks, the function with its blocks. -/
structure FHS (w : World) (B : Nat) (A : Option Addr) (c : Nat) (t : Ip) (a r : Int) (v : Value) (bs : List Blk) (W : World) : Prop where
  blw : Below w.heap.size w W
  inp : Row W w.heap.size 55 #[.slice A t.rest.length c, .int .i64 t.err]
  z2 : Row W (w.heap.size + 1) 63 #[.int .i64 0, .int .i64 0, .slice none 0 0]
  z3 : Row W (w.heap.size + 1 + 1) 55 #[.slice none 0 0, .int .i64 0]
  fb : Row W (w.heap.size + 1 + 1 + 1) 63 #[.int .i64 a, .int .i64 r, v]
  ip : IpV W B A c t
  nest : ∃ vs, NestV bshp W (w.heap.size + 1 + 1 + 1 + 1) v vs bs

section
variable {w : World} {B : Nat} {A A' : Option Addr} {c c' : Nat} {t t' : Ip} {a r : Int} {v v' : Value} {bs : List Blk} {W W' : World}

theorem FHS.lo (h : FHS w B A c t a r v bs W) : w.heap.size + 1 + 1 + 1 < W.heap.size := h.fb.lt

theorem FHS.next (h : FHS w B A c t a r v bs W) (hb : Below W.heap.size W W') (hB : B ≤ w.heap.size) : FHS w B A c t a r v bs W' :=
  ⟨h.blw.trans (hb.mono h.blw.size), h.inp.below hb h.inp.lt, h.z2.below hb h.z2.lt, h.z3.below hb h.z3.lt, h.fb.below hb h.fb.lt, h.ip.below (hb.mono (Nat.le_trans hB h.blw.size)), let ⟨vs, hn⟩ := h.nest; ⟨vs, hn.below hb⟩⟩

theorem FHS.inpt (h : FHS w B A c t a r v bs W) (hI : IpV W B A' c' t') (hB : B ≤ w.heap.size) : FHS w B A' c' t' a r v bs ((W.setCell ⟨w.heap.size, 0, none⟩ (.slice A' t'.rest.length c')).setCell ⟨w.heap.size, 1, none⟩ (.int .i64 t'.err)) := by
  have hb : Below w.heap.size W ((W.setCell ⟨w.heap.size, 0, none⟩ (.slice A' t'.rest.length c')).setCell ⟨w.heap.size, 1, none⟩ (.int .i64 t'.err)) := ((Below.refl _ W).setCell (p := ⟨w.heap.size, 0, none⟩) (Nat.le_refl _) _).setCell (p := ⟨w.heap.size, 1, none⟩) (Nat.le_refl _) _
  have hm : Mods (Is w.heap.size) W ((W.setCell ⟨w.heap.size, 0, none⟩ (.slice A' t'.rest.length c')).setCell ⟨w.heap.size, 1, none⟩ (.int .i64 t'.err)) := ((Mods.refl _ W).put 0 _).put 1 _
  exact ⟨h.blw.trans hb, (h.inp.put 0 _).put 1 _, h.z2.mods hm (fun e => by unfold Is at e; omega), h.z3.mods hm (fun e => by unfold Is at e; omega), h.fb.mods hm (fun e => by unfold Is at e; omega), hI.below (hb.mono hB), let ⟨vs, hn⟩ := h.nest; ⟨vs, hn.mods hm fun k h1 _ h2 => by unfold Is at h2; omega⟩⟩

theorem FHS.fld (h : FHS w B A c t a r v bs W) (k : Nat) (u : Value) {a' r' : Int} (e : (#[.int .i64 a, .int .i64 r, v] : Array Value).setIfInBounds k u = #[.int .i64 a', .int .i64 r', v]) (hB : B ≤ w.heap.size) : FHS w B A c t a' r' v bs (W.setCell ⟨w.heap.size + 1 + 1 + 1, k, none⟩ u) := by
  have hb : Below w.heap.size W (W.setCell ⟨w.heap.size + 1 + 1 + 1, k, none⟩ u) := (Below.refl _ W).setCell (p := ⟨w.heap.size + 1 + 1 + 1, k, none⟩) (by show _ ≤ w.heap.size + 1 + 1 + 1; omega) u
  have hm : Mods (Is (w.heap.size + 1 + 1 + 1)) W (W.setCell ⟨w.heap.size + 1 + 1 + 1, k, none⟩ u) := (Mods.refl _ W).put k u
  have hp := h.fb.put k u
  rw [e] at hp
  exact ⟨h.blw.trans hb, h.inp.mods hm (fun e => by unfold Is at e; omega), h.z2.mods hm (fun e => by unfold Is at e; omega), h.z3.mods hm (fun e => by unfold Is at e; omega), hp, h.ip.below (hb.mono hB), let ⟨vs, hn⟩ := h.nest; ⟨vs, hn.mods hm fun k h1 _ h2 => by unfold Is at h2; omega⟩⟩

end

/-- What the loop over a block's instructions carries: the input, the block's box, its instructions; Wq is the world ahead of the block. -/
structure GHS (w Wq : World) (B : Nat) (A : Option Addr) (c : Nat) (t : Ip) (a r : Int) (v : Value) (bs : List Blk) (vc : Value) (xs : List In) (W : World) : Prop where
  q : ∃ A0 c0 t0, FHS w B A0 c0 t0 a r v bs Wq
  md : Mods (Is w.heap.size) Wq W
  inp : Row W w.heap.size 55 #[.slice A t.rest.length c, .int .i64 t.err]
  ip : IpV W B A c t
  bb : Row W Wq.heap.size 106 #[vc, .int .i64 0, .int .i64 0, .int .i64 0, .int .i64 0]
  own : W.ownsRow Wq.heap.size 92 5 vc xs.length (xs.flatMap In.cells)

section
variable {w Wq : World} {B : Nat} {A A' : Option Addr} {c c' : Nat} {t t' : Ip} {a r : Int} {v vc v' : Value} {bs : List Blk} {xs : List In} {W W' : World}

theorem GHS.lo (h : GHS w Wq B A c t a r v bs vc xs W) : w.heap.size + 1 + 1 + 1 < Wq.heap.size ∧ Wq.heap.size < W.heap.size := let ⟨_, _, _, hq⟩ := h.q; ⟨hq.fb.lt, h.bb.lt⟩

theorem GHS.blw (h : GHS w Wq B A c t a r v bs vc xs W) : Below w.heap.size w W := by
  obtain ⟨_, _, _, hq⟩ := h.q
  exact hq.blw.trans (h.md.below hq.blw.size fun k hk => by unfold Is at hk; omega)

theorem GHS.fb (h : GHS w Wq B A c t a r v bs vc xs W) : Row W (w.heap.size + 1 + 1 + 1) 63 #[.int .i64 a, .int .i64 r, v] := by
  obtain ⟨_, _, _, hq⟩ := h.q
  exact hq.fb.mods h.md fun e => by unfold Is at e; omega

theorem GHS.next (h : GHS w Wq B A c t a r v bs vc xs W) (hb : Below W.heap.size W W') (hB : B ≤ w.heap.size) : GHS w Wq B A c t a r v bs vc xs W' :=
  ⟨h.q, h.md.trans (Mods.of_below hb), h.inp.below hb h.inp.lt, h.ip.below (hb.mono (Nat.le_trans hB h.blw.size)), h.bb.below hb h.bb.lt, (Mods.of_below (S := No) hb).ownS h.own fun _ _ hs => hs.elim⟩

theorem GHS.inpt (h : GHS w Wq B A c t a r v bs vc xs W) (hI : IpV W B A' c' t') (hB : B ≤ w.heap.size) : GHS w Wq B A' c' t' a r v bs vc xs ((W.setCell ⟨w.heap.size, 0, none⟩ (.slice A' t'.rest.length c')).setCell ⟨w.heap.size, 1, none⟩ (.int .i64 t'.err)) := by
  have hl := h.lo
  have hb : Below w.heap.size W ((W.setCell ⟨w.heap.size, 0, none⟩ (.slice A' t'.rest.length c')).setCell ⟨w.heap.size, 1, none⟩ (.int .i64 t'.err)) := ((Below.refl _ W).setCell (p := ⟨w.heap.size, 0, none⟩) (Nat.le_refl _) _).setCell (p := ⟨w.heap.size, 1, none⟩) (Nat.le_refl _) _
  have hm : Mods (Is w.heap.size) W ((W.setCell ⟨w.heap.size, 0, none⟩ (.slice A' t'.rest.length c')).setCell ⟨w.heap.size, 1, none⟩ (.int .i64 t'.err)) := ((Mods.refl _ W).put 0 _).put 1 _
  exact ⟨h.q, h.md.trans hm, (h.inp.put 0 _).put 1 _, hI.below (hb.mono hB), h.bb.mods hm (fun e => by unfold Is at e; omega), hm.ownS h.own fun k hk e => by have := ownS_lt h.own k hk; unfold Is at e; omega⟩

/-- An instruction has been appended. -/
theorem GHS.app (h : GHS w Wq B A c t a r v bs vc xs W) (hB : B ≤ w.heap.size) (x : In) {o : Obj} (ho : W'.ownsRow Wq.heap.size 92 5 v' (xs.length + 1) (xs.flatMap In.cells ++ In.cells x)) (hg : (W.alloc o).grownBy W' vc.ownBlock) :
    Row W' Wq.heap.size 106 #[vc, .int .i64 0, .int .i64 0, .int .i64 0, .int .i64 0] ∧ GHS w Wq B A c t a r v bs v' (xs ++ [x]) (W'.setCell ⟨Wq.heap.size, 0, none⟩ v') := by
  have hl := h.lo
  have hne := own_row_ne18 h.own h.bb (by decide)
  have hr : Row W' Wq.heap.size 106 #[vc, .int .i64 0, .int .i64 0, .int .i64 0, .int .i64 0] := (hg.block _ (by rw [World.size_alloc]; omega) (fun e => hne _ e.symm rfl)).trans (h.bb.alloc o)
  have hne2 := own_row_ne18 ho hr (by decide)
  have hm : Mods (fun k => vc.ownBlock = some k) W W' := ((Mods.refl _ W).alloc o).grown hg fun k hk => .inl hk
  have hms : Mods (Is Wq.heap.size) W' (W'.setCell ⟨Wq.heap.size, 0, none⟩ v') := (Mods.refl _ W').put 0 v'
  have hBel : Below w.heap.size W (W'.setCell ⟨Wq.heap.size, 0, none⟩ v') := (hm.below (B := w.heap.size) (by omega) fun k hk => by have := ownS_lt h.own k hk; omega).trans (hms.below (B := w.heap.size) (by have := hm.size; omega) fun k hk => by unfold Is at hk; omega)
  have hinp : Row W' w.heap.size 55 #[.slice A t.rest.length c, .int .i64 t.err] := h.inp.mods hm fun e => by have := ownS_lt h.own _ e; omega
  refine ⟨hr, h.q, ?_, hinp.mods hms (fun e => by unfold Is at e; omega), h.ip.below (hBel.mono hB), hr.put 0 v', ?_⟩
  · exact (h.md.then hm fun k hk => .inr (ownS_lt h.own k hk).1).then hms fun k hk => .inr (by unfold Is at hk; omega)
  · have := hms.ownS ho fun k hk e => hne2 k hk e
    rw [List.length_append, List.flatMap_append]
    simpa using this

end

/-- The block has been read: its terminator is stored. -/
structure THS (w Wq : World) (B : Nat) (A : Option Addr) (c : Nat) (t : Ip) (a r : Int) (v : Value) (bs : List Blk) (vc : Value) (xs : List In) (tm : Tm) (W : World) : Prop where
  q : ∃ A0 c0 t0, FHS w B A0 c0 t0 a r v bs Wq
  md : Mods (Is w.heap.size) Wq W
  inp : Row W w.heap.size 55 #[.slice A t.rest.length c, .int .i64 t.err]
  ip : IpV W B A c t
  bb : Row W Wq.heap.size 106 #[vc, .int .i64 tm.kind, .int .i64 tm.a, .int .i64 tm.to, .int .i64 tm.el]
  own : W.ownsRow Wq.heap.size 92 5 vc xs.length (xs.flatMap In.cells)

section
variable {w Wq : World} {B : Nat} {A A' : Option Addr} {c c' : Nat} {t t' : Ip} {a r : Int} {v vc v' : Value} {bs : List Blk} {xs : List In} {tm : Tm} {W W' : World}

theorem GHS.term (h : GHS w Wq B A c t a r v bs vc xs W) (tm : Tm) (hI : IpV W B A' c' t') (hB : B ≤ w.heap.size) :
    THS w Wq B A' c' t' a r v bs vc xs tm ((((((W.setCell ⟨Wq.heap.size, 1, none⟩ (.int .i64 tm.kind)).setCell ⟨Wq.heap.size, 2, none⟩ (.int .i64 tm.a)).setCell ⟨Wq.heap.size, 3, none⟩ (.int .i64 tm.to)).setCell ⟨Wq.heap.size, 4, none⟩ (.int .i64 tm.el)).setCell ⟨w.heap.size, 0, none⟩ (.slice A' t'.rest.length c')).setCell ⟨w.heap.size, 1, none⟩ (.int .i64 t'.err)) := by
  have hl := h.lo
  have hm1 : Mods (Is Wq.heap.size) W ((((W.setCell ⟨Wq.heap.size, 1, none⟩ (.int .i64 tm.kind)).setCell ⟨Wq.heap.size, 2, none⟩ (.int .i64 tm.a)).setCell ⟨Wq.heap.size, 3, none⟩ (.int .i64 tm.to)).setCell ⟨Wq.heap.size, 4, none⟩ (.int .i64 tm.el)) := ((((Mods.refl _ W).put 1 _).put 2 _).put 3 _).put 4 _
  have hr1 : Row ((((W.setCell ⟨Wq.heap.size, 1, none⟩ (.int .i64 tm.kind)).setCell ⟨Wq.heap.size, 2, none⟩ (.int .i64 tm.a)).setCell ⟨Wq.heap.size, 3, none⟩ (.int .i64 tm.to)).setCell ⟨Wq.heap.size, 4, none⟩ (.int .i64 tm.el)) Wq.heap.size 106 #[vc, .int .i64 tm.kind, .int .i64 tm.a, .int .i64 tm.to, .int .i64 tm.el] := (((h.bb.put 1 _).put 2 _).put 3 _).put 4 _
  have hne := own_row_ne18 h.own h.bb (by decide)
  have hI1 := hI.below (w' := ((((W.setCell ⟨Wq.heap.size, 1, none⟩ (.int .i64 tm.kind)).setCell ⟨Wq.heap.size, 2, none⟩ (.int .i64 tm.a)).setCell ⟨Wq.heap.size, 3, none⟩ (.int .i64 tm.to)).setCell ⟨Wq.heap.size, 4, none⟩ (.int .i64 tm.el))) (hm1.below (by omega) fun k hk => by unfold Is at hk; omega)
  generalize ((((W.setCell ⟨Wq.heap.size, 1, none⟩ (.int .i64 tm.kind)).setCell ⟨Wq.heap.size, 2, none⟩ (.int .i64 tm.a)).setCell ⟨Wq.heap.size, 3, none⟩ (.int .i64 tm.to)).setCell ⟨Wq.heap.size, 4, none⟩ (.int .i64 tm.el)) = V at *
  have hm2 : Mods (Is w.heap.size) V ((V.setCell ⟨w.heap.size, 0, none⟩ (.slice A' t'.rest.length c')).setCell ⟨w.heap.size, 1, none⟩ (.int .i64 t'.err)) := ((Mods.refl _ V).put 0 _).put 1 _
  have hi := h.inp.mods hm1 fun e => by unfold Is at e; omega
  have ho1 := hm1.ownS h.own fun k hk e => hne k hk e
  exact ⟨h.q, (h.md.then hm1 fun k hk => .inr (by unfold Is at hk; omega)).trans hm2, (hi.put 0 _).put 1 _, hI1.below (hm2.below (by have := hm1.size; have := hl.2; omega) fun k hk => by unfold Is at hk; omega), hr1.mods hm2 (fun e => by unfold Is at e; omega), hm2.ownS ho1 fun k hk e => by have := ownS_lt ho1 k hk; unfold Is at e; omega⟩

theorem THS.fb (h : THS w Wq B A c t a r v bs vc xs tm W) : Row W (w.heap.size + 1 + 1 + 1) 63 #[.int .i64 a, .int .i64 r, v] := by
  obtain ⟨_, _, _, hq⟩ := h.q
  exact hq.fb.mods h.md fun e => by unfold Is at e; omega

theorem THS.nest (h : THS w Wq B A c t a r v bs vc xs tm W) : ∃ vs, NestV bshp Wq (w.heap.size + 1 + 1 + 1 + 1) v vs bs ∧ NestV bshp W (w.heap.size + 1 + 1 + 1 + 1) v vs bs := by
  obtain ⟨_, _, _, hq⟩ := h.q
  obtain ⟨vs, hn⟩ := hq.nest
  exact ⟨vs, hn, hn.mods h.md fun k h1 _ h2 => by unfold Is at h2; omega⟩

theorem THS.lo (h : THS w Wq B A c t a r v bs vc xs tm W) : w.heap.size + 1 + 1 + 1 < Wq.heap.size ∧ Wq.heap.size < W.heap.size := let ⟨_, _, _, hq⟩ := h.q; ⟨hq.fb.lt, h.bb.lt⟩

/-- The block has been appended. -/
theorem THS.app (h : THS w Wq B A c t a r v bs vc xs tm W) (hB : B ≤ w.heap.size) {vs : List Value} (hn : NestV bshp Wq (w.heap.size + 1 + 1 + 1 + 1) v vs bs) {o : Obj}
    (ho : W'.ownsRow (w.heap.size + 1 + 1 + 1 + 1) 106 5 v' (vs.length + 1) (((vs.zip bs).flatMap fun p => bshp.oc p.1 p.2) ++ bshp.oc vc ⟨xs, tm⟩)) (hg : (W.alloc o).grownBy W' v.ownBlock) :
    Row W' (w.heap.size + 1 + 1 + 1) 63 #[.int .i64 a, .int .i64 r, v] ∧ FHS w B A c t a r v' (bs ++ [⟨xs, tm⟩]) (W'.setCell ⟨w.heap.size + 1 + 1 + 1, 2, none⟩ v') := by
  have hl := h.lo
  have hsn := hn.snoc (x := (⟨xs, tm⟩ : Blk)) h.md (fun k hk => by unfold Is at hk; omega) (by omega) h.own o ho hg
  obtain ⟨_, _, _, hq⟩ := h.q
  have hon := (hn.mods h.md fun k h1 _ h2 => by unfold Is at h2; omega).outer
  have hb : Below (w.heap.size + 1 + 1 + 1 + 1) W W' := ((Below.refl _ W).alloc (by omega) o).grown hg (by rw [World.size_alloc]; omega) fun k hk => (ownS_lt hon k hk).1
  have hfb := h.fb.below hb (by omega)
  have hm : Mods (Is (w.heap.size + 1 + 1 + 1)) W' (W'.setCell ⟨w.heap.size + 1 + 1 + 1, 2, none⟩ v') := (Mods.refl _ W').put 2 v'
  have hbw : Below w.heap.size W' (W'.setCell ⟨w.heap.size + 1 + 1 + 1, 2, none⟩ v') := (Below.refl _ W').setCell (p := ⟨w.heap.size + 1 + 1 + 1, 2, none⟩) (by show _ ≤ w.heap.size + 1 + 1 + 1; omega) v'
  have hmd : Below w.heap.size Wq W := h.md.below (by omega) fun k hk => by unfold Is at hk; omega
  refine ⟨hfb, hq.blw.trans (hmd.trans ((hb.mono (by omega)).trans hbw)), (h.inp.below hb (by omega)).mods hm (fun e => by unfold Is at e; omega), ((hq.z2.mods h.md (fun e => by unfold Is at e; omega)).below hb (by omega)).mods hm (fun e => by unfold Is at e; omega), ((hq.z3.mods h.md (fun e => by unfold Is at e; omega)).below hb (by omega)).mods hm (fun e => by unfold Is at e; omega), hfb.put 2 v', h.ip.below (((hb.mono (by omega)).trans hbw).mono hB), vs ++ [vc], hsn.mods hm fun k h1 _ h2 => by unfold Is at h2; omega⟩

end

/-- What MFunc of the reference carries: the input, both results' blocks, the function with its blocks. -/
structure FHM (w : World) (B : Nat) (A : Option Addr) (c : Nat) (t : Ip) (a r sl : Int) (v : Value) (bs : List MBlk) (W : World) : Prop where
  blw : Below w.heap.size w W
  inp : Row W w.heap.size 55 #[.slice A t.rest.length c, .int .i64 t.err]
  z2 : Row W (w.heap.size + 1) 68 #[.int .i64 0, .int .i64 0, .int .i64 0, .slice none 0 0]
  z3 : Row W (w.heap.size + 1 + 1) 55 #[.slice none 0 0, .int .i64 0]
  fb : Row W (w.heap.size + 1 + 1 + 1) 68 #[.int .i64 a, .int .i64 r, .int .i64 sl, v]
  ip : IpV W B A c t
  nest : ∃ vs, NestV mshp W (w.heap.size + 1 + 1 + 1 + 1) v vs bs

section
variable {w : World} {B : Nat} {A A' : Option Addr} {c c' : Nat} {t t' : Ip} {a r sl : Int} {v v' : Value} {bs : List MBlk} {W W' : World}

theorem FHM.lo (h : FHM w B A c t a r sl v bs W) : w.heap.size + 1 + 1 + 1 < W.heap.size := h.fb.lt

theorem FHM.next (h : FHM w B A c t a r sl v bs W) (hb : Below W.heap.size W W') (hB : B ≤ w.heap.size) : FHM w B A c t a r sl v bs W' :=
  ⟨h.blw.trans (hb.mono h.blw.size), h.inp.below hb h.inp.lt, h.z2.below hb h.z2.lt, h.z3.below hb h.z3.lt, h.fb.below hb h.fb.lt, h.ip.below (hb.mono (Nat.le_trans hB h.blw.size)), let ⟨vs, hn⟩ := h.nest; ⟨vs, hn.below hb⟩⟩

theorem FHM.inpt (h : FHM w B A c t a r sl v bs W) (hI : IpV W B A' c' t') (hB : B ≤ w.heap.size) : FHM w B A' c' t' a r sl v bs ((W.setCell ⟨w.heap.size, 0, none⟩ (.slice A' t'.rest.length c')).setCell ⟨w.heap.size, 1, none⟩ (.int .i64 t'.err)) := by
  have hb : Below w.heap.size W ((W.setCell ⟨w.heap.size, 0, none⟩ (.slice A' t'.rest.length c')).setCell ⟨w.heap.size, 1, none⟩ (.int .i64 t'.err)) := ((Below.refl _ W).setCell (p := ⟨w.heap.size, 0, none⟩) (Nat.le_refl _) _).setCell (p := ⟨w.heap.size, 1, none⟩) (Nat.le_refl _) _
  have hm : Mods (Is w.heap.size) W ((W.setCell ⟨w.heap.size, 0, none⟩ (.slice A' t'.rest.length c')).setCell ⟨w.heap.size, 1, none⟩ (.int .i64 t'.err)) := ((Mods.refl _ W).put 0 _).put 1 _
  exact ⟨h.blw.trans hb, (h.inp.put 0 _).put 1 _, h.z2.mods hm (fun e => by unfold Is at e; omega), h.z3.mods hm (fun e => by unfold Is at e; omega), h.fb.mods hm (fun e => by unfold Is at e; omega), hI.below (hb.mono hB), let ⟨vs, hn⟩ := h.nest; ⟨vs, hn.mods hm fun k h1 _ h2 => by unfold Is at h2; omega⟩⟩

theorem FHM.fld (h : FHM w B A c t a r sl v bs W) (k : Nat) (u : Value) {a' r' sl' : Int} (e : (#[.int .i64 a, .int .i64 r, .int .i64 sl, v] : Array Value).setIfInBounds k u = #[.int .i64 a', .int .i64 r', .int .i64 sl', v]) (hB : B ≤ w.heap.size) : FHM w B A c t a' r' sl' v bs (W.setCell ⟨w.heap.size + 1 + 1 + 1, k, none⟩ u) := by
  have hb : Below w.heap.size W (W.setCell ⟨w.heap.size + 1 + 1 + 1, k, none⟩ u) := (Below.refl _ W).setCell (p := ⟨w.heap.size + 1 + 1 + 1, k, none⟩) (by show _ ≤ w.heap.size + 1 + 1 + 1; omega) u
  have hm : Mods (Is (w.heap.size + 1 + 1 + 1)) W (W.setCell ⟨w.heap.size + 1 + 1 + 1, k, none⟩ u) := (Mods.refl _ W).put k u
  have hp := h.fb.put k u
  rw [e] at hp
  exact ⟨h.blw.trans hb, h.inp.mods hm (fun e => by unfold Is at e; omega), h.z2.mods hm (fun e => by unfold Is at e; omega), h.z3.mods hm (fun e => by unfold Is at e; omega), hp, h.ip.below (hb.mono hB), let ⟨vs, hn⟩ := h.nest; ⟨vs, hn.mods hm fun k h1 _ h2 => by unfold Is at h2; omega⟩⟩

end

/-- What the loop over a block's instructions carries: the input, the block's box, its instructions; Wq is the world ahead of the block. -/
structure GHM (w Wq : World) (B : Nat) (A : Option Addr) (c : Nat) (t : Ip) (a r sl : Int) (v : Value) (bs : List MBlk) (vc : Value) (xs : List Mi) (W : World) : Prop where
  q : ∃ A0 c0 t0, FHM w B A0 c0 t0 a r sl v bs Wq
  md : Mods (Is w.heap.size) Wq W
  inp : Row W w.heap.size 55 #[.slice A t.rest.length c, .int .i64 t.err]
  ip : IpV W B A c t
  bb : Row W Wq.heap.size 109 #[vc, .int .i64 0, .int .i64 0, .int .i64 0, .int .i64 0]
  own : W.ownsRow Wq.heap.size 97 7 vc xs.length (xs.flatMap Mi.cells)

section
variable {w Wq : World} {B : Nat} {A A' : Option Addr} {c c' : Nat} {t t' : Ip} {a r sl : Int} {v vc v' : Value} {bs : List MBlk} {xs : List Mi} {W W' : World}

theorem GHM.lo (h : GHM w Wq B A c t a r sl v bs vc xs W) : w.heap.size + 1 + 1 + 1 < Wq.heap.size ∧ Wq.heap.size < W.heap.size := let ⟨_, _, _, hq⟩ := h.q; ⟨hq.fb.lt, h.bb.lt⟩

theorem GHM.blw (h : GHM w Wq B A c t a r sl v bs vc xs W) : Below w.heap.size w W := by
  obtain ⟨_, _, _, hq⟩ := h.q
  exact hq.blw.trans (h.md.below hq.blw.size fun k hk => by unfold Is at hk; omega)

theorem GHM.fb (h : GHM w Wq B A c t a r sl v bs vc xs W) : Row W (w.heap.size + 1 + 1 + 1) 68 #[.int .i64 a, .int .i64 r, .int .i64 sl, v] := by
  obtain ⟨_, _, _, hq⟩ := h.q
  exact hq.fb.mods h.md fun e => by unfold Is at e; omega

theorem GHM.next (h : GHM w Wq B A c t a r sl v bs vc xs W) (hb : Below W.heap.size W W') (hB : B ≤ w.heap.size) : GHM w Wq B A c t a r sl v bs vc xs W' :=
  ⟨h.q, h.md.trans (Mods.of_below hb), h.inp.below hb h.inp.lt, h.ip.below (hb.mono (Nat.le_trans hB h.blw.size)), h.bb.below hb h.bb.lt, (Mods.of_below (S := No) hb).ownS h.own fun _ _ hs => hs.elim⟩

theorem GHM.inpt (h : GHM w Wq B A c t a r sl v bs vc xs W) (hI : IpV W B A' c' t') (hB : B ≤ w.heap.size) : GHM w Wq B A' c' t' a r sl v bs vc xs ((W.setCell ⟨w.heap.size, 0, none⟩ (.slice A' t'.rest.length c')).setCell ⟨w.heap.size, 1, none⟩ (.int .i64 t'.err)) := by
  have hl := h.lo
  have hb : Below w.heap.size W ((W.setCell ⟨w.heap.size, 0, none⟩ (.slice A' t'.rest.length c')).setCell ⟨w.heap.size, 1, none⟩ (.int .i64 t'.err)) := ((Below.refl _ W).setCell (p := ⟨w.heap.size, 0, none⟩) (Nat.le_refl _) _).setCell (p := ⟨w.heap.size, 1, none⟩) (Nat.le_refl _) _
  have hm : Mods (Is w.heap.size) W ((W.setCell ⟨w.heap.size, 0, none⟩ (.slice A' t'.rest.length c')).setCell ⟨w.heap.size, 1, none⟩ (.int .i64 t'.err)) := ((Mods.refl _ W).put 0 _).put 1 _
  exact ⟨h.q, h.md.trans hm, (h.inp.put 0 _).put 1 _, hI.below (hb.mono hB), h.bb.mods hm (fun e => by unfold Is at e; omega), hm.ownS h.own fun k hk e => by have := ownS_lt h.own k hk; unfold Is at e; omega⟩

/-- An instruction has been appended. -/
theorem GHM.app (h : GHM w Wq B A c t a r sl v bs vc xs W) (hB : B ≤ w.heap.size) (x : Mi) {o : Obj} (ho : W'.ownsRow Wq.heap.size 97 7 v' (xs.length + 1) (xs.flatMap Mi.cells ++ Mi.cells x)) (hg : (W.alloc o).grownBy W' vc.ownBlock) :
    Row W' Wq.heap.size 109 #[vc, .int .i64 0, .int .i64 0, .int .i64 0, .int .i64 0] ∧ GHM w Wq B A c t a r sl v bs v' (xs ++ [x]) (W'.setCell ⟨Wq.heap.size, 0, none⟩ v') := by
  have hl := h.lo
  have hne := own_row_ne18 h.own h.bb (by decide)
  have hr : Row W' Wq.heap.size 109 #[vc, .int .i64 0, .int .i64 0, .int .i64 0, .int .i64 0] := (hg.block _ (by rw [World.size_alloc]; omega) (fun e => hne _ e.symm rfl)).trans (h.bb.alloc o)
  have hne2 := own_row_ne18 ho hr (by decide)
  have hm : Mods (fun k => vc.ownBlock = some k) W W' := ((Mods.refl _ W).alloc o).grown hg fun k hk => .inl hk
  have hms : Mods (Is Wq.heap.size) W' (W'.setCell ⟨Wq.heap.size, 0, none⟩ v') := (Mods.refl _ W').put 0 v'
  have hBel : Below w.heap.size W (W'.setCell ⟨Wq.heap.size, 0, none⟩ v') := (hm.below (B := w.heap.size) (by omega) fun k hk => by have := ownS_lt h.own k hk; omega).trans (hms.below (B := w.heap.size) (by have := hm.size; omega) fun k hk => by unfold Is at hk; omega)
  have hinp : Row W' w.heap.size 55 #[.slice A t.rest.length c, .int .i64 t.err] := h.inp.mods hm fun e => by have := ownS_lt h.own _ e; omega
  refine ⟨hr, h.q, ?_, hinp.mods hms (fun e => by unfold Is at e; omega), h.ip.below (hBel.mono hB), hr.put 0 v', ?_⟩
  · exact (h.md.then hm fun k hk => .inr (ownS_lt h.own k hk).1).then hms fun k hk => .inr (by unfold Is at hk; omega)
  · have := hms.ownS ho fun k hk e => hne2 k hk e
    rw [List.length_append, List.flatMap_append]
    simpa using this

end

/-- The block has been read: its terminator is stored. -/
structure THM (w Wq : World) (B : Nat) (A : Option Addr) (c : Nat) (t : Ip) (a r sl : Int) (v : Value) (bs : List MBlk) (vc : Value) (xs : List Mi) (tm : Tm) (W : World) : Prop where
  q : ∃ A0 c0 t0, FHM w B A0 c0 t0 a r sl v bs Wq
  md : Mods (Is w.heap.size) Wq W
  inp : Row W w.heap.size 55 #[.slice A t.rest.length c, .int .i64 t.err]
  ip : IpV W B A c t
  bb : Row W Wq.heap.size 109 #[vc, .int .i64 tm.kind, .int .i64 tm.a, .int .i64 tm.to, .int .i64 tm.el]
  own : W.ownsRow Wq.heap.size 97 7 vc xs.length (xs.flatMap Mi.cells)

section
variable {w Wq : World} {B : Nat} {A A' : Option Addr} {c c' : Nat} {t t' : Ip} {a r sl : Int} {v vc v' : Value} {bs : List MBlk} {xs : List Mi} {tm : Tm} {W W' : World}

theorem GHM.term (h : GHM w Wq B A c t a r sl v bs vc xs W) (tm : Tm) (hI : IpV W B A' c' t') (hB : B ≤ w.heap.size) :
    THM w Wq B A' c' t' a r sl v bs vc xs tm ((((((W.setCell ⟨Wq.heap.size, 1, none⟩ (.int .i64 tm.kind)).setCell ⟨Wq.heap.size, 2, none⟩ (.int .i64 tm.a)).setCell ⟨Wq.heap.size, 3, none⟩ (.int .i64 tm.to)).setCell ⟨Wq.heap.size, 4, none⟩ (.int .i64 tm.el)).setCell ⟨w.heap.size, 0, none⟩ (.slice A' t'.rest.length c')).setCell ⟨w.heap.size, 1, none⟩ (.int .i64 t'.err)) := by
  have hl := h.lo
  have hm1 : Mods (Is Wq.heap.size) W ((((W.setCell ⟨Wq.heap.size, 1, none⟩ (.int .i64 tm.kind)).setCell ⟨Wq.heap.size, 2, none⟩ (.int .i64 tm.a)).setCell ⟨Wq.heap.size, 3, none⟩ (.int .i64 tm.to)).setCell ⟨Wq.heap.size, 4, none⟩ (.int .i64 tm.el)) := ((((Mods.refl _ W).put 1 _).put 2 _).put 3 _).put 4 _
  have hr1 : Row ((((W.setCell ⟨Wq.heap.size, 1, none⟩ (.int .i64 tm.kind)).setCell ⟨Wq.heap.size, 2, none⟩ (.int .i64 tm.a)).setCell ⟨Wq.heap.size, 3, none⟩ (.int .i64 tm.to)).setCell ⟨Wq.heap.size, 4, none⟩ (.int .i64 tm.el)) Wq.heap.size 109 #[vc, .int .i64 tm.kind, .int .i64 tm.a, .int .i64 tm.to, .int .i64 tm.el] := (((h.bb.put 1 _).put 2 _).put 3 _).put 4 _
  have hne := own_row_ne18 h.own h.bb (by decide)
  have hI1 := hI.below (w' := ((((W.setCell ⟨Wq.heap.size, 1, none⟩ (.int .i64 tm.kind)).setCell ⟨Wq.heap.size, 2, none⟩ (.int .i64 tm.a)).setCell ⟨Wq.heap.size, 3, none⟩ (.int .i64 tm.to)).setCell ⟨Wq.heap.size, 4, none⟩ (.int .i64 tm.el))) (hm1.below (by omega) fun k hk => by unfold Is at hk; omega)
  generalize ((((W.setCell ⟨Wq.heap.size, 1, none⟩ (.int .i64 tm.kind)).setCell ⟨Wq.heap.size, 2, none⟩ (.int .i64 tm.a)).setCell ⟨Wq.heap.size, 3, none⟩ (.int .i64 tm.to)).setCell ⟨Wq.heap.size, 4, none⟩ (.int .i64 tm.el)) = V at *
  have hm2 : Mods (Is w.heap.size) V ((V.setCell ⟨w.heap.size, 0, none⟩ (.slice A' t'.rest.length c')).setCell ⟨w.heap.size, 1, none⟩ (.int .i64 t'.err)) := ((Mods.refl _ V).put 0 _).put 1 _
  have hi := h.inp.mods hm1 fun e => by unfold Is at e; omega
  have ho1 := hm1.ownS h.own fun k hk e => hne k hk e
  exact ⟨h.q, (h.md.then hm1 fun k hk => .inr (by unfold Is at hk; omega)).trans hm2, (hi.put 0 _).put 1 _, hI1.below (hm2.below (by have := hm1.size; have := hl.2; omega) fun k hk => by unfold Is at hk; omega), hr1.mods hm2 (fun e => by unfold Is at e; omega), hm2.ownS ho1 fun k hk e => by have := ownS_lt ho1 k hk; unfold Is at e; omega⟩

theorem THM.fb (h : THM w Wq B A c t a r sl v bs vc xs tm W) : Row W (w.heap.size + 1 + 1 + 1) 68 #[.int .i64 a, .int .i64 r, .int .i64 sl, v] := by
  obtain ⟨_, _, _, hq⟩ := h.q
  exact hq.fb.mods h.md fun e => by unfold Is at e; omega

theorem THM.nest (h : THM w Wq B A c t a r sl v bs vc xs tm W) : ∃ vs, NestV mshp Wq (w.heap.size + 1 + 1 + 1 + 1) v vs bs ∧ NestV mshp W (w.heap.size + 1 + 1 + 1 + 1) v vs bs := by
  obtain ⟨_, _, _, hq⟩ := h.q
  obtain ⟨vs, hn⟩ := hq.nest
  exact ⟨vs, hn, hn.mods h.md fun k h1 _ h2 => by unfold Is at h2; omega⟩

theorem THM.lo (h : THM w Wq B A c t a r sl v bs vc xs tm W) : w.heap.size + 1 + 1 + 1 < Wq.heap.size ∧ Wq.heap.size < W.heap.size := let ⟨_, _, _, hq⟩ := h.q; ⟨hq.fb.lt, h.bb.lt⟩

/-- The block has been appended. -/
theorem THM.app (h : THM w Wq B A c t a r sl v bs vc xs tm W) (hB : B ≤ w.heap.size) {vs : List Value} (hn : NestV mshp Wq (w.heap.size + 1 + 1 + 1 + 1) v vs bs) {o : Obj}
    (ho : W'.ownsRow (w.heap.size + 1 + 1 + 1 + 1) 109 5 v' (vs.length + 1) (((vs.zip bs).flatMap fun p => mshp.oc p.1 p.2) ++ mshp.oc vc ⟨xs, tm⟩)) (hg : (W.alloc o).grownBy W' v.ownBlock) :
    Row W' (w.heap.size + 1 + 1 + 1) 68 #[.int .i64 a, .int .i64 r, .int .i64 sl, v] ∧ FHM w B A c t a r sl v' (bs ++ [⟨xs, tm⟩]) (W'.setCell ⟨w.heap.size + 1 + 1 + 1, 3, none⟩ v') := by
  have hl := h.lo
  have hsn := hn.snoc (x := (⟨xs, tm⟩ : MBlk)) h.md (fun k hk => by unfold Is at hk; omega) (by omega) h.own o ho hg
  obtain ⟨_, _, _, hq⟩ := h.q
  have hon := (hn.mods h.md fun k h1 _ h2 => by unfold Is at h2; omega).outer
  have hb : Below (w.heap.size + 1 + 1 + 1 + 1) W W' := ((Below.refl _ W).alloc (by omega) o).grown hg (by rw [World.size_alloc]; omega) fun k hk => (ownS_lt hon k hk).1
  have hfb := h.fb.below hb (by omega)
  have hm : Mods (Is (w.heap.size + 1 + 1 + 1)) W' (W'.setCell ⟨w.heap.size + 1 + 1 + 1, 3, none⟩ v') := (Mods.refl _ W').put 3 v'
  have hbw : Below w.heap.size W' (W'.setCell ⟨w.heap.size + 1 + 1 + 1, 3, none⟩ v') := (Below.refl _ W').setCell (p := ⟨w.heap.size + 1 + 1 + 1, 3, none⟩) (by show _ ≤ w.heap.size + 1 + 1 + 1; omega) v'
  have hmd : Below w.heap.size Wq W := h.md.below (by omega) fun k hk => by unfold Is at hk; omega
  refine ⟨hfb, hq.blw.trans (hmd.trans ((hb.mono (by omega)).trans hbw)), (h.inp.below hb (by omega)).mods hm (fun e => by unfold Is at e; omega), ((hq.z2.mods h.md (fun e => by unfold Is at e; omega)).below hb (by omega)).mods hm (fun e => by unfold Is at e; omega), ((hq.z3.mods h.md (fun e => by unfold Is at e; omega)).below hb (by omega)).mods hm (fun e => by unfold Is at e; omega), hfb.put 3 v', h.ip.below (((hb.mono (by omega)).trans hbw).mono hB), vs ++ [vc], hsn.mods hm fun k h1 _ h2 => by unfold Is at h2; omega⟩

end

end Go.Proofs.Ytkapmfopfddmbaa

/-
  The reference of layer 18: put; what a call leaves of structs in boxes; lists of encodings, taken apart.
-/
namespace Go.Proofs.Ytkapmfopfddmbaa
open Go.RowKit
set_option linter.unusedVariables false
set_option linter.unusedSimpArgs false

/-- Every row whose cells are no bytes stays as it is. -/
def KT (W W' : World) : Prop := ∀ p T cs, 5 ≠ T → Row W p T cs → Row W' p T cs

section
variable {W W' W'' : World}

theorem KT.refl (W : World) : KT W W := fun _ _ _ _ h => h

theorem KT.trans (h : KT W W') (h' : KT W' W'') : KT W W'' := fun p T cs hT hr => h' p T cs hT (h p T cs hT hr)

theorem KT.of_below (hb : Below W.heap.size W W') : KT W W' := fun _ _ _ _ h => h.below hb h.lt

theorem KT.grown {lo n : Nat} {v : Value} {xs : List Value} (ho : W.ownsRow lo 5 1 v n xs) (hg : W.grownBy W' v.ownBlock) : KT W W' := fun p T cs hT hr => by
  refine (hg.block p hr.lt fun e => ?_).trans hr
  first | exact own_row_ne18 ho hr hT p e rfl | exact own_row_ne18 ho hr hT p e.symm rfl

end

/-- Encodings one behind the other: those ahead of one, with it, are no longer than all. -/
theorem fm_take_succ {α : Type} (f : α → List Nat) (l : List α) (k : Nat) (hk : k < l.length) : (l.take (k + 1)).flatMap f = (l.take k).flatMap f ++ f l[k] := by
  rw [List.take_succ_eq_append_getElem hk, List.flatMap_append, List.flatMap_cons, List.flatMap_nil, List.append_nil]

theorem fm_take_le {α : Type} (f : α → List Nat) (l : List α) (k : Nat) (hk : k < l.length) : ((l.take k).flatMap f).length + (f l[k]).length ≤ (l.flatMap f).length := by
  have h := congrArg List.length (congrArg (List.flatMap f) (List.take_append_drop (k + 1) l))
  rw [List.flatMap_append, fm_take_succ f l k hk, List.length_append, List.length_append] at h
  omega

/-- What an instruction must be to be written. -/
def PI (m : Mi) : Prop := (0 ≤ m.op ∧ m.op < 256) ∧ InI m.imm ∧ (uD m.op = true → 0 ≤ m.d ∧ m.d ≤ 9223372036854775807) ∧ (uA m.op = true → 0 ≤ m.a ∧ m.a ≤ 9223372036854775807) ∧ (uB m.op = true → 0 ≤ m.b ∧ m.b ≤ 9223372036854775807) ∧
  ((m.op == 18) = true → 0 ≤ m.dst ∧ m.dst ≤ 9223372036854775807) ∧ ((m.op == 18) = true → 0 ≤ m.src ∧ m.src ≤ 9223372036854775807)

def PT (t : Tm) : Prop := (0 ≤ t.kind ∧ t.kind < 256) ∧ ((t.kind != 1) = true → 0 ≤ t.a ∧ t.a ≤ 9223372036854775807) ∧ ((t.kind != 3) = true → 0 ≤ t.to ∧ t.to ≤ 9223372036854775807) ∧ ((t.kind == 2) = true → 0 ≤ t.el ∧ t.el ≤ 9223372036854775807)

def PB (x : Blk) : Prop := (∀ y ∈ x.code, PI (inM y)) ∧ PT x.term

def PMB (x : MBlk) : Prop := (∀ y ∈ x.code, PI y) ∧ PT x.term

theorem bl_nil (w : World) : BL w (.slice none 0 0) [] w := ⟨⟨rfl, .inl ⟨rfl, rfl⟩⟩, Below.refl _ _⟩

end Go.Proofs.Ytkapmfopfddmbaa

/-
  What is written is read back, and what is cut off is short: layer 18, on data.
-/
namespace Go.Proofs.Ytkapmfopfddmbaa
open Go.RowKit
set_option linter.unusedVariables false

/-- What a reading gives of the first j bytes of p ++ q, where p stands for v: v, or too few bytes. -/
def Gt {α : Type} (r : α × Ip) (v : α) (p q : List Nat) (j : Nat) : Prop :=
  (p.length ≤ j ∧ r = (v, ⟨q.take (j - p.length), 0⟩)) ∨ (j < (p ++ q).length ∧ r.2.err = 1)

theorem Gt.full {α : Type} {f : Ip → α × Ip} {v : α} {p q : List Nat} (h : Gt (f ⟨(p ++ q).take (p ++ q).length, 0⟩) v p q (p ++ q).length) : f ⟨p ++ q, 0⟩ = (v, ⟨q, 0⟩) := by
  rcases h with ⟨_, h⟩ | ⟨h, _⟩
  · rw [List.take_length, List.length_append, Nat.add_sub_cancel_left, List.take_length] at h
    exact h
  · omega

theorem Gt.cut {α : Type} {f : Ip → α × Ip} {v : α} {p : List Nat} {j : Nat} (h : Gt (f ⟨(p ++ []).take j, 0⟩) v p [] j) (hj : j < p.length) : (f ⟨p.take j, 0⟩).2.err = 1 := by
  rw [List.append_nil] at h
  rcases h with ⟨h, _⟩ | ⟨_, h⟩
  · omega
  · exact h

theorem Cuts.gt {f : Ip → Int × Ip} {p : List Nat} {v : Int} (h : Cuts f p v) (q : List Nat) (j : Nat) : Gt (f ⟨(p ++ q).take j, 0⟩) v p q j := by
  rcases h.at_ q j with ⟨hj, e⟩ | ⟨hj, e⟩
  · exact .inr ⟨by rw [List.length_append]; omega, by rw [e]⟩
  · exact .inl ⟨hj, e⟩

theorem sizeE_gt {v : Int} (h0 : 0 ≤ v) (h1 : v ≤ 1048576) (q : List Nat) (j : Nat) : Gt (sizeE ⟨(putS v.toNat ++ q).take j, 0⟩) v (putS v.toNat) q j :=
  (numE_cuts (bd := 1048577) (why := 6) h0 (by omega) (by omega)).gt q j

theorem cntE_gt {k v : Int} (hk : 0 < k) (h0 : 0 ≤ v) (h1 : v ≤ 1048576) (q : List Nat) (j : Nat) (hq : v * k ≤ (q.length : Int)) : Gt (cntE k ⟨(putS v.toNat ++ q).take j, 0⟩) v (putS v.toNat) q j := by
  rcases sizeE_gt h0 h1 q j with ⟨hj, e⟩ | ⟨hj, e⟩
  · unfold cntE
    rw [e]
    dsimp only
    by_cases hc : ((q.take (j - (putS v.toNat).length)).length : Int) / k < v
    · rw [if_pos ⟨rfl, hc⟩]
      refine .inr ⟨?_, rfl⟩
      rw [List.length_append]
      by_cases hh : (putS v.toNat).length + q.length ≤ j
      · rw [List.take_of_length_le (by omega)] at hc
        have := Int.lt_mul_of_ediv_lt hk hc
        omega
      · omega
    · rw [if_neg fun hh => hc hh.2]
      exact .inl ⟨hj, rfl⟩
  · refine .inr ⟨hj, ?_⟩
    unfold cntE
    rw [if_neg fun hh => by rw [e] at hh; exact absurd hh.1 (by decide)]
    exact e

theorem nblkE_gt {v : Int} (h0 : 1 ≤ v) (h1 : v ≤ 1048576) (q : List Nat) (j : Nat) (hq : v * 3 ≤ (q.length : Int)) : Gt (nblkE ⟨(putS v.toNat ++ q).take j, 0⟩) v (putS v.toNat) q j := by
  rcases cntE_gt (k := 3) (by decide) (by omega) h1 q j hq with ⟨hj, e⟩ | ⟨hj, e⟩
  · refine .inl ⟨hj, ?_⟩
    unfold nblkE
    rw [e, if_neg (by dsimp only; omega)]
  · refine .inr ⟨hj, ?_⟩
    unfold nblkE
    split
    · dsimp only
      rw [failE_keep (by rw [e]; decide)]
      exact e
    · exact e

theorem codeE_gt {tot v : Int} (h0 : 0 ≤ v) (h1 : tot + v ≤ 1048576) (ht : 0 ≤ tot) (q : List Nat) (j : Nat) (hq : v * 2 ≤ (q.length : Int)) : Gt (codeE tot ⟨(putS v.toNat ++ q).take j, 0⟩) v (putS v.toNat) q j := by
  rcases cntE_gt (k := 2) (by decide) h0 (by omega) q j hq with ⟨hj, e⟩ | ⟨hj, e⟩
  · refine .inl ⟨hj, ?_⟩
    unfold codeE
    rw [e, if_neg (by dsimp only; omega)]
  · refine .inr ⟨hj, ?_⟩
    unfold codeE
    split
    · dsimp only
      rw [failE_keep (by rw [e]; decide)]
      exact e
    · exact e

theorem instrE_cut {regs : Int} {m : Mi} (hd : m.dst = 0) (hs : m.src = 0) (h : eI m.ins regs = 0) (hi : InI m.imm) (hr : regs ≤ 1000000000) {j : Nat} (hj : j < (encM m).length) : instrE regs ⟨(encM m).take j, 0⟩ = (Mi0, ⟨[], 1⟩) := by
  obtain ⟨⟨h1, h2⟩, hm⟩ := (eI_iff (n := 0) hd hs).1 h
  rw [encM_eq] at hj ⊢
  rcases j with _ | j
  · rfl
  · rw [List.take_succ_cons]
    unfold instrE
    rw [firstE_put h1 h2 (by omega), if_neg (by simp)]
    have hj : j < (encF m).length := by simpa using hj
    rcases readE_at hm hi hr (by omega) [] j with ⟨g, e⟩ | ⟨g, _⟩
    · rw [List.append_nil] at e
      exact e
    · omega

theorem instrE_gt {regs : Int} {m : Mi} (hd : m.dst = 0) (hs : m.src = 0) (h : eI m.ins regs = 0) (hi : InI m.imm) (hr : regs ≤ 1000000000) (q : List Nat) (j : Nat) : Gt (instrE regs ⟨(encM m ++ q).take j, 0⟩) m (encM m) q j := by
  by_cases hj : j < (encM m).length
  · refine .inr ⟨by rw [List.length_append]; omega, ?_⟩
    rw [List.take_append_of_le_length (by omega), instrE_cut hd hs h hi hr hj]
  · refine .inl ⟨by omega, ?_⟩
    rw [List.take_append, List.take_of_length_le (by omega)]
    exact instrE_put hd hs h hi hr _

theorem machE_gt {regs n : Int} {m : Mi} (h : eM m regs n = 0) (hi : InI m.imm) (hr : regs ≤ 1000000000) (hn : n ≤ 1000000000) (q : List Nat) (j : Nat) : Gt (machE regs n ⟨(encM m ++ q).take j, 0⟩) m (encM m) q j := by
  by_cases hj : j < (encM m).length
  · refine .inr ⟨by rw [List.length_append]; omega, ?_⟩
    rw [List.take_append_of_le_length (by omega), machE_cut h hi hr hn hj]
  · refine .inl ⟨by omega, ?_⟩
    rw [List.take_append, List.take_of_length_le (by omega)]
    exact machE_put h hi hr hn _

theorem termE_gt {regs n : Int} {t : Tm} (h : eT t regs n = 0) (hr : regs ≤ 1000000000) (hn : n ≤ 1000000000) (q : List Nat) (j : Nat) : Gt (termE regs n ⟨(encT t ++ q).take j, 0⟩) t (encT t) q j := by
  by_cases hj : (encT t).length ≤ j
  · refine .inl ⟨hj, ?_⟩
    rw [List.take_append, List.take_of_length_le hj]
    exact termE_put h hr hn _
  refine .inr ⟨by rw [List.length_append]; omega, ?_⟩
  rw [List.take_append_of_le_length (by omega)]
  obtain ⟨⟨k1, k2⟩, r1, r2, r3, z1, z2, z3⟩ := eT_iff.1 h
  have C1 := optE_cuts (why := 9) r1 z1 (by omega)
  have C2 := optE_cuts (why := 11) r2 z2 (by omega)
  have C3 := optE_cuts (why := 11) r3 z3 (by omega)
  have fin : ∀ s, (teE regs n s).2.err = 1 → (termE regs n s).2.err = 1 := fun s hs => by
    unfold termE
    rw [if_pos (by rw [hs]; decide)]
    exact hs
  refine fin _ ?_
  rcases j with _ | j
  · have e0 : tkE ⟨(encT t).take 0, 0⟩ = (0, ⟨[], 1⟩) := rfl
    have e1 : taE regs ⟨(encT t).take 0, 0⟩ = (0, ⟨[], 1⟩) := by unfold taE; rw [e0]; exact optE_err (by decide)
    have e2 : ttE regs n ⟨(encT t).take 0, 0⟩ = (0, ⟨[], 1⟩) := by unfold ttE; rw [e1]; exact optE_err (by decide)
    unfold teE
    rw [e2, optE_err (by decide)]
  · have hj' : j < (encO (t.kind != 1) t.a ++ (encO (t.kind != 3) t.to ++ encO (t.kind == 2) t.el)).length := by
      unfold encT at hj
      rw [List.length_cons] at hj
      omega
    have e0 : tkE ⟨(encT t).take (j + 1), 0⟩ = (t.kind, ⟨(encO (t.kind != 1) t.a ++ (encO (t.kind != 3) t.to ++ encO (t.kind == 2) t.el)).take j, 0⟩) := by
      unfold tkE encT
      rw [List.take_succ_cons, firstE_put k1 k2 (by omega)]
    rcases C1.at_ (encO (t.kind != 3) t.to ++ encO (t.kind == 2) t.el) j with ⟨g1, e1⟩ | ⟨g1, e1⟩
    · have e1' : taE regs ⟨(encT t).take (j + 1), 0⟩ = (0, ⟨[], 1⟩) := by unfold taE; rw [e0]; exact e1
      have e2' : ttE regs n ⟨(encT t).take (j + 1), 0⟩ = (0, ⟨[], 1⟩) := by unfold ttE; rw [e1']; exact optE_err (by decide)
      unfold teE
      rw [e2', optE_err (by decide)]
    · have e1' : taE regs ⟨(encT t).take (j + 1), 0⟩ = (t.a, ⟨(encO (t.kind != 3) t.to ++ encO (t.kind == 2) t.el).take (j - (encO (t.kind != 1) t.a).length), 0⟩) := by unfold taE; rw [e0]; exact e1
      rcases C2.at_ (encO (t.kind == 2) t.el) (j - (encO (t.kind != 1) t.a).length) with ⟨g2, e2⟩ | ⟨g2, e2⟩
      · have e2' : ttE regs n ⟨(encT t).take (j + 1), 0⟩ = (0, ⟨[], 1⟩) := by unfold ttE; rw [e1', e0]; exact e2
        unfold teE
        rw [e2', optE_err (by decide)]
      · have e2' : ttE regs n ⟨(encT t).take (j + 1), 0⟩ = (t.to, ⟨(encO (t.kind == 2) t.el).take (j - (encO (t.kind != 1) t.a).length - (encO (t.kind != 3) t.to).length), 0⟩) := by unfold ttE; rw [e1', e0]; exact e2
        have h3 : j - (encO (t.kind != 1) t.a).length - (encO (t.kind != 3) t.to).length < (encO (t.kind == 2) t.el).length := by
          rw [List.length_append, List.length_append] at hj'
          omega
        have e3 := C3.cut _ h3
        unfold teE
        rw [e2', e0]
        show (optE (t.kind == 2) n 11 _).2.err = 1
        rw [e3]

/-- Lengths: an instruction has two bytes at least, a block three. -/
theorem encM_two {m : Mi} (h : 1 ≤ m.op ∧ m.op ≤ 18) : 2 ≤ (encM m).length := by
  rcases (by omega : m.op ≤ 16 ∨ m.op = 17 ∨ m.op = 18) with h1 | h1 | h1
  · have hd : uD m.op = true := decide_eq_true ⟨h.1, h1⟩
    have := putS_pos m.d.toNat
    unfold encM
    rw [hd]
    simp only [List.length_cons, List.length_append, encO, if_true]
    omega
  · have hd : uA m.op = true := decide_eq_true ⟨by omega, by omega⟩
    have := putS_pos m.a.toNat
    unfold encM
    rw [hd]
    simp only [List.length_cons, List.length_append, encO, if_true]
    omega
  · have hd : (m.op == 18) = true := by rw [h1]; rfl
    have := putS_pos m.dst.toNat
    unfold encM
    rw [hd]
    simp only [List.length_cons, List.length_append, encO, if_true]
    omega

theorem encT_two {t : Tm} (h : 1 ≤ t.kind ∧ t.kind ≤ 3) : 2 ≤ (encT t).length := by
  by_cases h1 : t.kind = 1
  · have hd : (t.kind != 3) = true := by rw [h1]; rfl
    have := putS_pos t.to.toNat
    unfold encT
    rw [hd]
    simp only [List.length_cons, List.length_append, encO, if_true]
    omega
  · have hd : (t.kind != 1) = true := by simpa using h1
    have := putS_pos t.a.toNat
    unfold encT
    rw [hd]
    simp only [List.length_cons, List.length_append, encO, if_true]
    omega

theorem encC_two {regs : Int} : ∀ (xs : List In), (∀ x ∈ xs, eI x regs = 0) → xs.length * 2 ≤ (encC xs).length
  | [], _ => Nat.zero_le _
  | x :: r, h => by
    have := encC_two r fun y hy => h y (List.mem_cons_of_mem _ hy)
    obtain ⟨⟨o1, o2⟩, _⟩ := (eI_iff (m := inM x) (n := 0) rfl rfl).1 (h x List.mem_cons_self)
    have h2 := encM_two (m := inM x) ⟨o1, by omega⟩
    show (r.length + 1) * 2 ≤ (encM (inM x) ++ encC r).length
    rw [List.length_append]
    omega

theorem encK_two {regs n : Int} : ∀ (xs : List Mi), (∀ x ∈ xs, eM x regs n = 0) → xs.length * 2 ≤ (encK xs).length
  | [], _ => Nat.zero_le _
  | x :: r, h => by
    have := encK_two r fun y hy => h y (List.mem_cons_of_mem _ hy)
    obtain ⟨⟨o1, o2, _⟩, _⟩ := eM_iff.1 (h x List.mem_cons_self)
    have h2 := encM_two (m := x) ⟨o1, o2⟩
    show (r.length + 1) * 2 ≤ (encM x ++ encK r).length
    rw [List.length_append]
    omega

theorem eIs_all {regs : Int} : ∀ {xs : List In}, eIs regs xs = 0 → ∀ x ∈ xs, eI x regs = 0
  | [], _ => fun x hx => by cases hx
  | y :: r, h => fun x hx => by
    have h' : (if eI y regs = 0 then eIs regs r else eI y regs) = 0 := h
    by_cases hy : eI y regs = 0
    · rw [if_pos hy] at h'
      rcases List.mem_cons.1 hx with rfl | hx
      · exact hy
      · exact eIs_all h' x hx
    · rw [if_neg hy] at h'
      exact absurd h' hy

theorem eCd_all {regs slots : Int} : ∀ {run : Nat} {xs : List Mi}, eCd regs slots run xs = 0 → ∀ x ∈ xs, eM x regs slots = 0
  | _, [], _ => fun x hx => by cases hx
  | run, y :: r, h => fun x hx => by
    have h' : (if eM y regs slots = 0 then if 64 < ext run y then 15 else eCd regs slots (ext run y) r else eM y regs slots) = 0 := h
    by_cases hy : eM y regs slots = 0
    · rw [if_pos hy] at h'
      rcases List.mem_cons.1 hx with rfl | hx
      · exact hy
      · by_cases hx' : 64 < ext run y
        · rw [if_pos hx'] at h'; cases h'
        · rw [if_neg hx'] at h'
          exact eCd_all h' x hx
    · rw [if_neg hy] at h'
      exact absurd h' hy

theorem insE_gt {regs : Int} (hr : regs ≤ 1000000000) : ∀ (xs : List In), (∀ x ∈ xs, eI x regs = 0 ∧ InI x.imm) → ∀ (q : List Nat) (j : Nat), Gt (insE regs xs.length ⟨(encC xs ++ q).take j, 0⟩) xs (encC xs) q j
  | [], _, q, j => .inl ⟨Nat.zero_le _, rfl⟩
  | x :: r, h, q, j => by
    obtain ⟨h1, h2⟩ := h x List.mem_cons_self
    have e0 : encC (x :: r) ++ q = encM (inM x) ++ (encC r ++ q) := by
      show (encM (inM x) ++ encC r) ++ q = _
      rw [List.append_assoc]
    have el : (encC (x :: r)).length = (encM (inM x)).length + (encC r).length := by
      show (encM (inM x) ++ encC r).length = _
      rw [List.length_append]
    have g := instrE_gt (m := inM x) rfl rfl h1 h2 hr (encC r ++ q) j
    rw [← e0] at g
    have e : insE regs (x :: r).length ⟨(encC (x :: r) ++ q).take j, 0⟩ = ((instrE regs ⟨(encC (x :: r) ++ q).take j, 0⟩).1.ins :: (insE regs r.length (instrE regs ⟨(encC (x :: r) ++ q).take j, 0⟩).2).1, (insE regs r.length (instrE regs ⟨(encC (x :: r) ++ q).take j, 0⟩).2).2) := if_neg fun hh => hh rfl
    rw [e]
    rcases g with ⟨g1, g2⟩ | ⟨g1, g2⟩
    · rw [g2]
      dsimp only
      rcases insE_gt hr r (fun y hy => h y (List.mem_cons_of_mem _ hy)) q (j - (encM (inM x)).length) with ⟨k1, k2⟩ | ⟨k1, k2⟩
      · refine .inl ⟨by omega, ?_⟩
        rw [k2, el, ← Nat.sub_sub]
        rfl
      · refine .inr ⟨?_, k2⟩
        rw [List.length_append] at k1 ⊢
        omega
    · refine .inr ⟨by rw [e0]; exact g1, ?_⟩
      rw [insE_err (by rw [g2]; decide)]
      exact g2

theorem miE_gt {regs slots : Int} (hr : regs ≤ 1000000000) (hn : slots ≤ 1000000000) : ∀ (xs : List Mi) (run : Nat), eCd regs slots run xs = 0 → (∀ x ∈ xs, InI x.imm) → ∀ (q : List Nat) (j : Nat), Gt (miE regs slots xs.length run ⟨(encK xs ++ q).take j, 0⟩) xs (encK xs) q j
  | [], _, _, _, q, j => .inl ⟨Nat.zero_le _, rfl⟩
  | x :: r, run, hc, h, q, j => by
    have h1 := eCd_all hc x List.mem_cons_self
    have h2 := h x List.mem_cons_self
    have hc' : (if eM x regs slots = 0 then if 64 < ext run x then 15 else eCd regs slots (ext run x) r else eM x regs slots) = 0 := hc
    rw [if_pos h1] at hc'
    have hx : ¬ 64 < ext run x := fun hh => by rw [if_pos hh] at hc'; cases hc'
    rw [if_neg hx] at hc'
    have e0 : encK (x :: r) ++ q = encM x ++ (encK r ++ q) := by
      show (encM x ++ encK r) ++ q = _
      rw [List.append_assoc]
    have el : (encK (x :: r)).length = (encM x).length + (encK r).length := by
      show (encM x ++ encK r).length = _
      rw [List.length_append]
    have g := machE_gt (m := x) h1 h2 hr hn (encK r ++ q) j
    rw [← e0] at g
    have e : miE regs slots (x :: r).length run ⟨(encK (x :: r) ++ q).take j, 0⟩ = ((machE regs slots ⟨(encK (x :: r) ++ q).take j, 0⟩).1 :: (miE regs slots r.length (ext run (machE regs slots ⟨(encK (x :: r) ++ q).take j, 0⟩).1) (mvE run (machE regs slots ⟨(encK (x :: r) ++ q).take j, 0⟩).1 (machE regs slots ⟨(encK (x :: r) ++ q).take j, 0⟩).2)).1, (miE regs slots r.length (ext run (machE regs slots ⟨(encK (x :: r) ++ q).take j, 0⟩).1) (mvE run (machE regs slots ⟨(encK (x :: r) ++ q).take j, 0⟩).1 (machE regs slots ⟨(encK (x :: r) ++ q).take j, 0⟩).2)).2) := if_neg fun hh => hh rfl
    rw [e]
    rcases g with ⟨g1, g2⟩ | ⟨g1, g2⟩
    · rw [g2]
      dsimp only
      rw [show ∀ t, mvE run x t = t from fun t => if_neg hx]
      rcases miE_gt hr hn r (ext run x) hc' (fun y hy => h y (List.mem_cons_of_mem _ hy)) q (j - (encM x).length) with ⟨k1, k2⟩ | ⟨k1, k2⟩
      · refine .inl ⟨by omega, ?_⟩
        rw [k2, el, ← Nat.sub_sub]
      · refine .inr ⟨?_, k2⟩
        rw [List.length_append] at k1 ⊢
        omega
    · refine .inr ⟨by rw [e0]; exact g1, ?_⟩
      have hm : ∀ (m : Mi) (t : Ip), t.err = 1 → mvE run m t = t := fun m t ht => by
        unfold mvE
        split
        · exact failE_keep (by rw [ht]; decide)
        · rfl
      rw [hm _ _ g2, miE_err (by rw [g2]; decide)]
      exact g2

end Go.Proofs.Ytkapmfopfddmbaa

/-
  What is written is read back, and what is cut off is short: blocks and functions (made by wip/lab/genfcgt.py).
-/
namespace Go.Proofs.Ytkapmfopfddmbaa
open Go.RowKit
set_option linter.unusedVariables false

theorem blksE_gt {regs n : Int} (hr : regs ≤ 1000000000) (hn : n ≤ 1000000000) : ∀ (bs : List Blk) (tot : Int), 0 ≤ tot → tot + (codeN bs : Int) ≤ 1048576 → eBs regs n bs = 0 → (∀ b ∈ bs, ∀ x ∈ b.code, InI x.imm) → ∀ (q : List Nat) (j : Nat), Gt (blksE regs n bs.length tot ⟨(encBs bs ++ q).take j, 0⟩) bs (encBs bs) q j
  | [], _, _, _, _, _, q, j => .inl ⟨Nat.zero_le _, rfl⟩
  | b :: r, tot, ht, hc, he, hi, q, j => by
    have he' : (if eB b regs n = 0 then eBs regs n r else eB b regs n) = 0 := he
    have hb : eB b regs n = 0 := by
      by_cases h9 : eB b regs n = 0
      · exact h9
      · rw [if_neg h9] at he'; exact he'
    rw [if_pos hb] at he'
    have hI : eIs regs b.code = 0 := by
      by_cases h9 : eIs regs b.code = 0
      · exact h9
      · unfold eB at hb; rw [if_neg h9] at hb; exact hb
    have hT : eT b.term regs n = 0 := by unfold eB at hb; rw [if_pos hI] at hb; exact hb
    have hall := eIs_all hI
    rw [codeN_cons] at hc
    have e0 : encBs (b :: r) ++ q = putS (b.code.length : Int).toNat ++ (encC b.code ++ (encT b.term ++ (encBs r ++ q))) := by
      show (encB b ++ encBs r) ++ q = _
      unfold encB
      simp only [List.append_assoc, Int.toNat_natCast]
    have el : (encBs (b :: r)).length = (putS (b.code.length : Int).toNat).length + (encC b.code).length + (encT b.term).length + (encBs r).length := by
      show (encB b ++ encBs r).length = _
      unfold encB
      simp only [List.length_append, Int.toNat_natCast]
      omega
    have el2 : (encBs (b :: r) ++ q).length = (encBs (b :: r)).length + q.length := List.length_append
    have e : ∀ s : Ip, s.err = 0 → blksE regs n (b :: r).length tot s = (⟨(blkI regs tot s).1, (blkT regs n tot s).1⟩ :: (blksE regs n r.length (tot + blkK tot s) (blkT regs n tot s).2).1, (blksE regs n r.length (tot + blkK tot s) (blkT regs n tot s).2).2) := fun s hs => if_neg fun hh => hh hs
    have hfin : ∀ s : Ip, s.err = 0 → (blkT regs n tot s).2.err = 1 → (blksE regs n (b :: r).length tot s).2.err = 1 := fun s hs h9 => by
      rw [e s hs]
      dsimp only
      rw [blksE_err (by rw [h9]; decide)]
      exact h9
    have g := codeE_gt (tot := tot) (v := (b.code.length : Int)) (by omega) (by omega) ht (encC b.code ++ (encT b.term ++ (encBs r ++ q))) j (by
      have := encC_two b.code hall
      rw [List.length_append]
      omega)
    rw [← e0] at g
    obtain ⟨s, hs⟩ : ∃ s : Ip, s = ⟨(encBs (b :: r) ++ q).take j, 0⟩ := ⟨_, rfl⟩
    rw [← hs] at g ⊢
    have hs0 : s.err = 0 := by rw [hs]
    have ef : (putS (b.code.length : Int).toNat ++ (encC b.code ++ (encT b.term ++ (encBs r ++ q)))).length = (encBs (b :: r)).length + q.length := by rw [← e0, el2]
    rcases g with ⟨g1, g2⟩ | ⟨g1, g2⟩
    · have hK : blkK tot s = (b.code.length : Int) := by unfold blkK; rw [g2]
      have hblkI : blkI regs tot s = insE regs b.code.length ⟨(encC b.code ++ (encT b.term ++ (encBs r ++ q))).take (j - (putS (b.code.length : Int).toNat).length), 0⟩ := by
        unfold blkI
        rw [g2]
        rfl
      rcases insE_gt hr b.code (fun x hx => ⟨hall x hx, hi b List.mem_cons_self x hx⟩) (encT b.term ++ (encBs r ++ q)) (j - (putS (b.code.length : Int).toNat).length) with ⟨i1, i2⟩ | ⟨i1, i2⟩
      · rw [← hblkI] at i2
        have hblkT : blkT regs n tot s = termE regs n ⟨(encT b.term ++ (encBs r ++ q)).take (j - (putS (b.code.length : Int).toNat).length - (encC b.code).length), 0⟩ := by
          unfold blkT
          rw [i2]
        rcases termE_gt hT hr hn (encBs r ++ q) (j - (putS (b.code.length : Int).toNat).length - (encC b.code).length) with ⟨k1, k2⟩ | ⟨k1, k2⟩
        · rw [← hblkT] at k2
          rcases blksE_gt hr hn r (tot + (b.code.length : Int)) (by omega) (by omega) he' (fun y hy => hi y (List.mem_cons_of_mem _ hy)) q (j - (putS (b.code.length : Int).toNat).length - (encC b.code).length - (encT b.term).length) with ⟨m1, m2⟩ | ⟨m1, m2⟩
          · refine .inl ⟨by omega, ?_⟩
            rw [e s hs0, hK, k2]
            dsimp only
            rw [m2, i2, el]
            dsimp only
            rw [show j - ((putS (b.code.length : Int).toNat).length + (encC b.code).length + (encT b.term).length + (encBs r).length) = j - (putS (b.code.length : Int).toNat).length - (encC b.code).length - (encT b.term).length - (encBs r).length by omega]
          · refine .inr ⟨?_, ?_⟩
            · rw [List.length_append] at m1
              omega
            · rw [e s hs0, hK, k2]
              exact m2
        · rw [← hblkT] at k2
          refine .inr ⟨?_, hfin s hs0 k2⟩
          rw [List.length_append, List.length_append] at k1
          omega
      · rw [← hblkI] at i2
        refine .inr ⟨?_, hfin s hs0 ?_⟩
        · rw [List.length_append, List.length_append, List.length_append] at i1
          omega
        · unfold blkT
          rw [termE_err (by rw [i2]; decide)]
          exact i2
    · refine .inr ⟨by rw [← e0] at g1; exact g1, hfin s hs0 ?_⟩
      have hblkI : (blkI regs tot s).2.err = 1 := by
        unfold blkI
        rw [insE_err (by rw [g2]; decide)]
        exact g2
      unfold blkT
      rw [termE_err (by rw [hblkI]; decide)]
      exact hblkI

theorem mblksE_gt {regs slots n : Int} (hr : regs ≤ 1000000000) (hsl : slots ≤ 1000000000) (hn : n ≤ 1000000000) : ∀ (bs : List MBlk) (tot : Int), 0 ≤ tot → tot + (mcodeN bs : Int) ≤ 1048576 → eMBs regs slots n bs = 0 → (∀ b ∈ bs, ∀ x ∈ b.code, InI x.imm) → ∀ (q : List Nat) (j : Nat), Gt (mblksE regs slots n bs.length tot ⟨(encMBs bs ++ q).take j, 0⟩) bs (encMBs bs) q j
  | [], _, _, _, _, _, q, j => .inl ⟨Nat.zero_le _, rfl⟩
  | b :: r, tot, ht, hc, he, hi, q, j => by
    have he' : (if eMB b regs slots n = 0 then eMBs regs slots n r else eMB b regs slots n) = 0 := he
    have hb : eMB b regs slots n = 0 := by
      by_cases h9 : eMB b regs slots n = 0
      · exact h9
      · rw [if_neg h9] at he'; exact he'
    rw [if_pos hb] at he'
    have hI : eCd regs slots 0 b.code = 0 := by
      by_cases h9 : eCd regs slots 0 b.code = 0
      · exact h9
      · unfold eMB at hb; rw [if_neg h9] at hb; exact hb
    have hT : eT b.term regs n = 0 := by unfold eMB at hb; rw [if_pos hI] at hb; exact hb
    have hall := eCd_all hI
    rw [mcodeN_cons] at hc
    have e0 : encMBs (b :: r) ++ q = putS (b.code.length : Int).toNat ++ (encK b.code ++ (encT b.term ++ (encMBs r ++ q))) := by
      show (encMB b ++ encMBs r) ++ q = _
      unfold encMB
      simp only [List.append_assoc, Int.toNat_natCast]
    have el : (encMBs (b :: r)).length = (putS (b.code.length : Int).toNat).length + (encK b.code).length + (encT b.term).length + (encMBs r).length := by
      show (encMB b ++ encMBs r).length = _
      unfold encMB
      simp only [List.length_append, Int.toNat_natCast]
      omega
    have el2 : (encMBs (b :: r) ++ q).length = (encMBs (b :: r)).length + q.length := List.length_append
    have e : ∀ s : Ip, s.err = 0 → mblksE regs slots n (b :: r).length tot s = (⟨(mblkI regs slots tot s).1, (mblkT regs slots n tot s).1⟩ :: (mblksE regs slots n r.length (tot + blkK tot s) (mblkT regs slots n tot s).2).1, (mblksE regs slots n r.length (tot + blkK tot s) (mblkT regs slots n tot s).2).2) := fun s hs => if_neg fun hh => hh hs
    have hfin : ∀ s : Ip, s.err = 0 → (mblkT regs slots n tot s).2.err = 1 → (mblksE regs slots n (b :: r).length tot s).2.err = 1 := fun s hs h9 => by
      rw [e s hs]
      dsimp only
      rw [mblksE_err (by rw [h9]; decide)]
      exact h9
    have g := codeE_gt (tot := tot) (v := (b.code.length : Int)) (by omega) (by omega) ht (encK b.code ++ (encT b.term ++ (encMBs r ++ q))) j (by
      have := encK_two b.code hall
      rw [List.length_append]
      omega)
    rw [← e0] at g
    obtain ⟨s, hs⟩ : ∃ s : Ip, s = ⟨(encMBs (b :: r) ++ q).take j, 0⟩ := ⟨_, rfl⟩
    rw [← hs] at g ⊢
    have hs0 : s.err = 0 := by rw [hs]
    have ef : (putS (b.code.length : Int).toNat ++ (encK b.code ++ (encT b.term ++ (encMBs r ++ q)))).length = (encMBs (b :: r)).length + q.length := by rw [← e0, el2]
    rcases g with ⟨g1, g2⟩ | ⟨g1, g2⟩
    · have hK : blkK tot s = (b.code.length : Int) := by unfold blkK; rw [g2]
      have hmblkI : mblkI regs slots tot s = miE regs slots b.code.length 0 ⟨(encK b.code ++ (encT b.term ++ (encMBs r ++ q))).take (j - (putS (b.code.length : Int).toNat).length), 0⟩ := by
        unfold mblkI
        rw [g2]
        rfl
      rcases miE_gt hr hsl b.code 0 hI (hi b List.mem_cons_self) (encT b.term ++ (encMBs r ++ q)) (j - (putS (b.code.length : Int).toNat).length) with ⟨i1, i2⟩ | ⟨i1, i2⟩
      · rw [← hmblkI] at i2
        have hmblkT : mblkT regs slots n tot s = termE regs n ⟨(encT b.term ++ (encMBs r ++ q)).take (j - (putS (b.code.length : Int).toNat).length - (encK b.code).length), 0⟩ := by
          unfold mblkT
          rw [i2]
        rcases termE_gt hT hr hn (encMBs r ++ q) (j - (putS (b.code.length : Int).toNat).length - (encK b.code).length) with ⟨k1, k2⟩ | ⟨k1, k2⟩
        · rw [← hmblkT] at k2
          rcases mblksE_gt hr hsl hn r (tot + (b.code.length : Int)) (by omega) (by omega) he' (fun y hy => hi y (List.mem_cons_of_mem _ hy)) q (j - (putS (b.code.length : Int).toNat).length - (encK b.code).length - (encT b.term).length) with ⟨m1, m2⟩ | ⟨m1, m2⟩
          · refine .inl ⟨by omega, ?_⟩
            rw [e s hs0, hK, k2]
            dsimp only
            rw [m2, i2, el]
            dsimp only
            rw [show j - ((putS (b.code.length : Int).toNat).length + (encK b.code).length + (encT b.term).length + (encMBs r).length) = j - (putS (b.code.length : Int).toNat).length - (encK b.code).length - (encT b.term).length - (encMBs r).length by omega]
          · refine .inr ⟨?_, ?_⟩
            · rw [List.length_append] at m1
              omega
            · rw [e s hs0, hK, k2]
              exact m2
        · rw [← hmblkT] at k2
          refine .inr ⟨?_, hfin s hs0 k2⟩
          rw [List.length_append, List.length_append] at k1
          omega
      · rw [← hmblkI] at i2
        refine .inr ⟨?_, hfin s hs0 ?_⟩
        · rw [List.length_append, List.length_append, List.length_append] at i1
          omega
        · unfold mblkT
          rw [termE_err (by rw [i2]; decide)]
          exact i2
    · refine .inr ⟨by rw [← e0] at g1; exact g1, hfin s hs0 ?_⟩
      have hmblkI : (mblkI regs slots tot s).2.err = 1 := by
        unfold mblkI
        rw [miE_err (by rw [g2]; decide)]
        exact g2
      unfold mblkT
      rw [termE_err (by rw [hmblkI]; decide)]
      exact hmblkI

theorem encBs_three {regs n : Int} : ∀ (bs : List Blk), eBs regs n bs = 0 → bs.length * 3 ≤ (encBs bs).length
  | [], _ => Nat.zero_le _
  | b :: r, he => by
    have he' : (if eB b regs n = 0 then eBs regs n r else eB b regs n) = 0 := he
    have hb : eB b regs n = 0 := by
      by_cases h9 : eB b regs n = 0
      · exact h9
      · rw [if_neg h9] at he'; exact he'
    rw [if_pos hb] at he'
    have hI : eIs regs b.code = 0 := by
      by_cases h9 : eIs regs b.code = 0
      · exact h9
      · unfold eB at hb; rw [if_neg h9] at hb; exact hb
    have hT : eT b.term regs n = 0 := by unfold eB at hb; rw [if_pos hI] at hb; exact hb
    have h2 := encT_two (eT_iff.1 hT).1
    have := encBs_three r he'
    have h1 := putS_pos b.code.length
    show (r.length + 1) * 3 ≤ (encB b ++ encBs r).length
    unfold encB
    simp only [List.length_append]
    omega

theorem encMBs_three {regs slots n : Int} : ∀ (bs : List MBlk), eMBs regs slots n bs = 0 → bs.length * 3 ≤ (encMBs bs).length
  | [], _ => Nat.zero_le _
  | b :: r, he => by
    have he' : (if eMB b regs slots n = 0 then eMBs regs slots n r else eMB b regs slots n) = 0 := he
    have hb : eMB b regs slots n = 0 := by
      by_cases h9 : eMB b regs slots n = 0
      · exact h9
      · rw [if_neg h9] at he'; exact he'
    rw [if_pos hb] at he'
    have hI : eCd regs slots 0 b.code = 0 := by
      by_cases h9 : eCd regs slots 0 b.code = 0
      · exact h9
      · unfold eMB at hb; rw [if_neg h9] at hb; exact hb
    have hT : eT b.term regs n = 0 := by unfold eMB at hb; rw [if_pos hI] at hb; exact hb
    have h2 := encT_two (eT_iff.1 hT).1
    have := encMBs_three r he'
    have h1 := putS_pos b.code.length
    show (r.length + 1) * 3 ≤ (encMB b ++ encMBs r).length
    unfold encMB
    simp only [List.length_append]
    omega

theorem eSz_iff {args regs : Int} {bs : List Blk} (h : eSz args regs bs = 0) : 0 ≤ args ∧ args ≤ regs ∧ regs ≤ 1048576 ∧ 1 ≤ bs.length ∧ bs.length ≤ 1048576 ∧ codeN bs ≤ 1048576 := by
  unfold eSz at h
  split at h
  · cases h
  · split at h
    · cases h
    · split at h
      · cases h
      · split at h
        · cases h
        · omega

theorem eMSz_iff {args regs slots : Int} {bs : List MBlk} (h : eMSz args regs slots bs = 0) : 0 ≤ args ∧ args ≤ slots ∧ 0 ≤ regs ∧ regs ≤ 1048576 ∧ slots ≤ 1048576 ∧ 1 ≤ bs.length ∧ bs.length ≤ 1048576 ∧ mcodeN bs ≤ 1048576 := by
  unfold eMSz at h
  split at h
  · cases h
  · split at h
    · cases h
    · split at h
      · cases h
      · split at h
        · cases h
        · split at h
          · cases h
          · omega

theorem funcE_gt {f : Fd} (hf : eF f.args f.regs f.bs = 0) (hi : ∀ b ∈ f.bs, ∀ x ∈ b.code, InI x.imm) (q : List Nat) (j : Nat) : Gt (funcE ⟨(encF' f ++ q).take j, 0⟩) f (encF' f) q j := by
  have hz : eSz f.args f.regs f.bs = 0 := by
    by_cases h9 : eSz f.args f.regs f.bs = 0
    · exact h9
    · unfold eF at hf; rw [if_neg h9] at hf; exact absurd hf h9
  have hB : eBs f.regs f.bs.length f.bs = 0 := by unfold eF at hf; rw [if_pos hz] at hf; exact hf
  obtain ⟨z1, z2, z3, z4, z5, z6⟩ := eSz_iff hz
  have h3 := encBs_three f.bs hB
  have fin : ∀ s : Ip, (fB s).2.err = 1 → (funcE s).2.err = 1 := fun s hs => by
    unfold funcE
    rw [if_pos (by rw [hs]; decide)]
    exact hs
  have e0 : encF' f ++ q = putS f.args.toNat ++ (putS f.regs.toNat ++ (putS (f.bs.length : Int).toNat ++ (encBs f.bs ++ q))) := by
    unfold encF'
    simp only [List.append_assoc, Int.toNat_natCast]
  have el : (encF' f).length = (putS f.args.toNat).length + (putS f.regs.toNat).length + (putS (f.bs.length : Int).toNat).length + (encBs f.bs).length := by
    unfold encF'
    simp only [List.length_append, Int.toNat_natCast]
    omega
  have el2 : (encF' f ++ q).length = (encF' f).length + q.length := List.length_append
  obtain ⟨s, hs⟩ : ∃ s : Ip, s = ⟨(encF' f ++ q).take j, 0⟩ := ⟨_, rfl⟩
  rw [← hs]
  have errN : (fC s).err = 1 → (funcE s).2.err = 1 := fun h9 => fin s (by
    have hN : fN s = (0, fC s) := nblkE_err (by rw [h9]; decide)
    unfold fB
    rw [hN, blksE_err (by rw [h9]; decide)]
    exact h9)
  have errC : (fR' s).2.err = 1 → (funcE s).2.err = 1 := fun h9 => errN (by
    unfold fC
    split
    · rw [failE_keep (by rw [h9]; decide)]
      exact h9
    · exact h9)
  have errR := errC
  have errA : (fA s).2.err = 1 → (funcE s).2.err = 1 := fun h9 => errR (by
    unfold fR'
    rw [sizeE_err (by rw [h9]; decide)]
    exact h9)
  have full : ∀ k, k < (encF' f).length + q.length - (j - k) → True := fun _ _ => trivial
  clear full
  have gA := sizeE_gt (v := f.args) (by omega) (by omega) (putS f.regs.toNat ++ (putS (f.bs.length : Int).toNat ++ (encBs f.bs ++ q))) j
  rw [← e0, ← hs] at gA
  rcases gA with ⟨a1, a2⟩ | ⟨a1, a2⟩
  case inr => exact .inr ⟨by rw [← e0] at a1; exact a1, errA a2⟩
  have hA : fA s = (f.args, ⟨(putS f.regs.toNat ++ (putS (f.bs.length : Int).toNat ++ (encBs f.bs ++ q))).take (j - (putS f.args.toNat).length), 0⟩) := a2
  have gR := sizeE_gt (v := f.regs) (by omega) (by omega) (putS (f.bs.length : Int).toNat ++ (encBs f.bs ++ q)) (j - (putS f.args.toNat).length)
  have hR0 : fR' s = sizeE ⟨(putS f.regs.toNat ++ (putS (f.bs.length : Int).toNat ++ (encBs f.bs ++ q))).take (j - (putS f.args.toNat).length), 0⟩ := by unfold fR'; rw [hA]
  rw [← hR0] at gR
  rcases gR with ⟨b1, hR⟩ | ⟨b1, b2⟩
  case inr => exact .inr ⟨by simp only [List.length_append] at b1 el2 ⊢; omega, errR b2⟩
  have hC : fC s = ⟨(putS (f.bs.length : Int).toNat ++ (encBs f.bs ++ q)).take (j - (putS f.args.toNat).length - (putS f.regs.toNat).length), 0⟩ := by
    unfold fC
    rw [hR, hA, if_neg (by dsimp only; omega)]
  have gN' := nblkE_gt (v := (f.bs.length : Int)) (by omega) (by omega) (encBs f.bs ++ q) (j - (putS f.args.toNat).length - (putS f.regs.toNat).length) (by rw [List.length_append]; omega)
  have hN0 : fN s = nblkE ⟨(putS (f.bs.length : Int).toNat ++ (encBs f.bs ++ q)).take (j - (putS f.args.toNat).length - (putS f.regs.toNat).length), 0⟩ := by unfold fN; rw [hC]
  rw [← hN0] at gN'
  rcases gN' with ⟨d1, hN⟩ | ⟨d1, d2⟩
  case inr =>
    refine .inr ⟨by simp only [List.length_append] at d1 el2 ⊢; omega, fin s ?_⟩
    unfold fB
    rw [blksE_err (by rw [d2]; decide)]
    exact d2
  have gB' := blksE_gt (regs := f.regs) (n := (f.bs.length : Int)) (by omega) (by omega) f.bs 0 (by decide) (by omega) hB hi q ((j - (putS f.args.toNat).length - (putS f.regs.toNat).length) - (putS (f.bs.length : Int).toNat).length)
  have hB0 : fB s = blksE f.regs (f.bs.length : Int) f.bs.length 0 ⟨(encBs f.bs ++ q).take ((j - (putS f.args.toNat).length - (putS f.regs.toNat).length) - (putS (f.bs.length : Int).toNat).length), 0⟩ := by
    unfold fB
    rw [hN, hR]
    rfl
  rw [← hB0] at gB'
  rcases gB' with ⟨e1, hBB⟩ | ⟨e1, e2⟩
  case inr => exact .inr ⟨by simp only [List.length_append] at e1 el2 ⊢; omega, fin s e2⟩
  refine .inl ⟨by omega, ?_⟩
  unfold funcE
  rw [hBB, if_neg (by simp), hA, hR]
  dsimp only
  rw [el]
  rw [show j - ((putS f.args.toNat).length + (putS f.regs.toNat).length + (putS (f.bs.length : Int).toNat).length + (encBs f.bs).length) = (j - (putS f.args.toNat).length - (putS f.regs.toNat).length) - (putS (f.bs.length : Int).toNat).length - (encBs f.bs).length by omega]

theorem mfuncE_gt {f : Gd} (hf : eMF f.args f.regs f.slots f.ms = 0) (hi : ∀ b ∈ f.ms, ∀ x ∈ b.code, InI x.imm) (q : List Nat) (j : Nat) : Gt (mfuncE ⟨(encG f ++ q).take j, 0⟩) f (encG f) q j := by
  have hz : eMSz f.args f.regs f.slots f.ms = 0 := by
    by_cases h9 : eMSz f.args f.regs f.slots f.ms = 0
    · exact h9
    · unfold eMF at hf; rw [if_neg h9] at hf; exact absurd hf h9
  have hB : eMBs f.regs f.slots f.ms.length f.ms = 0 := by unfold eMF at hf; rw [if_pos hz] at hf; exact hf
  obtain ⟨z1, z2, z3, z4, z5, z6, z7, z8⟩ := eMSz_iff hz
  have h3 := encMBs_three f.ms hB
  have fin : ∀ s : Ip, (gB s).2.err = 1 → (mfuncE s).2.err = 1 := fun s hs => by
    unfold mfuncE
    rw [if_pos (by rw [hs]; decide)]
    exact hs
  have e0 : encG f ++ q = putS f.args.toNat ++ (putS f.regs.toNat ++ (putS f.slots.toNat ++ (putS (f.ms.length : Int).toNat ++ (encMBs f.ms ++ q)))) := by
    unfold encG
    simp only [List.append_assoc, Int.toNat_natCast]
  have el : (encG f).length = (putS f.args.toNat).length + (putS f.regs.toNat).length + (putS f.slots.toNat).length + (putS (f.ms.length : Int).toNat).length + (encMBs f.ms).length := by
    unfold encG
    simp only [List.length_append, Int.toNat_natCast]
    omega
  have el2 : (encG f ++ q).length = (encG f).length + q.length := List.length_append
  obtain ⟨s, hs⟩ : ∃ s : Ip, s = ⟨(encG f ++ q).take j, 0⟩ := ⟨_, rfl⟩
  rw [← hs]
  have errN : (gC s).err = 1 → (mfuncE s).2.err = 1 := fun h9 => fin s (by
    have hN : gN s = (0, gC s) := nblkE_err (by rw [h9]; decide)
    unfold gB
    rw [hN, mblksE_err (by rw [h9]; decide)]
    exact h9)
  have errC : (gS s).2.err = 1 → (mfuncE s).2.err = 1 := fun h9 => errN (by
    unfold gC
    split
    · rw [failE_keep (by rw [h9]; decide)]
      exact h9
    · exact h9)
  have errR : (fR' s).2.err = 1 → (mfuncE s).2.err = 1 := fun h9 => errC (by
    unfold gS
    rw [sizeE_err (by rw [h9]; decide)]
    exact h9)
  have errA : (fA s).2.err = 1 → (mfuncE s).2.err = 1 := fun h9 => errR (by
    unfold fR'
    rw [sizeE_err (by rw [h9]; decide)]
    exact h9)
  have full : ∀ k, k < (encG f).length + q.length - (j - k) → True := fun _ _ => trivial
  clear full
  have gA := sizeE_gt (v := f.args) (by omega) (by omega) (putS f.regs.toNat ++ (putS f.slots.toNat ++ (putS (f.ms.length : Int).toNat ++ (encMBs f.ms ++ q)))) j
  rw [← e0, ← hs] at gA
  rcases gA with ⟨a1, a2⟩ | ⟨a1, a2⟩
  case inr => exact .inr ⟨by rw [← e0] at a1; exact a1, errA a2⟩
  have hA : fA s = (f.args, ⟨(putS f.regs.toNat ++ (putS f.slots.toNat ++ (putS (f.ms.length : Int).toNat ++ (encMBs f.ms ++ q)))).take (j - (putS f.args.toNat).length), 0⟩) := a2
  have gR := sizeE_gt (v := f.regs) (by omega) (by omega) (putS f.slots.toNat ++ (putS (f.ms.length : Int).toNat ++ (encMBs f.ms ++ q))) (j - (putS f.args.toNat).length)
  have hR0 : fR' s = sizeE ⟨(putS f.regs.toNat ++ (putS f.slots.toNat ++ (putS (f.ms.length : Int).toNat ++ (encMBs f.ms ++ q)))).take (j - (putS f.args.toNat).length), 0⟩ := by unfold fR'; rw [hA]
  rw [← hR0] at gR
  rcases gR with ⟨b1, hR⟩ | ⟨b1, b2⟩
  case inr => exact .inr ⟨by simp only [List.length_append] at b1 el2 ⊢; omega, errR b2⟩
  have gS' := sizeE_gt (v := f.slots) (by omega) (by omega) (putS (f.ms.length : Int).toNat ++ (encMBs f.ms ++ q)) (j - (putS f.args.toNat).length - (putS f.regs.toNat).length)
  have hS0 : gS s = sizeE ⟨(putS f.slots.toNat ++ (putS (f.ms.length : Int).toNat ++ (encMBs f.ms ++ q))).take (j - (putS f.args.toNat).length - (putS f.regs.toNat).length), 0⟩ := by unfold gS; rw [hR]
  rw [← hS0] at gS'
  rcases gS' with ⟨c1, hL⟩ | ⟨c1, c2⟩
  case inr => exact .inr ⟨by simp only [List.length_append] at c1 el2 ⊢; omega, errC c2⟩
  have hC : gC s = ⟨(putS (f.ms.length : Int).toNat ++ (encMBs f.ms ++ q)).take ((j - (putS f.args.toNat).length - (putS f.regs.toNat).length) - (putS f.slots.toNat).length), 0⟩ := by
    unfold gC
    rw [hL, hA, if_neg (by dsimp only; omega)]
  have gN' := nblkE_gt (v := (f.ms.length : Int)) (by omega) (by omega) (encMBs f.ms ++ q) ((j - (putS f.args.toNat).length - (putS f.regs.toNat).length) - (putS f.slots.toNat).length) (by rw [List.length_append]; omega)
  have hN0 : gN s = nblkE ⟨(putS (f.ms.length : Int).toNat ++ (encMBs f.ms ++ q)).take ((j - (putS f.args.toNat).length - (putS f.regs.toNat).length) - (putS f.slots.toNat).length), 0⟩ := by unfold gN; rw [hC]
  rw [← hN0] at gN'
  rcases gN' with ⟨d1, hN⟩ | ⟨d1, d2⟩
  case inr =>
    refine .inr ⟨by simp only [List.length_append] at d1 el2 ⊢; omega, fin s ?_⟩
    unfold gB
    rw [mblksE_err (by rw [d2]; decide)]
    exact d2
  have gB' := mblksE_gt (regs := f.regs) (slots := f.slots) (n := (f.ms.length : Int)) (by omega) (by omega) (by omega) f.ms 0 (by decide) (by omega) hB hi q (((j - (putS f.args.toNat).length - (putS f.regs.toNat).length) - (putS f.slots.toNat).length) - (putS (f.ms.length : Int).toNat).length)
  have hB0 : gB s = mblksE f.regs f.slots (f.ms.length : Int) f.ms.length 0 ⟨(encMBs f.ms ++ q).take (((j - (putS f.args.toNat).length - (putS f.regs.toNat).length) - (putS f.slots.toNat).length) - (putS (f.ms.length : Int).toNat).length), 0⟩ := by
    unfold gB
    rw [hN, hR, hL]
    rfl
  rw [← hB0] at gB'
  rcases gB' with ⟨e1, hBB⟩ | ⟨e1, e2⟩
  case inr => exact .inr ⟨by simp only [List.length_append] at e1 el2 ⊢; omega, fin s e2⟩
  refine .inl ⟨by omega, ?_⟩
  unfold mfuncE
  rw [hBB, if_neg (by simp), hA, hR, hL]
  dsimp only
  rw [el]
  rw [show j - ((putS f.args.toNat).length + (putS f.regs.toNat).length + (putS f.slots.toNat).length + (putS (f.ms.length : Int).toNat).length + (encMBs f.ms).length) = ((j - (putS f.args.toNat).length - (putS f.regs.toNat).length) - (putS f.slots.toNat).length) - (putS (f.ms.length : Int).toNat).length - (encMBs f.ms).length by omega]

/-- Whole, or cut off. -/
theorem funcE_put {f : Fd} (hf : eF f.args f.regs f.bs = 0) (hi : ∀ b ∈ f.bs, ∀ x ∈ b.code, InI x.imm) (q : List Nat) : funcE ⟨encF' f ++ q, 0⟩ = (f, ⟨q, 0⟩) := (funcE_gt hf hi q _).full

theorem mfuncE_put {g : Gd} (hg : eMF g.args g.regs g.slots g.ms = 0) (hi : ∀ b ∈ g.ms, ∀ x ∈ b.code, InI x.imm) (q : List Nat) : mfuncE ⟨encG g ++ q, 0⟩ = (g, ⟨q, 0⟩) := (mfuncE_gt hg hi q _).full

theorem mfuncE_cut {g : Gd} (hg : eMF g.args g.regs g.slots g.ms = 0) (hi : ∀ b ∈ g.ms, ∀ x ∈ b.code, InI x.imm) {j : Nat} (hj : j < (encG g).length) : (mfuncE ⟨(encG g).take j, 0⟩).1 = ⟨0, 0, 0, []⟩ ∧ (mfuncE ⟨(encG g).take j, 0⟩).2.err = 1 := by
  have h1 := (mfuncE_gt hg hi [] j).cut hj
  refine ⟨?_, h1⟩
  unfold mfuncE at h1 ⊢
  by_cases h9 : (gB ⟨(encG g).take j, 0⟩).2.err ≠ 0
  · rw [if_pos h9]
  · rw [if_neg h9] at h1
    dsimp only at h1
    rw [h1] at h9
    exact absurd (by decide) h9

end Go.Proofs.Ytkapmfopfddmbaa

/-
  What a valid function's encoding is: its numbers may be written, its length, its bytes.
-/
namespace Go.Proofs.Ytkapmfopfddmbaa
open Go.RowKit
set_option linter.unusedVariables false
set_option linter.unusedSimpArgs false

theorem locS_rng18 {v r n : Int} (h : locS v r n = true) (hr : r ≤ 1000000000) (hn : n ≤ 1000000000) : 0 ≤ v ∧ v ≤ 10000000000 := by
  have h0 := locS_nn h
  unfold locS at h
  rw [if_neg (by omega)] at h
  split at h
  · have := of_decide_eq_true h; omega
  · have := of_decide_eq_true h; omega

/-- A valid instruction's numbers are no greater than what is written. -/
theorem MOk.rng18 {r n : Int} {m : Mi} (h : MOk r n m) (hr : r ≤ 1000000000) (hn : n ≤ 1000000000) :
    (0 ≤ m.d ∧ m.d ≤ 10000000000) ∧ (0 ≤ m.a ∧ m.a ≤ 10000000000) ∧ (0 ≤ m.b ∧ m.b ≤ 10000000000) ∧ (0 ≤ m.dst ∧ m.dst ≤ 10000000000) ∧ (0 ≤ m.src ∧ m.src ≤ 10000000000) := by
  have h1 := fR_iff.1 h.r1
  have h2 := fR_iff.1 h.r2
  have h3 := fR_iff.1 h.r3
  have z1 := fZ_iff.1 h.z1
  have z2 := fZ_iff.1 h.z2
  have z3 := fZ_iff.1 h.z3
  have l1 := h.l1
  have l2 := h.l2
  refine ⟨?_, ?_, ?_, ?_, ?_⟩
  · cases hb : uD m.op
    · rw [z1 hb]; decide
    · have := h1 hb; omega
  · cases hb : uA m.op
    · rw [z2 hb]; decide
    · have := h2 hb; omega
  · cases hb : uB m.op
    · rw [z3 hb]; decide
    · have := h3 hb; omega
  · cases hb : (m.op == 18)
    · rw [l1.2 hb]; decide
    · exact locS_rng18 (l1.1 hb) hr hn
  · cases hb : (m.op == 18)
    · rw [l2.2 hb]; decide
    · exact locS_rng18 (l2.1 hb) hr hn

theorem MOk.pi {r n : Int} {m : Mi} (h : MOk r n m) (hr : r ≤ 1000000000) (hn : n ≤ 1000000000) (ho : 1 ≤ m.op ∧ m.op ≤ 18) (hi : InI m.imm) : PI m := by
  obtain ⟨h1, h2, h3, h4, h5⟩ := h.rng18 hr hn
  exact ⟨by omega, hi, fun _ => by omega, fun _ => by omega, fun _ => by omega, fun _ => by omega, fun _ => by omega⟩

theorem eT_pt {t : Tm} {r n : Int} (h : eT t r n = 0) (hr : r ≤ 1000000000) (hn : n ≤ 1000000000) : (1 ≤ t.kind ∧ t.kind ≤ 3) ∧ PT t := by
  obtain ⟨h0, h1, h2, h3, _, _, _⟩ := eT_iff.1 h
  have g1 := fR_iff.1 h1; have g2 := fR_iff.1 h2; have g3 := fR_iff.1 h3
  exact ⟨h0, by omega, fun hh => by have := g1 hh; omega, fun hh => by have := g2 hh; omega, fun hh => by have := g3 hh; omega⟩

/-- A block's instructions and terminator, as the writing functions want them. -/
def VB (x : Blk) : Prop := (∀ y ∈ x.code, (1 ≤ y.op ∧ y.op ≤ 17) ∧ PI (inM y)) ∧ (1 ≤ x.term.kind ∧ x.term.kind ≤ 3) ∧ PT x.term

def VMB (x : MBlk) : Prop := (∀ y ∈ x.code, (1 ≤ y.op ∧ y.op ≤ 18) ∧ PI y) ∧ (1 ≤ x.term.kind ∧ x.term.kind ≤ 3) ∧ PT x.term

theorem VB.pb {x : Blk} (h : VB x) : PB x := ⟨fun y hy => (h.1 y hy).2, h.2.2⟩

theorem VMB.pb {x : MBlk} (h : VMB x) : PMB x := ⟨fun y hy => (h.1 y hy).2, h.2.2⟩

theorem eBs_vb {regs n : Int} (hr : regs ≤ 1000000000) (hn : n ≤ 1000000000) : ∀ (bs : List Blk), eBs regs n bs = 0 → (∀ b ∈ bs, ∀ x ∈ b.code, InI x.imm) → ∀ b ∈ bs, VB b
  | [], _, _, b, hb => by cases hb
  | b :: r, he, hi, c, hc => by
    have he' : (if eB b regs n = 0 then eBs regs n r else eB b regs n) = 0 := he
    have hb : eB b regs n = 0 := by
      by_cases h9 : eB b regs n = 0
      · exact h9
      · rw [if_neg h9] at he'; exact he'
    rw [if_pos hb] at he'
    rcases List.mem_cons.1 hc with rfl | hc
    · have hI : eIs regs c.code = 0 := by
        by_cases h9 : eIs regs c.code = 0
        · exact h9
        · unfold eB at hb; rw [if_neg h9] at hb; exact hb
      have hT : eT c.term regs n = 0 := by unfold eB at hb; rw [if_pos hI] at hb; exact hb
      have hall := eIs_all hI
      obtain ⟨t1, t2⟩ := eT_pt hT hr hn
      refine ⟨fun y hy => ?_, t1, t2⟩
      have h1 : eI (inM y).ins regs = 0 := hall y hy
      obtain ⟨h2, h3⟩ := (eI_iff (n := 0) (m := inM y) rfl rfl).1 h1
      exact ⟨h2, h3.pi hr (by omega) ⟨h2.1, by omega⟩ (hi c List.mem_cons_self y hy)⟩
    · exact eBs_vb hr hn r he' (fun b hb => hi b (List.mem_cons_of_mem _ hb)) c hc

theorem eMBs_vb {regs slots n : Int} (hr : regs ≤ 1000000000) (hsl : slots ≤ 1000000000) (hn : n ≤ 1000000000) : ∀ (bs : List MBlk), eMBs regs slots n bs = 0 → (∀ b ∈ bs, ∀ x ∈ b.code, InI x.imm) → ∀ b ∈ bs, VMB b
  | [], _, _, b, hb => by cases hb
  | b :: r, he, hi, c, hc => by
    have he' : (if eMB b regs slots n = 0 then eMBs regs slots n r else eMB b regs slots n) = 0 := he
    have hb : eMB b regs slots n = 0 := by
      by_cases h9 : eMB b regs slots n = 0
      · exact h9
      · rw [if_neg h9] at he'; exact he'
    rw [if_pos hb] at he'
    rcases List.mem_cons.1 hc with rfl | hc
    · have hI : eCd regs slots 0 c.code = 0 := by
        by_cases h9 : eCd regs slots 0 c.code = 0
        · exact h9
        · unfold eMB at hb; rw [if_neg h9] at hb; exact hb
      have hT : eT c.term regs n = 0 := by unfold eMB at hb; rw [if_pos hI] at hb; exact hb
      have hall := eCd_all hI
      obtain ⟨t1, t2⟩ := eT_pt hT hr hn
      refine ⟨fun y hy => ?_, t1, t2⟩
      obtain ⟨⟨o1, o2, o3⟩, h3⟩ := eM_iff.1 (hall y hy)
      exact ⟨⟨o1, o2⟩, h3.pi hr hsl ⟨o1, o2⟩ (hi c List.mem_cons_self y hy)⟩
    · exact eMBs_vb hr hsl hn r he' (fun b hb => hi b (List.mem_cons_of_mem _ hb)) c hc

theorem encO_len18 {b : Bool} {v : Int} : (encO b v).length ≤ 10 := by
  have := len_enc (l := []) (n := 0) (by simp) (b := b) (v := v)
  simpa using this

theorem encM_len18 (m : Mi) : (encM m).length ≤ 61 := by
  unfold encM
  have h1 := encO_len18 (b := uD m.op) (v := m.d)
  have h2 := encO_len18 (b := uA m.op) (v := m.a)
  have h3 := encO_len18 (b := uB m.op) (v := m.b)
  have h4 := encO_len18 (b := m.op == 1) (v := zz m.imm)
  have h5 := encO_len18 (b := m.op == 18) (v := m.dst)
  have h6 := encO_len18 (b := m.op == 18) (v := m.src)
  simp only [List.length_cons, List.length_append]
  omega

theorem encT_len18 (t : Tm) : (encT t).length ≤ 31 := by
  unfold encT
  have h1 := encO_len18 (b := t.kind != 1) (v := t.a)
  have h2 := encO_len18 (b := t.kind != 3) (v := t.to)
  have h3 := encO_len18 (b := t.kind == 2) (v := t.el)
  simp only [List.length_cons, List.length_append]
  omega

theorem fm_len18 {α : Type} (f : α → List Nat) (n : Nat) (h : ∀ x, (f x).length ≤ n) : ∀ l : List α, (l.flatMap f).length ≤ n * l.length
  | [] => by simp
  | x :: r => by
    have h1 := h x
    have h2 := fm_len18 f n h r
    rw [List.flatMap_cons, List.length_append, List.length_cons, Nat.mul_succ]
    omega

theorem encBs_len18 : ∀ bs : List Blk, (encBs bs).length ≤ 61 * codeN bs + 41 * bs.length
  | [] => by simp [encBs]
  | b :: r => by
    have h1 := encBs_len18 r
    have h2 := fm_len18 (fun x => encM (inM x)) 61 (fun x => encM_len18 _) b.code
    have h3 := encT_len18 b.term
    have h4 := putS_le b.code.length
    rw [show encBs (b :: r) = encB b ++ encBs r from rfl, List.length_append, codeN_cons, List.length_cons]
    unfold encB encC
    simp only [List.length_append]
    omega

theorem encMBs_len18 : ∀ bs : List MBlk, (encMBs bs).length ≤ 61 * mcodeN bs + 41 * bs.length
  | [] => by simp [encMBs]
  | b :: r => by
    have h1 := encMBs_len18 r
    have h2 := fm_len18 encM 61 encM_len18 b.code
    have h3 := encT_len18 b.term
    have h4 := putS_le b.code.length
    rw [show encMBs (b :: r) = encMB b ++ encMBs r from rfl, List.length_append, mcodeN_cons, List.length_cons]
    unfold encMB encK
    simp only [List.length_append]
    omega

theorem encF_len18 (f : Fd) : (encF' f).length ≤ 30 + 61 * codeN f.bs + 41 * f.bs.length := by
  have h1 := encBs_len18 f.bs
  have h2 := putS_le f.args.toNat; have h3 := putS_le f.regs.toNat; have h4 := putS_le f.bs.length
  unfold encF'
  simp only [List.length_append]
  omega

theorem encG_len18 (g : Gd) : (encG g).length ≤ 40 + 61 * mcodeN g.ms + 41 * g.ms.length := by
  have h1 := encMBs_len18 g.ms
  have h2 := putS_le g.args.toNat; have h3 := putS_le g.regs.toNat; have h4 := putS_le g.slots.toNat; have h5 := putS_le g.ms.length
  unfold encG
  simp only [List.length_append]
  omega

theorem byt_app18 {a b : List Nat} (ha : Byt a) (hb : Byt b) : Byt (a ++ b) := fun x hx => (List.mem_append.1 hx).elim (ha x) (hb x)

theorem byt_fm18 {α : Type} (f : α → List Nat) (l : List α) (h : ∀ x ∈ l, Byt (f x)) : Byt (l.flatMap f) := fun y hy => by
  obtain ⟨x, hx, h2⟩ := List.mem_flatMap.1 hy
  exact h x hx y h2

theorem putS_b18 (v : Nat) (h : v < 18446744073709551616) : Byt (putS v) := putS_byt v (by
  have : (128 : Nat) ^ 10 = 1180591620717411303424 := by decide
  omega)

theorem encO_byt18 {b : Bool} {v : Int} (h : b = true → v ≤ 18446744073709551615) : Byt (encO b v) := by
  unfold encO
  split
  · rename_i hb
    exact putS_b18 _ (by have := h hb; omega)
  · intro x hx; cases hx

theorem PI.byt {m : Mi} (h : PI m) : Byt (encM m) := by
  obtain ⟨h0, hi, h1, h2, h3, h4, h5⟩ := h
  have hz := zz_in hi
  unfold InU at hz
  unfold encM
  intro x hx
  rcases List.mem_cons.1 hx with rfl | hx
  · omega
  · exact byt_app18 (encO_byt18 fun hh => by have := h1 hh; omega) (byt_app18 (encO_byt18 fun hh => by have := h2 hh; omega) (byt_app18 (encO_byt18 fun hh => by have := h3 hh; omega) (byt_app18 (encO_byt18 fun hh => by omega) (byt_app18 (encO_byt18 fun hh => by have := h4 hh; omega) (encO_byt18 fun hh => by have := h5 hh; omega))))) x hx

theorem PT.byt {t : Tm} (h : PT t) : Byt (encT t) := by
  obtain ⟨h0, h1, h2, h3⟩ := h
  unfold encT
  intro x hx
  rcases List.mem_cons.1 hx with rfl | hx
  · omega
  · exact byt_app18 (encO_byt18 fun hh => by have := h1 hh; omega) (byt_app18 (encO_byt18 fun hh => by have := h2 hh; omega) (encO_byt18 fun hh => by have := h3 hh; omega)) x hx

theorem codeN_mem18 : ∀ {bs : List Blk} {b : Blk}, b ∈ bs → b.code.length ≤ codeN bs
  | x :: r, b, h => by
    rw [codeN_cons]
    rcases List.mem_cons.1 h with rfl | h
    · omega
    · have := codeN_mem18 h; omega

theorem mcodeN_mem18 : ∀ {bs : List MBlk} {b : MBlk}, b ∈ bs → b.code.length ≤ mcodeN bs
  | x :: r, b, h => by
    rw [mcodeN_cons]
    rcases List.mem_cons.1 h with rfl | h
    · omega
    · have := mcodeN_mem18 h; omega

/-- All that a source function's acceptance gives. -/
structure VF (f : Fd) : Prop where
  a : 0 ≤ f.args ∧ f.args ≤ 1048576
  r : 0 ≤ f.regs ∧ f.regs ≤ 1048576
  n : 1 ≤ f.bs.length ∧ f.bs.length ≤ 1048576
  c : codeN f.bs ≤ 1048576
  v : ∀ b ∈ f.bs, VB b

structure VG (g : Gd) : Prop where
  a : 0 ≤ g.args ∧ g.args ≤ 1048576
  r : 0 ≤ g.regs ∧ g.regs ≤ 1048576
  s : 0 ≤ g.slots ∧ g.slots ≤ 1048576
  n : 1 ≤ g.ms.length ∧ g.ms.length ≤ 1048576
  c : mcodeN g.ms ≤ 1048576
  v : ∀ b ∈ g.ms, VMB b

theorem VF.of {f : Fd} (hf : eF f.args f.regs f.bs = 0) (hi : ∀ b ∈ f.bs, ∀ x ∈ b.code, InI x.imm) : VF f := by
  have hz : eSz f.args f.regs f.bs = 0 := by
    by_cases h9 : eSz f.args f.regs f.bs = 0
    · exact h9
    · unfold eF at hf; rw [if_neg h9] at hf; exact absurd hf h9
  have hB : eBs f.regs f.bs.length f.bs = 0 := by unfold eF at hf; rw [if_pos hz] at hf; exact hf
  obtain ⟨z1, z2, z3, z4, z5, z6⟩ := eSz_iff hz
  exact ⟨by omega, by omega, ⟨z4, z5⟩, z6, eBs_vb (by omega) (by omega) _ hB hi⟩

theorem VG.of {g : Gd} (hf : eMF g.args g.regs g.slots g.ms = 0) (hi : ∀ b ∈ g.ms, ∀ x ∈ b.code, InI x.imm) : VG g := by
  have hz : eMSz g.args g.regs g.slots g.ms = 0 := by
    by_cases h9 : eMSz g.args g.regs g.slots g.ms = 0
    · exact h9
    · unfold eMF at hf; rw [if_neg h9] at hf; exact absurd hf h9
  have hB : eMBs g.regs g.slots g.ms.length g.ms = 0 := by unfold eMF at hf; rw [if_pos hz] at hf; exact hf
  obtain ⟨z1, z2, z3, z4, z5, z6, z7, z8⟩ := eMSz_iff hz
  exact ⟨by omega, by omega, by omega, ⟨z6, z7⟩, z8, eMBs_vb (by omega) (by omega) (by omega) _ hB hi⟩

theorem VF.len {f : Fd} (h : VF f) : (encF' f).length ≤ 200000000 := by
  have h1 := encF_len18 f; have h2 := h.c; have h3 := h.n
  omega

theorem VG.len {g : Gd} (h : VG g) : (encG g).length ≤ 200000000 := by
  have h1 := encG_len18 g; have h2 := h.c; have h3 := h.n
  omega

theorem VF.byt {f : Fd} (h : VF f) : Byt (encF' f) := by
  have ha := h.a; have hr := h.r; have hn := h.n
  unfold encF'
  refine byt_app18 (putS_b18 _ (by omega)) (byt_app18 (putS_b18 _ (by omega)) (byt_app18 (putS_b18 _ (by omega)) (byt_fm18 _ _ fun b hb => ?_)))
  have hv := h.v b hb
  have hc := codeN_mem18 hb
  have hcc := h.c
  exact byt_app18 (putS_b18 _ (by omega)) (byt_app18 (byt_fm18 _ _ fun y hy => (hv.1 y hy).2.byt) hv.2.2.byt)

theorem VG.byt {g : Gd} (h : VG g) : Byt (encG g) := by
  have ha := h.a; have hr := h.r; have hn := h.n; have hs := h.s
  unfold encG
  refine byt_app18 (putS_b18 _ (by omega)) (byt_app18 (putS_b18 _ (by omega)) (byt_app18 (putS_b18 _ (by omega)) (byt_app18 (putS_b18 _ (by omega)) (byt_fm18 _ _ fun b hb => ?_))))
  have hv := h.v b hb
  have hc := mcodeN_mem18 hb
  have hcc := h.c
  exact byt_app18 (putS_b18 _ (by omega)) (byt_app18 (byt_fm18 _ _ fun y hy => (hv.1 y hy).2.byt) hv.2.2.byt)

theorem fm_ge18 {α : Type} (f : α → List Nat) (h : ∀ x, 1 ≤ (f x).length) : ∀ l : List α, l.length ≤ (l.flatMap f).length
  | [] => by simp
  | x :: r => by
    have h1 := h x
    have h2 := fm_ge18 f h r
    rw [List.flatMap_cons, List.length_append, List.length_cons]
    omega

theorem encBs_code18 : ∀ bs : List Blk, codeN bs ≤ (encBs bs).length
  | [] => Nat.le_refl _
  | b :: r => by
    have h1 := encBs_code18 r
    have h2 := fm_ge18 (fun x => encM (inM x)) (fun x => by simp [encM]) b.code
    rw [show encBs (b :: r) = encB b ++ encBs r from rfl, List.length_append, codeN_cons]
    unfold encB encC
    simp only [List.length_append]
    omega

theorem encMBs_code18 : ∀ bs : List MBlk, mcodeN bs ≤ (encMBs bs).length
  | [] => Nat.le_refl _
  | b :: r => by
    have h1 := encMBs_code18 r
    have h2 := fm_ge18 encM (fun x => by simp [encM]) b.code
    rw [show encMBs (b :: r) = encMB b ++ encMBs r from rfl, List.length_append, mcodeN_cons]
    unfold encMB encK
    simp only [List.length_append]
    omega

theorem encBs_blk18 : ∀ bs : List Blk, 2 * bs.length ≤ (encBs bs).length
  | [] => Nat.le_refl _
  | b :: r => by
    have h1 := encBs_blk18 r
    have h2 := putS_pos b.code.length
    have h3 : 1 ≤ (encT b.term).length := by simp [encT]
    rw [show encBs (b :: r) = encB b ++ encBs r from rfl, List.length_append, List.length_cons]
    unfold encB
    simp only [List.length_append]
    omega

theorem encMBs_blk18 : ∀ bs : List MBlk, 2 * bs.length ≤ (encMBs bs).length
  | [] => Nat.le_refl _
  | b :: r => by
    have h1 := encMBs_blk18 r
    have h2 := putS_pos b.code.length
    have h3 : 1 ≤ (encT b.term).length := by simp [encT]
    rw [show encMBs (b :: r) = encMB b ++ encMBs r from rfl, List.length_append, List.length_cons]
    unfold encMB
    simp only [List.length_append]
    omega

/-- A function whose encoding is no longer than this is small. -/
theorem encF_small {f : Fd} {n : Nat} (h : (encF' f).length ≤ n) : 2 * f.bs.length + 1 ≤ n ∧ codeN f.bs ≤ n := by
  have h1 := encBs_code18 f.bs; have h2 := encBs_blk18 f.bs; have h3 := putS_pos f.args.toNat
  unfold encF' at h
  simp only [List.length_append] at h
  omega

theorem encG_small {g : Gd} {n : Nat} (h : (encG g).length ≤ n) : 2 * g.ms.length + 1 ≤ n ∧ mcodeN g.ms ≤ n := by
  have h1 := encMBs_code18 g.ms; have h2 := encMBs_blk18 g.ms; have h3 := putS_pos g.args.toNat
  unfold encG at h
  simp only [List.length_append] at h
  omega

/-- The locations of a valid function's instructions fit. -/
theorem eMBs_ok18 {regs slots n : Int} (hr : regs ≤ 1000000000) (hsl : slots ≤ 1000000000) : ∀ (bs : List MBlk), eMBs regs slots n bs = 0 → ∀ b ∈ bs, ∀ y ∈ b.code, y.Ok
  | [], _, b, hb => by cases hb
  | b :: r, he, c, hc => by
    have he' : (if eMB b regs slots n = 0 then eMBs regs slots n r else eMB b regs slots n) = 0 := he
    have hb : eMB b regs slots n = 0 := by
      by_cases h9 : eMB b regs slots n = 0
      · exact h9
      · rw [if_neg h9] at he'; exact he'
    rw [if_pos hb] at he'
    rcases List.mem_cons.1 hc with rfl | hc
    · have hI : eCd regs slots 0 c.code = 0 := by
        by_cases h9 : eCd regs slots 0 c.code = 0
        · exact h9
        · unfold eMB at hb; rw [if_neg h9] at hb; exact hb
      intro y hy
      obtain ⟨_, _, _, h4, h5⟩ := (eM_iff.1 (eCd_all hI y hy)).2.rng18 hr hsl
      unfold Mi.Ok Fits
      omega
    · exact eMBs_ok18 hr hsl r he' c hc

theorem eMF_ok18 {g : Gd} (hf : eMF g.args g.regs g.slots g.ms = 0) : ∀ b ∈ g.ms, ∀ y ∈ b.code, y.Ok := by
  have hz : eMSz g.args g.regs g.slots g.ms = 0 := by
    by_cases h9 : eMSz g.args g.regs g.slots g.ms = 0
    · exact h9
    · unfold eMF at hf; rw [if_neg h9] at hf; exact absurd hf h9
  have hB : eMBs g.regs g.slots g.ms.length g.ms = 0 := by unfold eMF at hf; rw [if_pos hz] at hf; exact hf
  obtain ⟨z1, z2, z3, z4, z5, z6, z7, z8⟩ := eMSz_iff hz
  exact eMBs_ok18 (by omega) (by omega) _ hB

end Go.Proofs.Ytkapmfopfddmbaa
