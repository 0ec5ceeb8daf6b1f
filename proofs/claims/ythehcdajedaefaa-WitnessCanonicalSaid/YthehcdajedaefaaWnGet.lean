/-
  The reference of layer 19: Get.
-/
import Derived.Test.YthehcdajedaefaaWnPair
import Derived.Test.YthehcdajedaefaaWnGt
import Derived.Test.YthehcdajedaefaaPNest
import Derived.Test.YthehcdajedaefaaPk2
import Derived.Deep.LoopGhost
namespace Go.Proofs.Ythehcdajedaefaa
open Go.RowKit
set_option linter.unusedVariables false
set_option linter.unusedSimpArgs false

theorem infoPr19 : (Try.prog.info? 52).map (fun i => (i.zero, i.size, i.bytes)) = some (some (.agg #[.int .i64 0, .int .i64 0]), 2, 16) := by kernel_rfl

theorem pr_one19 (p1 p2 : Int) : ∀ u ∈ ([.int .i64 p1, .int .i64 p2] : List Value), u.oneCell' = true := by
  intro u hu
  simp only [List.mem_cons, List.not_mem_nil, or_false] at hu
  rcases hu with rfl | rfl <;> rfl

theorem prs_snoc19 (l : List Pr) (p : Pr) : prs (l ++ [p]) = prs l ++ [.int .i64 p.1, .int .i64 p.2] := by simp [prs]

/-- What Get carries: the input, the result's block, the invariants so far. -/
structure GWS (w : World) (B : Nat) (A : Option Addr) (c : Nat) (s : Ip) (v : Value) (xs : List (List Pr)) (W : World) : Prop where
  blw : Below w.heap.size w W
  inb : Row W w.heap.size 30 #[.slice A s.rest.length c, .int .i64 s.err]
  z3 : Row W (w.heap.size + 1) 30 #[.slice none 0 0, .int .i64 0]
  ip : IpV W B A c s
  nst : ∃ vs, NestV pshp W (w.heap.size + 1 + 1) v vs xs

/-- Within an invariant: Wq is the world ahead of it. -/
structure GWI (w Wq : World) (B : Nat) (A : Option Addr) (c : Nat) (s : Ip) (v : Value) (xs : List (List Pr)) (q1 q2 : Int) (u : Value) (l : List Pr) (W : World) : Prop where
  q : ∃ A0 c0 s0, GWS w B A0 c0 s0 v xs Wq
  md : Mods (Is w.heap.size) Wq W
  inb : Row W w.heap.size 30 #[.slice A s.rest.length c, .int .i64 s.err]
  ip : IpV W B A c s
  qb : Row W Wq.heap.size 52 #[.int .i64 q1, .int .i64 q2]
  own : W.ownsRow (Wq.heap.size + 1) 52 2 u l.length (prs l)

section
variable {w Wq : World} {B : Nat} {A A' : Option Addr} {c c' : Nat} {s s' : Ip} {v v' u u' : Value} {xs : List (List Pr)} {q1 q2 : Int} {l : List Pr} {W W' : World}

theorem GWS.lo (h : GWS w B A c s v xs W) : w.heap.size + 1 < W.heap.size := h.z3.lt

theorem GWS.start (h : IpV w B A c s) (hB : B ≤ w.heap.size) :
    GWS w B A c s (.slice none 0 0) [] ((w.alloc (.cells #[.slice A s.rest.length c, .int .i64 s.err] 30)).alloc (.cells #[.slice none 0 0, .int .i64 0] 30)) := by
  have hb := ((Below.refl w.heap.size w).alloc (Nat.le_refl _) (.cells #[.slice A s.rest.length c, .int .i64 s.err] 30)).alloc (by simp) (.cells #[.slice none 0 0, .int .i64 0] 30)
  exact ⟨hb, (Row.new w _ _).alloc _, Row.new' (by simp) _ _, h.below (hb.mono hB), ⟨[], NestV.nil _ _⟩⟩

theorem GWS.next (h : GWS w B A c s v xs W) (hb : Below W.heap.size W W') (hB : B ≤ w.heap.size) : GWS w B A c s v xs W' :=
  ⟨h.blw.trans (hb.mono h.blw.size), h.inb.below hb h.inb.lt, h.z3.below hb h.z3.lt, h.ip.below (hb.mono (Nat.le_trans hB h.blw.size)), let ⟨vs, hn⟩ := h.nst; ⟨vs, hn.below hb⟩⟩

theorem GWS.inpt (h : GWS w B A c s v xs W) (hI : IpV W B A' c' s') (hB : B ≤ w.heap.size) : GWS w B A' c' s' v xs ((W.setCell ⟨w.heap.size, 0, none⟩ (.slice A' s'.rest.length c')).setCell ⟨w.heap.size, 1, none⟩ (.int .i64 s'.err)) := by
  have hb : Below w.heap.size W ((W.setCell ⟨w.heap.size, 0, none⟩ (.slice A' s'.rest.length c')).setCell ⟨w.heap.size, 1, none⟩ (.int .i64 s'.err)) := ((Below.refl _ W).setCell (p := ⟨w.heap.size, 0, none⟩) (Nat.le_refl _) _).setCell (p := ⟨w.heap.size, 1, none⟩) (Nat.le_refl _) _
  have hm : Mods (Is w.heap.size) W ((W.setCell ⟨w.heap.size, 0, none⟩ (.slice A' s'.rest.length c')).setCell ⟨w.heap.size, 1, none⟩ (.int .i64 s'.err)) := ((Mods.refl _ W).put 0 _).put 1 _
  exact ⟨h.blw.trans hb, (h.inb.put 0 _).put 1 _, h.z3.mods hm (fun e => by unfold Is at e; omega), hI.below (hb.mono hB), let ⟨vs, hn⟩ := h.nst; ⟨vs, hn.mods hm fun k h1 _ h2 => by unfold Is at h2; omega⟩⟩

theorem GWS.fin (h : GWS w B A c s v xs W) (hB : B ≤ w.heap.size) :
    Row ((W.setCell ⟨w.heap.size + 1, 0, none⟩ (.slice A s.rest.length c)).setCell ⟨w.heap.size + 1, 1, none⟩ (.int .i64 s.err)).drew (w.heap.size + 1) 30 #[.slice A s.rest.length c, .int .i64 s.err] ∧
    Below w.heap.size w ((W.setCell ⟨w.heap.size + 1, 0, none⟩ (.slice A s.rest.length c)).setCell ⟨w.heap.size + 1, 1, none⟩ (.int .i64 s.err)).drew ∧
    IpV ((W.setCell ⟨w.heap.size + 1, 0, none⟩ (.slice A s.rest.length c)).setCell ⟨w.heap.size + 1, 1, none⟩ (.int .i64 s.err)).drew B A c s ∧
    ∃ vs, NestV pshp ((W.setCell ⟨w.heap.size + 1, 0, none⟩ (.slice A s.rest.length c)).setCell ⟨w.heap.size + 1, 1, none⟩ (.int .i64 s.err)).drew (w.heap.size + 1 + 1) v vs xs := by
  have hm : Mods (Is (w.heap.size + 1)) W ((W.setCell ⟨w.heap.size + 1, 0, none⟩ (.slice A s.rest.length c)).setCell ⟨w.heap.size + 1, 1, none⟩ (.int .i64 s.err)).drew := (((Mods.refl _ W).put 0 _).put 1 _).drew
  have hb : Below w.heap.size W ((W.setCell ⟨w.heap.size + 1, 0, none⟩ (.slice A s.rest.length c)).setCell ⟨w.heap.size + 1, 1, none⟩ (.int .i64 s.err)).drew := hm.below h.blw.size fun k hk => by unfold Is at hk; omega
  obtain ⟨vs, hn⟩ := h.nst
  exact ⟨((h.z3.put 0 _).put 1 _).drew, h.blw.trans hb, h.ip.below (hb.mono hB), vs, hn.mods hm fun k h1 _ h2 => by unfold Is at h2; omega⟩

theorem GWI.lo (h : GWI w Wq B A c s v xs q1 q2 u l W) : w.heap.size + 1 < Wq.heap.size ∧ Wq.heap.size < W.heap.size := let ⟨_, _, _, hq⟩ := h.q; ⟨hq.lo, h.qb.lt⟩

theorem GWI.blw (h : GWI w Wq B A c s v xs q1 q2 u l W) : Below w.heap.size w W := by
  obtain ⟨_, _, _, hq⟩ := h.q
  exact hq.blw.trans (h.md.below hq.blw.size fun k hk => by unfold Is at hk; omega)

theorem GWI.next (h : GWI w Wq B A c s v xs q1 q2 u l W) (hb : Below W.heap.size W W') (hB : B ≤ w.heap.size) : GWI w Wq B A c s v xs q1 q2 u l W' :=
  ⟨h.q, h.md.trans (Mods.of_below hb), h.inb.below hb h.inb.lt, h.ip.below (hb.mono (Nat.le_trans hB h.blw.size)), h.qb.below hb h.qb.lt, (Mods.of_below (S := No) hb).ownS h.own fun _ _ hs => hs.elim⟩

/-- Pair and input stored. -/
theorem GWI.step (h : GWI w Wq B A c s v xs q1 q2 u l W) (hI : IpV W B A' c' s') (hB : B ≤ w.heap.size) (p1 p2 : Int) :
    GWI w Wq B A' c' s' v xs p1 p2 u l ((((W.setCell ⟨Wq.heap.size, 0, none⟩ (.int .i64 p1)).setCell ⟨Wq.heap.size, 1, none⟩ (.int .i64 p2)).setCell ⟨w.heap.size, 0, none⟩ (.slice A' s'.rest.length c')).setCell ⟨w.heap.size, 1, none⟩ (.int .i64 s'.err)) := by
  have hl := h.lo
  have h1 : Mods (Is Wq.heap.size) W ((W.setCell ⟨Wq.heap.size, 0, none⟩ (.int .i64 p1)).setCell ⟨Wq.heap.size, 1, none⟩ (.int .i64 p2)) := ((Mods.refl _ W).put 0 _).put 1 _
  have r1 : Row ((W.setCell ⟨Wq.heap.size, 0, none⟩ (.int .i64 p1)).setCell ⟨Wq.heap.size, 1, none⟩ (.int .i64 p2)) Wq.heap.size 52 #[.int .i64 p1, .int .i64 p2] := (h.qb.put 0 _).put 1 _
  have hi := h.inb.mods h1 fun e => by unfold Is at e; omega
  have hI1 := hI.below (w' := ((W.setCell ⟨Wq.heap.size, 0, none⟩ (.int .i64 p1)).setCell ⟨Wq.heap.size, 1, none⟩ (.int .i64 p2))) (h1.below (by omega) fun k hk => by unfold Is at hk; omega)
  have ho1 := h1.ownS h.own fun k hk e => by have := ownS_lt h.own k hk; unfold Is at e; omega
  have hs1 := h1.size
  generalize ((W.setCell ⟨Wq.heap.size, 0, none⟩ (.int .i64 p1)).setCell ⟨Wq.heap.size, 1, none⟩ (.int .i64 p2)) = V at *
  have h2 : Mods (Is w.heap.size) V ((V.setCell ⟨w.heap.size, 0, none⟩ (.slice A' s'.rest.length c')).setCell ⟨w.heap.size, 1, none⟩ (.int .i64 s'.err)) := ((Mods.refl _ V).put 0 _).put 1 _
  exact ⟨h.q, (h.md.then h1 fun k hk => .inr (by unfold Is at hk; omega)).trans h2, (hi.put 0 _).put 1 _, hI1.below (h2.below (by omega) fun k hk => by unfold Is at hk; omega), r1.mods h2 (fun e => by unfold Is at e; omega), h2.ownS ho1 fun k hk e => by have := ownS_lt ho1 k hk; unfold Is at e; omega⟩

/-- A pair has been appended. -/
theorem GWI.app (h : GWI w Wq B A c s v xs q1 q2 u l W) (hB : B ≤ w.heap.size) {o : Obj} (ho : W'.ownsRow (Wq.heap.size + 1) 52 2 u' (l.length + 1) (prs l ++ [.int .i64 q1, .int .i64 q2])) (hg : (W.alloc o).grownBy W' u.ownBlock) :
    GWI w Wq B A c s v xs q1 q2 u' (l ++ [(q1, q2)]) W' := by
  have hl := h.lo
  have hm : Mods (fun k => u.ownBlock = some k) W W' := ((Mods.refl _ W).alloc o).grown hg fun k hk => .inl hk
  have hk : ∀ k, u.ownBlock = some k → Wq.heap.size + 1 ≤ k := fun k hk => (ownS_lt h.own k hk).1
  have hBel : Below w.heap.size W W' := hm.below (by omega) fun k hh => by have := hk k hh; omega
  exact ⟨h.q, h.md.then hm fun k hh => .inr (by have := hk k hh; omega), h.inb.mods hm (fun e => by have := hk _ e; omega), h.ip.below (hBel.mono hB), h.qb.mods hm (fun e => by have := hk _ e; omega), by rw [List.length_append, prs_snoc19]; exact ho⟩

/-- The invariant has been appended. -/
theorem GWI.fin (h : GWI w Wq B A c s v xs q1 q2 u l W) (hB : B ≤ w.heap.size) {vs : List Value} (hn : NestV pshp Wq (w.heap.size + 1 + 1) v vs xs) {o : Obj}
    (ho : W'.ownsRow (w.heap.size + 1 + 1) 53 1 v' (vs.length + 1) (((vs.zip xs).flatMap fun p => pshp.oc p.1 p.2) ++ pshp.oc u l)) (hg : (W.alloc o).grownBy W' v.ownBlock) : GWS w B A c s v' (xs ++ [l]) W' := by
  have hl := h.lo
  have hsn := hn.snoc (x := l) h.md (fun k hk => by unfold Is at hk; omega) (by omega) (ownS_base h.own (by omega)) o ho hg
  obtain ⟨_, _, _, hq⟩ := h.q
  have hon := (hn.mods h.md fun k h1 _ h2 => by unfold Is at h2; omega).outer
  have hb : Below (w.heap.size + 1 + 1) W W' := ((Below.refl _ W).alloc (by omega) o).grown hg (by rw [World.size_alloc]; omega) fun k hk => (ownS_lt hon k hk).1
  have hz := (hq.z3.mods h.md (fun e => by unfold Is at e; omega)).below hb (by omega)
  exact ⟨h.blw.trans (hb.mono (by omega)), h.inb.below hb (by omega), hz, h.ip.below (hb.mono (by omega)), ⟨_, hsn⟩⟩

end

/-- What Get returns. -/
def RGW (w : World) (B : Nat) (xs : List (List Pr)) (t : Ip) (e : Ending) (w' : World) : Prop :=
  ∃ v vs A' c', e = .returned (.tuple #[v, .agg #[.slice A' t.rest.length c', .int .i64 t.err]]) ∧ NestV pshp w' w.heap.size v vs xs ∧ IpV w' B A' c' t ∧ Below w.heap.size w w'

end Go.Proofs.Ythehcdajedaefaa
