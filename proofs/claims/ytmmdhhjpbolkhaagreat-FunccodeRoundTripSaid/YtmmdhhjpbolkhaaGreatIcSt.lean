/-
  Several lists of bytes of one's own, made one after the other in a region that draws its order; one is appended to another.
-/
import Derived.Test.YtmmdhhjpbolkhaaGreatPk1
import Derived.Deep.AppendLies
namespace Go.Proofs.YtmmdhhjpbolkhaaGreat
open Go.RowKit
set_option linter.unusedVariables false

/-- An own list: its block, capacity, length, bytes. -/
def OL (b : Nat) (x : Nat × Nat × Nat × List Nat) (W : World) : Prop := W.ownsRow b 5 1 (.slice (some ⟨x.1, 0, none⟩) x.2.2.1 x.2.1) x.2.2.1 (bts x.2.2.2)

theorem own_base17 {w : World} {base base' : Nat} {e : TypeId} {size : Nat} {v : Value} {n : Nat} {xs : List Value} (h : w.ownsRow base e size v n xs) (hb : base' ≤ base) : w.ownsRow base' e size v n xs :=
  ⟨h.1, h.2.elim .inl fun ⟨g, cap, cur, hv, hg, r⟩ => .inr ⟨g, cap, cur, hv, Nat.le_trans hb hg, r⟩⟩

theorem OL.lt {b : Nat} {x : Nat × Nat × Nat × List Nat} {W : World} (h : OL b x W) : b ≤ x.1 ∧ x.1 < W.heap.size := by
  rcases h.2 with ⟨h0, _⟩ | ⟨g, cap, cur, hv, hg, hh, _⟩
  · cases h0
  · injection hv with hv _ _
    injection hv with hv
    injection hv with hv _ _
    subst hv
    exact ⟨hg, (Array.getElem?_eq_some_iff.1 hh).1⟩

theorem OL.block {b : Nat} {x : Nat × Nat × Nat × List Nat} {W W' : World} (h : OL b x W) (hb : W'.heap[x.1]? = W.heap[x.1]?) : OL b x W' := by
  obtain ⟨h1, h2⟩ := h
  refine ⟨h1, ?_⟩
  rcases h2 with h2 | ⟨g, cap, cur, hv, hg, hh, r⟩
  · exact .inl h2
  · have hv0 := hv
    injection hv0 with hv0 _ _
    injection hv0 with hv0
    injection hv0 with hv0 _ _
    rw [hv0] at hb
    exact .inr ⟨g, cap, cur, hv, hg, hb.trans hh, r⟩

structure ST (Wt : World) (L : List (Nat × Nat × Nat × List Nat)) (W : World) : Prop where
  blw : Below Wt.heap.size Wt W
  own : ∀ x ∈ L, OL Wt.heap.size x W
  nd : (L.map (·.1)).Nodup

section
variable {Wt W W' : World} {L R : List (Nat × Nat × Nat × List Nat)}

theorem ST.new (W : World) : ST W [] W := ⟨Below.refl _ _, fun x hx => (by cases hx), List.nodup_nil⟩

theorem ST.drewN (h : ST Wt L W) (n : Nat) : ST Wt L (W.drewN n) := ⟨⟨h.blw.os, h.blw.tape, h.blw.output, h.blw.size, h.blw.block⟩, fun x hx => (h.own x hx).block rfl, h.nd⟩

theorem ST.drew (h : ST Wt L W) : ST Wt L W.drew := ⟨⟨h.blw.os, h.blw.tape, h.blw.output, h.blw.size, h.blw.block⟩, fun x hx => (h.own x hx).block rfl, h.nd⟩

theorem ST.call (h : ST Wt L W) {g c n : Nat} {l : List Nat} (hb : Below W.heap.size W W') (ho : W'.ownsRow W.heap.size 5 1 (.slice (some ⟨g, 0, none⟩) n c) n (bts l)) : ST Wt (L ++ [(g, c, n, l)]) W' := by
  have hg : OL W.heap.size (g, c, n, l) W' := ho
  have hgl := hg.lt.1
  refine ⟨h.blw.trans (hb.mono h.blw.size), fun x hx => ?_, ?_⟩
  · rcases List.mem_append.1 hx with hx | hx
    · exact (h.own x hx).block (hb.block x.1 (h.own x hx).lt.2)
    · obtain rfl := List.mem_singleton.1 hx
      exact own_base17 ho h.blw.size
  · rw [List.map_append, List.nodup_append]
    refine ⟨h.nd, by simp, fun a ha b hb' => ?_⟩
    obtain ⟨x, hx, rfl⟩ := List.mem_map.1 ha
    simp only [List.map_cons, List.map_nil, List.mem_singleton] at hb'
    subst hb'
    have := (h.own x hx).lt.2
    dsimp only at hgl
    omega

theorem ST.app {g1 c1 n1 g2 c2 n2 : Nat} {l1 l2 : List Nat} (h : ST Wt ((g1, c1, n1, l1) :: (g2, c2, n2, l2) :: R) W) {g c : Nat} (ho : W'.ownsRow Wt.heap.size 5 1 (.slice (some ⟨g, 0, none⟩) (n1 + n2) c) (n1 + n2) (bts l1 ++ bts l2))
    (hg : W.grownBy W' (some g1)) (hat : some g1 = some g ∨ g = W.heap.size) : ST Wt ((g, c, n1 + n2, l1 ++ l2) :: R) W' := by
  have h1 := (h.own _ List.mem_cons_self).lt
  dsimp only at h1
  have hnd := h.nd
  simp only [List.map_cons, List.nodup_cons, List.mem_cons, not_or] at hnd
  have hR : ∀ x ∈ R, x.1 ≠ g1 := fun x hx e => hnd.1.2 (e ▸ List.mem_map.2 ⟨x, hx, rfl⟩)
  refine ⟨h.blw.grown hg h.blw.size (fun k hk => by injection hk with hk; omega), fun x hx => ?_, ?_⟩
  · rcases List.mem_cons.1 hx with rfl | hx
    · show W'.ownsRow _ _ 1 _ _ (bts (l1 ++ l2))
      rw [bts_append]
      exact ho
    · have hx' := h.own x (List.mem_cons_of_mem _ (List.mem_cons_of_mem _ hx))
      exact hx'.block (hg.block x.1 hx'.lt.2 (fun e => by injection e with e; exact hR x hx e))
  · simp only [List.map_cons, List.nodup_cons]
    refine ⟨fun hm => ?_, hnd.2.2⟩
    obtain ⟨x, hx, e⟩ := List.mem_map.1 hm
    have hx' := (h.own x (List.mem_cons_of_mem _ (List.mem_cons_of_mem _ hx))).lt.2
    have hne := hR x hx
    rcases hat with hat | hat
    · injection hat with hat; omega
    · omega

theorem ST.fst {x : Nat × Nat × Nat × List Nat} (h : ST Wt (x :: R) W) : OL Wt.heap.size x W := h.own _ List.mem_cons_self

theorem ST.snd {x y : Nat × Nat × Nat × List Nat} (h : ST Wt (x :: y :: R) W) : OL Wt.heap.size y W := h.own _ (List.mem_cons_of_mem _ List.mem_cons_self)

theorem OL.news {b : Nat} {x : Nat × Nat × Nat × List Nat} (h : OL b x W) : ∀ j u, (bts x.2.2.2)[j]? = some u → W.cell? ((⟨x.1, 0, none⟩ : Addr).add j) = some u := fun j u hu => World.ownsRow.cells h (g := x.1) rfl j u hu

end

end Go.Proofs.YtmmdhhjpbolkhaaGreat
