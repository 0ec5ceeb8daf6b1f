/-
  An own list of own byte slices, of which those from the k-th on still hold what they held; and one whose k-th is being turned.
-/
import Derived.Test.YtgipdebkikldaaaSecLst
import Derived.Test.YtgipdebkikldaaaOwnB
namespace Go.Proofs.Ytgipdebkikldaaa
open Go.RowKit
set_option linter.unusedVariables false

structure TailL (w : World) (H : Nat) (A : Option Addr) (n c k : Nat) (vs : List Value) (xs : List (List Nat)) : Prop where
  outer : ∃ ws : List Value, ws.length = n ∧ (∀ j, k ≤ j → ws[j]? = vs[j]?) ∧ w.ownsRow H 22 1 (.slice A n c) n ws
  inner : ∀ (j : Nat) (u : Value) (x : List Nat), k ≤ j → vs[j]? = some u → xs[j]? = some x → w.ownsRow H 5 1 u x.length (bts x)
  len : vs.length = n ∧ xs.length = n
  dist : ∀ (i j : Nat) (u u' : Value) (g : Nat), vs[i]? = some u → vs[j]? = some u' → u.ownBlock = some g → u'.ownBlock = some g → i = j

structure Mid (w : World) (H : Nat) (A : Option Addr) (n c k : Nat) (vs : List Value) (xs : List (List Nat)) (g m cap : Nat) : Prop where
  outer : ∃ ws : List Value, ws.length = n ∧ ws[k]? = some (.slice (some ⟨g, 0, none⟩) m cap) ∧ (∀ j, k + 1 ≤ j → ws[j]? = vs[j]?) ∧ w.ownsRow H 22 1 (.slice A n c) n ws
  own : OwnB w H (some ⟨g, 0, none⟩) m cap
  inner : ∀ (j : Nat) (u : Value) (x : List Nat), k + 1 ≤ j → vs[j]? = some u → xs[j]? = some x → w.ownsRow H 5 1 u x.length (bts x) ∧ u.ownBlock ≠ some g
  len : vs.length = n ∧ xs.length = n
  dist : ∀ (i j : Nat) (u u' : Value) (g : Nat), vs[i]? = some u → vs[j]? = some u' → u.ownBlock = some g → u'.ownBlock = some g → i = j

theorem ne_types : (22 : TypeId) ≠ 5 := by decide

section
variable {w w' : World} {H n c k g m cap : Nat} {A : Option Addr} {vs : List Value} {xs : List (List Nat)}
theorem LstV.tail (h : LstV w H (.slice A n c) vs xs) (hn : xs.length = n) : TailL w H A n c 0 vs xs := by
  have hl : vs.length = n := h.len.trans hn
  exact ⟨⟨vs, hl, fun _ _ => rfl, by have := h.outer; rwa [hl] at this⟩, fun j u x _ h1 h2 => h.inner j u x h1 h2, ⟨hl, hn⟩, h.dist⟩
theorem TailL.drewN (h : TailL w H A n c k vs xs) (q : Nat) : TailL (w.drewN q) H A n c k vs xs := ⟨h.outer, h.inner, h.len, h.dist⟩
theorem TailL.cell (h : TailL w H A n c k vs xs) (hk : k < n) (hkx : k < xs.length) : ∃ go u, A = some ⟨go, 0, none⟩ ∧ H ≤ go ∧ vs[k]? = some u ∧ w.cell? ⟨go, k, none⟩ = some u ∧ w.frozen? ⟨go, k, none⟩ = false ∧
    w.ownsRow H 5 1 u xs[k].length (bts xs[k]) := by
  obtain ⟨ws, h1, h2, h3⟩ := h.outer
  obtain ⟨go, rfl, hg⟩ := own_addr h3 hk
  have hkv : k < vs.length := by rw [h.len.1]; exact hk
  have hv : vs[k]? = some vs[k] := List.getElem?_eq_getElem hkv
  exact ⟨go, vs[k], rfl, hg, hv, (h3.cellAt k (by omega)).trans ((h2 k (Nat.le_refl _)).trans hv), h3.frozenAt k, h.inner k _ _ (Nat.le_refl _) hv (List.getElem?_eq_getElem hkx)⟩

/-- The k-th is appended to, and stored again. -/
theorem TailL.mid {u : Value} {go : Nat} {zs : List Int} {o : Obj} (h : TailL w H (some ⟨go, 0, none⟩) n c k vs xs) (hk : k < n) (hH : H ≤ w.heap.size) (hu : vs[k]? = some u)
    (ho : w'.ownsRow H 5 1 (.slice (some ⟨g, 0, none⟩) m cap) m (zs.map (Value.int .u8))) (hg : (w.alloc o).grownBy w' u.ownBlock) (hat : u.ownBlock = some g ∨ g = w.heap.size + 1) :
    Mid (w'.setCell ⟨go, k, none⟩ (.slice (some ⟨g, 0, none⟩) m cap)) H (some ⟨go, 0, none⟩) n c k vs xs g m cap := by
  obtain ⟨ws, h1, h2, h3⟩ := h.outer
  have hkx : k < xs.length := by rw [h.len.2]; exact hk
  have hin := h.inner k u _ (Nat.le_refl _) hu (List.getElem?_eq_getElem hkx)
  have hG : Mods (fun b => u.ownBlock = some b) w w' := ((Mods.refl _ w).alloc o).grown hg fun b hb => .inl hb
  have h3' := hG.own h3 fun b hb hs => own_ne h3 hin ne_types b hb hs
  have hst := h3'.stored k (.slice (some ⟨g, 0, none⟩) m cap)
  have hgo : ∀ b, (Value.slice (some ⟨go, 0, none⟩) n c).ownBlock = some b → b = go := fun b hb => by
    simp only [Value.ownBlock, Option.some.injEq] at hb
    exact hb.symm
  have hS : Mods (Is go) w' (w'.setCell ⟨go, k, none⟩ (.slice (some ⟨g, 0, none⟩) m cap)) := (Mods.refl _ _).put k _
  have hgl : g < w'.heap.size := (own_lt ho g rfl).2
  refine ⟨⟨ws.set k (.slice (some ⟨g, 0, none⟩) m cap), by simp [h1], by simp [h1, hk], fun j hj => ?_, hst.1⟩, ⟨zs, by have := ho.1; simpa using this, hS.own ho fun b hb hs => ?_⟩, fun j u' x hj hv hx => ⟨?_, fun hb => ?_⟩, h.len, h.dist⟩
  · rw [List.getElem?_set_ne (by omega)]
    exact h2 j (by omega)
  · unfold Is at hs
    subst hs
    exact own_ne h3' ho ne_types b rfl hb
  · have hj' := h.inner j u' x (by omega) hv hx
    have hj2 := hG.own hj' fun b hb hs => by
      have := h.dist j k u' u b hv hu hb hs
      omega
    exact hS.own hj2 fun b hb hs => by
      unfold Is at hs
      subst hs
      exact own_ne h3' hj2 ne_types b rfl hb
  · have hj' := h.inner j u' x (by omega) hv hx
    rcases hat with h4 | h4
    · have := h.dist j k u' u g hv hu hb h4
      omega
    · have := (own_lt hj' g hb).2
      omega

theorem TailL.after {u : Value} {go : Nat} {o : Obj} (h : TailL w H (some ⟨go, 0, none⟩) n c k vs xs) (hk : k < n) (hu : vs[k]? = some u) (hg : (w.alloc o).grownBy w' u.ownBlock) :
    w'.cell? ⟨go, k, none⟩ = some u ∧ w'.frozen? ⟨go, k, none⟩ = false := by
  obtain ⟨ws, h1, h2, h3⟩ := h.outer
  have hkx : k < xs.length := by rw [h.len.2]; exact hk
  have hin := h.inner k u _ (Nat.le_refl _) hu (List.getElem?_eq_getElem hkx)
  have hG : Mods (fun b => u.ownBlock = some b) w w' := ((Mods.refl _ w).alloc o).grown hg fun b hb => .inl hb
  have h3' := hG.own h3 fun b hb hs => own_ne h3 hin ne_types b hb hs
  exact ⟨(h3'.cellAt k (by omega)).trans ((h2 k (Nat.le_refl _)).trans hu), h3'.frozenAt k⟩

theorem Mid.cell (h : Mid w H A n c k vs xs g m cap) (hk : k < n) : ∃ go, A = some ⟨go, 0, none⟩ ∧ w.cell? ⟨go, k, none⟩ = some (.slice (some ⟨g, 0, none⟩) m cap) := by
  obtain ⟨ws, h1, h2, _, h3⟩ := h.outer
  obtain ⟨go, rfl, hg⟩ := own_addr h3 hk
  exact ⟨go, rfl, (h3.cellAt k (by omega)).trans h2⟩
theorem Mid.put (h : Mid w H A n c k vs xs g m cap) {i : Nat} (hi : i < m) : H ≤ g ∧ ∃ y : Int, w.cell? ⟨g, i, none⟩ = some (.int .u8 y) ∧ w.frozen? ⟨g, i, none⟩ = false ∧ ∀ z : Int, Mid (w.setCell ⟨g, i, none⟩ (.int .u8 z)) H A n c k vs xs g m cap := by
  obtain ⟨g', y, hA, hg, hc, hf, hs⟩ := h.own.cell hi
  injection hA with hA
  injection hA with hA
  subst hA
  refine ⟨hg, y, hc, hf, fun z => ?_⟩
  have hS : Mods (Is g) w (w.setCell ⟨g, i, none⟩ (.int .u8 z)) := (Mods.refl _ _).put i _
  obtain ⟨ws, h1, h2, h3, h4⟩ := h.outer
  obtain ⟨zs, hz, ho⟩ := h.own
  refine ⟨⟨ws, h1, h2, h3, hS.own h4 fun b hb hs => ?_⟩, hs z, fun j u x hj hv hx => ⟨hS.own (h.inner j u x hj hv hx).1 fun b hb hs => ?_, (h.inner j u x hj hv hx).2⟩, h.len, h.dist⟩
  · unfold Is at hs
    subst hs
    exact own_ne h4 ho ne_types b hb rfl
  · unfold Is at hs
    subst hs
    exact (h.inner j u x hj hv hx).2 hb
theorem Mid.tail (h : Mid w H A n c k vs xs g m cap) : TailL w H A n c (k + 1) vs xs := by
  obtain ⟨ws, h1, h2, h3, h4⟩ := h.outer
  exact ⟨⟨ws, h1, h3, h4⟩, fun j u x hj hv hx => (h.inner j u x hj hv hx).1, h.len, h.dist⟩
end

end Go.Proofs.Ytgipdebkikldaaa
