import Derived.Test.YtkapmfopfddmbaaPk1
import Derived.Deep.AppendLies
import Derived.Deep.RegionHeld3
import Derived.Shelf.SlSortCmp.QuietGrown
import Derived.Lib.Small
import Derived.Deep.Cut
import Derived.Deep.CutRange
import Derived.Deep.DeepMust
import Derived.Laws.StructEq

/-
  A slice that a call owns, each of whose elements owns a slice of its own: no two share a block. For elements of any sizes.
-/
namespace Go.Proofs.Ytkapmfopfddmbaa
open Go.RowKit
set_option linter.unusedVariables false

section
variable {w w' : World} {base n s : Nat} {e : TypeId} {v : Value} {xs : List Value}

theorem ownS_lt (h : w.ownsRow base e s v n xs) (k : Nat) (hk : v.ownBlock = some k) : base ≤ k ∧ k < w.heap.size := by
  rcases h.2 with ⟨rfl, _⟩ | ⟨g, cap, cur, rfl, hg, hh, _⟩
  · simp [Value.ownBlock] at hk
  · have : g = k := by simpa [Value.ownBlock] using hk
    subst this
    exact ⟨hg, (Array.getElem?_eq_some_iff.1 hh).1⟩

theorem ownS_slice (h : w.ownsRow base e s v n xs) : ∃ A c, v = .slice A n c ∧ n ≤ c ∧ c ≤ maxLen := by
  rcases h.2 with ⟨rfl, h0⟩ | ⟨g, cap, cur, rfl, _, _, h1, h2, _⟩
  · subst h0
    exact ⟨none, 0, rfl, Nat.le_refl _, Nat.zero_le _⟩
  · exact ⟨_, cap, rfl, h1, h2⟩

theorem ownS_base {base' : Nat} (h : w.ownsRow base e s v n xs) (hb : base' ≤ base) : w.ownsRow base' e s v n xs :=
  ⟨h.1, by
    rcases h.2 with h | ⟨g, cap, cur, h1, h2, h3⟩
    · exact .inl h
    · exact .inr ⟨g, cap, cur, h1, Nat.le_trans hb h2, h3⟩⟩

theorem ownS_ne {base' m s' : Nat} {e' : TypeId} {u : Value} {ys : List Value} (h : w.ownsRow base e s v n xs) (k : w.ownsRow base' e' s' u m ys) (he : e ≠ e') (g : Nat) (hv : v.ownBlock = some g) (hu : u.ownBlock = some g) : False := by
  rcases h.2 with ⟨rfl, _⟩ | ⟨a, cap, cur, rfl, _, h1, _⟩
  · cases hv
  · rcases k.2 with ⟨rfl, _⟩ | ⟨b, cap', cur', rfl, _, h2, _⟩
    · cases hu
    · simp only [Value.ownBlock, Option.some.injEq] at hv hu
      subst hv
      rw [hu] at h2
      rw [h1] at h2
      simp only [Option.some.injEq, Obj.cells.injEq] at h2
      exact he h2.2.1

theorem Mods.ownS {S : Nat → Prop} (h : Mods S w w') (ho : w.ownsRow base e s v n xs) (hS : ∀ k, v.ownBlock = some k → ¬ S k) : w'.ownsRow base e s v n xs := by
  obtain ⟨h1, h2⟩ := ho
  refine ⟨h1, ?_⟩
  rcases h2 with h2 | ⟨g, cap, cur, rfl, hg, hh, r⟩
  · exact Or.inl h2
  · exact Or.inr ⟨g, cap, cur, rfl, hg, (h.block g (Array.getElem?_eq_some_iff.1 hh).1 (hS g (by simp [Value.ownBlock]))).trans hh, r⟩

theorem sees_own {A : Option Addr} {c : Nat} (h : w.ownsRow base e s (.slice A n c) n xs) : Sees w w.heap.size A xs := fun hn => by
  rcases h.2 with ⟨h0, h1⟩ | ⟨g, cap, cur, hv, _, hg, _⟩
  · exact absurd (List.eq_nil_of_length_eq_zero (by have := h.1; rw [h1] at this; omega)) hn
  · injection hv with hA
    subst hA
    refine ⟨g, 0, rfl, (Array.getElem?_eq_some_iff.1 hg).1, fun i u hu => ?_⟩
    have := h.cells (g := g) rfl i u hu
    simpa [Addr.add_lit] using this

/-- A store into a block of its own. -/
theorem ownS_put {g : Nat} (h : w.ownsRow base e s v n xs) (hg : v.ownBlock = some g) {j : Nat} (hj : j < xs.length) (u : Value) : (w.setCell ⟨g, j, none⟩ u).ownsRow base e s v n (xs.set j u) := by
  refine ⟨by rw [List.length_set]; exact h.1, ?_⟩
  rcases h.2 with ⟨rfl, _⟩ | ⟨g', cap, cur, rfl, hb, hh, h1, h2, h3, h4⟩
  · cases hg
  · simp only [Value.ownBlock, Option.some.injEq] at hg
    subst hg
    refine .inr ⟨g', cap, cur.setIfInBounds j u, rfl, hb, ?_, h1, h2, by simpa using h3, ?_⟩
    · exact Row.put (w := w) (p := g') (T := e) (cs := cur) hh j u
    · rw [Array.toList_setIfInBounds, ← h4, List.take_set]

/-- A slice without elements, in a block of its own. -/
theorem own_empty (W : World) (e : TypeId) (s : Nat) : (W.alloc (.cells #[] e)).ownsRow W.heap.size e s (.slice (some ⟨W.heap.size, 0, none⟩) 0 0) 0 [] :=
  ⟨by simp, .inr ⟨W.heap.size, 0, #[], rfl, Nat.le_refl _, heap_alloc_new W _, Nat.le_refl _, Nat.zero_le _, by simp, by simp⟩⟩

end

section
variable {P : Program} (w : World)

theorem run_append_none' (base : Nat) (t ty e : TypeId) (i : TypeInfo) (size : Nat) (ht : P.underlying t = some (.slice e)) (hi : P.info? e = some i)
    (v : Value) (n : Nat) (xs : List Value) (hown : w.ownsRow base e size v n xs) (c : Nat) : (Builtin.append_ #[t, t] ty #[v, .slice none 0 c]).run P w = .ok v w := by
  rcases hown.2 with ⟨rfl, rfl⟩ | ⟨g, cap, cur, rfl, _, _, hnc, _⟩
  · simp [Builtin.append_, run_underlying ht, sizeOf, typeInfo, hi, Builtin.lenOf, Builtin.firstCells]
  · simp [Builtin.append_, run_underlying ht, sizeOf, typeInfo, hi, Builtin.lenOf, Builtin.firstCells, hnc, storeCells]

/-- Appending a slice that is seen (nil, empty or not). -/
theorem run_append_any (base : Nat) (t ty e : TypeId) (i : TypeInfo) (z : Value) (size bytes : Nat) (ht : P.underlying t = some (.slice e)) (hi : P.info? e = some i) (hz : i.zero = some z)
    (hsize : i.size = size) (hby : i.bytes = bytes) (hzs : z.cells.size = size) (hsz : 0 < size)
    (v : Value) (n : Nat) (xs : List Value) (hown : w.ownsRow base e size v n xs)
    (B : Nat) (A : Option Addr) (m c : Nat) (news : List Value) (hr : Sees w B A news) (hl : news.length = m * size) (h1 : ∀ u ∈ news, u.oneCell' = true)
    (h63 : n + m ≤ maxLen) (hbytes : (n + m) * bytes ≤ 140737488355328) (hbase : base ≤ w.heap.size) :
    ∃ v' w', (Builtin.append_ #[t, t] ty #[v, .slice A m c]).run P w = .ok v' w' ∧ w'.ownsRow base e size v' (n + m) (xs ++ news) ∧ w.grownBy w' v.ownBlock ∧ (v'.ownBlock = v.ownBlock ∨ v'.ownBlock = some w.heap.size) := by
  rcases A with _ | ad
  · have hn : news = [] := by
      rcases news with _ | ⟨y, ys⟩
      · rfl
      · obtain ⟨b, o, h, _⟩ := hr (by simp)
        cases h
    subst hn
    obtain rfl : m = 0 := by
      rcases Nat.eq_zero_or_pos m with h | h
      · exact h
      · have := Nat.mul_pos h hsz
        simp at hl
        omega
    exact ⟨v, w, run_append_none' (P := P) w base t ty e i size ht hi v n xs hown c, by simpa using hown, World.grownBy.refl _ _, .inl rfl⟩
  · obtain ⟨v', w', a1, a2, a3, _, a5⟩ := run_append_own_at (P := P) w base t ty e i z size bytes ht hi hz hsize hby hzs hsz v n xs hown ad m c news hl (fun j u hu => by
      obtain ⟨b, o, hA, _, hc⟩ := hr (by intro e; subst e; simp at hu)
      injection hA with hA
      subst hA
      simpa [Addr.add_lit] using hc j u hu) h1 h63 hbytes hbase
    exact ⟨v', w', a1, a2, a3, a5⟩

/-- The same at a step of a region that draws its order. -/
theorem step_append_any {ops : Array Oper} {o : Oper} {a : Act} {K : Act → World → Prop} {Q : Exit → Act → World → Prop} {E : Prop} (hgd : o.guard = none) (s x : Operand) (t : TypeId)
    (ho : o.op = .call { callee := .builtin .append, args := #[s, x], argTypes := #[t, t] })
    (base : Nat) (e : TypeId) (i : TypeInfo) (z : Value) (size bytes : Nat) (ht : P.underlying t = some (.slice e)) (hi : P.info? e = some i) (hz : i.zero = some z)
    (hsize : i.size = size) (hby : i.bytes = bytes) (hzs : z.cells.size = size) (hsz : 0 < size)
    (v : Value) (n : Nat) (xs : List Value) (hs : a.eval s = v) (hown : w.ownsRow base e size v n xs)
    (B : Nat) (A : Option Addr) (m c : Nat) (news : List Value) (hx : a.eval x = .slice A m c) (hr : Sees w B A news) (hl : news.length = m * size) (h1 : ∀ u ∈ news, u.oneCell' = true)
    (h63 : n + m ≤ maxLen) (hbytes : (n + m) * bytes ≤ 140737488355328) (hbase : base ≤ w.heap.size)
    (h : ∀ v' w', w'.ownsRow base e size v' (n + m) (xs ++ news) → w.grownBy w' v.ownBlock → (v'.ownBlock = v.ownBlock ∨ v'.ownBlock = some w.heap.size) → K (a.put o.dst v') w') :
    if Region.wanted o (yielded ops a.tmps) = true then Oper.wp P o a w K Q else E := by
  have hw : Region.wanted o (yielded ops a.tmps) = true := by simp [Region.wanted, hgd]
  rw [if_pos hw]
  obtain ⟨v', w', hr2, h2, h3, h4⟩ := run_append_any (P := P) w base t o.type e i z size bytes ht hi hz hsize hby hzs hsz v n xs hown B A m c news hr hl h1 h63 hbytes hbase
  unfold Oper.wp execOp
  simp only [ho, resolve, invoke, builtin, Sem.run_bind, Sem.run_pure, Result.andThen_ok, List.map_toArray, List.map_cons, List.map_nil, hs, hx, hr2]
  exact h v' w' h2 h3 h4

end

/-- How the elements lie: the outer and inner element types and sizes; an element's outer cells (given its inner slice) and inner cells. -/
structure Shp (α : Type) where
  eo : TypeId
  ei : TypeId
  so : Nat
  si : Nat
  oc : Value → α → List Value
  ic : α → List Value
  il : α → Nat
  ne : eo ≠ ei
  hoc : ∀ u x, (oc u x).length = so

structure NestV {α : Type} (S : Shp α) (w : World) (base : Nat) (v : Value) (vs : List Value) (xs : List α) : Prop where
  outer : w.ownsRow base S.eo S.so v vs.length ((vs.zip xs).flatMap fun p => S.oc p.1 p.2)
  len : vs.length = xs.length
  inner : ∀ (i : Nat) (u : Value) (x : α), vs[i]? = some u → xs[i]? = some x → w.ownsRow base S.ei S.si u (S.il x) (S.ic x)
  dist : ∀ (i j : Nat) (u u' : Value) (g : Nat), vs[i]? = some u → vs[j]? = some u' → u.ownBlock = some g → u'.ownBlock = some g → i = j

section
variable {α : Type} {S : Shp α} {w w' w0 : World} {base : Nat} {v v' u : Value} {vs : List Value} {xs : List α} {x : α}

theorem NestV.nil (w : World) (base : Nat) : NestV S w base (.slice none 0 0) [] [] :=
  ⟨⟨by simp, .inl ⟨rfl, rfl⟩⟩, rfl, fun i u x h => by simp at h, fun i j u u' g h => by simp at h⟩

theorem NestV.get (h : NestV S w base v vs xs) {i : Nat} {u : Value} (hu : vs[i]? = some u) : ∃ x, xs[i]? = some x ∧ w.ownsRow base S.ei S.si u (S.il x) (S.ic x) := by
  have hi : i < vs.length := (List.getElem?_eq_some_iff.1 hu).1
  have hi' : i < xs.length := by rw [← h.len]; exact hi
  exact ⟨xs[i], List.getElem?_eq_getElem hi', h.inner i u _ hu (List.getElem?_eq_getElem hi')⟩

theorem NestV.got (h : NestV S w base v vs xs) {i : Nat} (hi : i < xs.length) : ∃ u, vs[i]? = some u ∧ w.ownsRow base S.ei S.si u (S.il xs[i]) (S.ic xs[i]) := by
  have hi' : i < vs.length := by rw [h.len]; exact hi
  exact ⟨vs[i], List.getElem?_eq_getElem hi', h.inner i _ _ (List.getElem?_eq_getElem hi') (List.getElem?_eq_getElem hi)⟩

theorem NestV.mods {M : Nat → Prop} (h : NestV S w base v vs xs) (hm : Mods M w w') (hS : ∀ k, base ≤ k → k < w.heap.size → ¬ M k) : NestV S w' base v vs xs :=
  ⟨hm.ownS h.outer fun k hk => by
      have := ownS_lt h.outer k hk
      exact hS k this.1 this.2, h.len,
    fun i u x h1 h2 => hm.ownS (h.inner i u x h1 h2) fun k hk => by
      have := ownS_lt (h.inner i u x h1 h2) k hk
      exact hS k this.1 this.2, h.dist⟩

theorem NestV.below (h : NestV S w base v vs xs) (hb : Below w.heap.size w w') : NestV S w' base v vs xs := h.mods (M := No) (Mods.of_below hb) fun _ _ _ h => h

theorem NestV.rebase (h : NestV S w base v vs xs) {base' : Nat} (hb : base' ≤ base) : NestV S w base' v vs xs :=
  ⟨ownS_base h.outer hb, h.len, fun i u x h1 h2 => ownS_base (h.inner i u x h1 h2) hb, h.dist⟩

theorem zip_snoc {β : Type} (vs : List β) (xs : List α) (u : β) (x : α) (h : vs.length = xs.length) : (vs ++ [u]).zip (xs ++ [x]) = vs.zip xs ++ [(u, x)] := by
  rw [List.zip_append h]
  rfl

/-- One more element, made since, is appended. -/
theorem NestV.snoc {M : Nat → Prop} (h : NestV S w0 base v vs xs) (hm : Mods M w0 w) (hS : ∀ k, M k → k < base) (hb : base ≤ w0.heap.size) (hu : w.ownsRow w0.heap.size S.ei S.si u (S.il x) (S.ic x)) (o : Obj)
    (ho : w'.ownsRow base S.eo S.so v' (vs.length + 1) (((vs.zip xs).flatMap fun p => S.oc p.1 p.2) ++ S.oc u x)) (hg : (w.alloc o).grownBy w' v.ownBlock) : NestV S w' base v' (vs ++ [u]) (xs ++ [x]) := by
  have hS' : ∀ k, base ≤ k → k < w0.heap.size → ¬ M k := fun k h1 _ h3 => by have := hS k h3; omega
  have h1 := h.mods hm hS'
  have hG : Mods (fun k => v.ownBlock = some k) w w' := ((Mods.refl _ _).alloc o).grown hg fun k hk => .inl hk
  have hnew : ∀ (i : Nat) (u' : Value), vs[i]? = some u' → ∀ g, u'.ownBlock = some g → u.ownBlock = some g → False := fun i u' hi g h2 h3 => by
    obtain ⟨x', _, hx'⟩ := h.get hi
    have a := ownS_lt hx' g h2
    have b := ownS_lt hu g h3
    omega
  refine ⟨?_, by simp [h.len], fun i u' y hi hy => ?_, fun i j a b g hi hj ha hb => ?_⟩
  · rw [List.length_append, zip_snoc _ _ _ _ h.len, List.flatMap_append]
    simpa using ho
  · rcases Nat.lt_trichotomy i vs.length with hl | hl | hl
    · rw [List.getElem?_append_left hl] at hi
      rw [List.getElem?_append_left (by rw [← h.len]; exact hl)] at hy
      have hin := h1.inner i u' y hi hy
      exact hG.ownS hin fun k hk hs => ownS_ne h1.outer hin S.ne k hs hk
    · subst hl
      rw [List.getElem?_append_right (Nat.le_refl _), Nat.sub_self] at hi
      rw [h.len, List.getElem?_append_right (Nat.le_refl _), Nat.sub_self] at hy
      injection hi with hi
      injection hy with hy
      subst hi
      subst hy
      exact hG.ownS (ownS_base hu hb) fun k hk hs => ownS_ne h1.outer hu S.ne k hs hk
    · rw [List.getElem?_eq_none (by simp; omega)] at hi
      cases hi
  · have hI : ∀ (i : Nat) (a : Value), (vs ++ [u])[i]? = some a → (vs[i]? = some a) ∨ (i = vs.length ∧ a = u) := fun i a hi => by
      rcases Nat.lt_trichotomy i vs.length with hl | hl | hl
      · rw [List.getElem?_append_left hl] at hi
        exact .inl hi
      · subst hl
        rw [List.getElem?_append_right (Nat.le_refl _), Nat.sub_self] at hi
        injection hi with hi
        exact .inr ⟨rfl, hi.symm⟩
      · rw [List.getElem?_eq_none (by simp; omega)] at hi
        cases hi
    rcases hI i a hi with h2 | ⟨h2, h3⟩
    · rcases hI j b hj with h4 | ⟨h4, h5⟩
      · exact h.dist i j a b g h2 h4 ha hb
      · subst h5
        exact (hnew i a h2 g ha hb).elim
    · subst h3
      rcases hI j b hj with h4 | ⟨h4, h5⟩
      · exact (hnew j b h4 g hb ha).elim
      · omega

theorem flat_set (f : Value → α → List Value) {x x' : α} (e3 : ∀ u, f u x' = f u x) : ∀ (vs : List Value) (xs : List α) (i : Nat), xs[i]? = some x → ((vs.zip (xs.set i x')).flatMap fun p => f p.1 p.2) = (vs.zip xs).flatMap fun p => f p.1 p.2
  | _, [], i, h => by simp at h
  | [], _ :: _, i, h => by simp
  | a :: vs, y :: r, 0, h => by
    simp only [List.getElem?_cons_zero, Option.some.injEq] at h
    subst h
    simp only [List.set_cons_zero, List.zip_cons_cons, List.flatMap_cons, e3]
  | a :: vs, y :: r, i + 1, h => by
    rw [List.getElem?_cons_succ] at h
    simp only [List.set_cons_succ, List.zip_cons_cons, List.flatMap_cons, flat_set f e3 vs r i h]

/-- A store into one element's inner slice. -/
theorem NestV.put (h : NestV S w base v vs xs) {i : Nat} {u : Value} {x x' : α} {g : Nat} (hu : vs[i]? = some u) (hx : xs[i]? = some x) (hg : u.ownBlock = some g) {j : Nat} (hj : j < (S.ic x).length) (z : Value)
    (e1 : S.ic x' = (S.ic x).set j z) (e2 : S.il x' = S.il x) (e3 : ∀ u, S.oc u x' = S.oc u x) : NestV S (w.setCell ⟨g, j, none⟩ z) base v vs (xs.set i x') := by
  have hin := h.inner i u x hu hx
  have hM : Mods (Is g) w (w.setCell ⟨g, j, none⟩ z) := (Mods.refl (Is g) w).put j z
  have hi : i < xs.length := (List.getElem?_eq_some_iff.1 hx).1
  refine ⟨?_, by simp [h.len], fun k a y ha hy => ?_, h.dist⟩
  · have hz : ((vs.zip (xs.set i x')).flatMap fun p => S.oc p.1 p.2) = (vs.zip xs).flatMap fun p => S.oc p.1 p.2 := flat_set S.oc e3 vs xs i hx
    rw [hz]
    exact hM.ownS h.outer fun k hk hs => ownS_ne h.outer hin S.ne g (by rw [← hs]; exact hk) hg
  · by_cases hki : k = i
    · subst hki
      rw [List.getElem?_set_self hi] at hy
      injection hy with hy
      subst hy
      rw [hu] at ha
      injection ha with ha
      subst ha
      rw [e1, e2]
      exact ownS_put hin hg hj z
    · rw [List.getElem?_set_ne (fun e => hki e.symm)] at hy
      exact hM.ownS (h.inner k a y ha hy) fun p hp hs => hki (h.dist k i a u g ha hu (by rw [hp, hs]) hg)

end

/-- Blocks as such elements. -/
def bshp : Shp Blk where
  eo := 106
  ei := 92
  so := 5
  si := 5
  oc := fun u x => [u, .int .i64 x.term.kind, .int .i64 x.term.a, .int .i64 x.term.to, .int .i64 x.term.el]
  ic := fun x => x.code.flatMap In.cells
  il := fun x => x.code.length
  ne := by decide
  hoc := fun _ _ => rfl

theorem insAt_sees {w : World} {B : Nat} {A : Option Addr} {xs : List In} (h : Sees w B A (xs.flatMap In.cells)) : InsAt w B A xs := fun hn => by
  have hg := flat_get In.cells 5 (fun _ => rfl) xs
  have hne : xs.flatMap In.cells ≠ [] := by
    rcases xs with _ | ⟨x, r⟩
    · exact absurd rfl hn
    · simp [In.cells]
  obtain ⟨b, o, e, hb, hc⟩ := h hne
  refine ⟨b, o, e, hb, fun i x hx => ⟨?_, ?_, ?_, ?_, ?_⟩⟩
  · exact hc _ _ (hg i x hx 0 _ rfl)
  · rw [Nat.add_assoc]; exact hc _ _ (hg i x hx 1 _ rfl)
  · rw [Nat.add_assoc]; exact hc _ _ (hg i x hx 2 _ rfl)
  · rw [Nat.add_assoc]; exact hc _ _ (hg i x hx 3 _ rfl)
  · rw [Nat.add_assoc]; exact hc _ _ (hg i x hx 4 _ rfl)

theorem flat_inv {α : Type} (f : α → List Value) (s : Nat) (hs : ∀ x, (f x).length = s) : ∀ (l : List α) (i : Nat) (u : Value), (l.flatMap f)[i]? = some u → ∃ k j x, l[k]? = some x ∧ (f x)[j]? = some u ∧ i = k * s + j
  | [], i, u, h => by simp at h
  | y :: r, i, u, h => by
    rw [List.flatMap_cons] at h
    rcases Nat.lt_or_ge i (f y).length with hi | hi
    · rw [List.getElem?_append_left hi] at h
      exact ⟨0, i, y, rfl, h, by omega⟩
    · rw [List.getElem?_append_right hi] at h
      obtain ⟨k, j, x, h1, h2, h3⟩ := flat_inv f s hs r _ u h
      rw [hs] at h3 hi
      exact ⟨k + 1, j, x, by rw [List.getElem?_cons_succ]; exact h1, h2, by rw [Nat.succ_mul]; omega⟩

theorem sees_insAt {w : World} {B : Nat} {A : Option Addr} {xs : List In} (h : InsAt w B A xs) : Sees w B A (xs.flatMap In.cells) := fun hn => by
  obtain ⟨b, o, e, hb, hc⟩ := h (by rintro rfl; exact hn rfl)
  refine ⟨b, o, e, hb, fun i u hu => ?_⟩
  obtain ⟨k, j, x, h1, h2, rfl⟩ := flat_inv In.cells 5 (fun _ => rfl) xs i u hu
  have hx := hc k x h1
  have hj : j < 5 := (List.getElem?_eq_some_iff.1 h2).1
  rcases (by omega : j = 0 ∨ j = 1 ∨ j = 2 ∨ j = 3 ∨ j = 4) with rfl | rfl | rfl | rfl | rfl
  · rw [← h2]; exact hx.c0
  · rw [← h2, ← Nat.add_assoc]; exact hx.c1
  · rw [← h2, ← Nat.add_assoc]; exact hx.c2
  · rw [← h2, ← Nat.add_assoc]; exact hx.c3
  · rw [← h2, ← Nat.add_assoc]; exact hx.c4

theorem ins_len (xs : List In) : (xs.flatMap In.cells).length = xs.length * 5 := by
  induction xs with
  | nil => rfl
  | cons x r ih => rw [List.flatMap_cons, List.length_append, ih, List.length_cons, show x.cells.length = 5 from rfl]; omega

theorem ins_one (xs : List In) : ∀ u ∈ xs.flatMap In.cells, u.oneCell' = true := by
  intro u hu
  obtain ⟨x, _, hx⟩ := List.mem_flatMap.1 hu
  simp only [In.cells, List.mem_cons, List.not_mem_nil, or_false] at hx
  rcases hx with rfl | rfl | rfl | rfl | rfl <;> rfl

/-- It is a slice, and shows its blocks. -/
theorem nest_blks {w : World} {base : Nat} {v : Value} {vs : List Value} {bs : List Blk} (h : NestV bshp w base v vs bs) : ∃ A c, v = .slice A bs.length c ∧ bs.length ≤ c ∧ c ≤ maxLen ∧ BlksAt w w.heap.size A bs := by
  have ho := h.outer
  obtain ⟨A, c, rfl, h1, h2⟩ := ownS_slice ho
  rw [h.len] at h1
  refine ⟨A, c, by rw [h.len], h1, h2, fun hn => ?_⟩
  have hg := flat_get (fun p : Value × Blk => bshp.oc p.1 p.2) 5 (fun _ => rfl) (vs.zip bs)
  have hz : ∀ i x, bs[i]? = some x → ∃ u, vs[i]? = some u ∧ (vs.zip bs)[i]? = some (u, x) := fun i x hx => by
    have hi : i < bs.length := (List.getElem?_eq_some_iff.1 hx).1
    have hi' : i < vs.length := by rw [h.len]; exact hi
    refine ⟨vs[i], List.getElem?_eq_getElem hi', ?_⟩
    rw [List.getElem?_zip_eq_some]
    exact ⟨List.getElem?_eq_getElem hi', hx⟩
  have hne : (vs.zip bs).flatMap (fun p => bshp.oc p.1 p.2) ≠ [] := by
    rcases bs with _ | ⟨x, r⟩
    · exact absurd rfl hn
    · obtain ⟨u, _, hu⟩ := hz 0 x rfl
      intro e
      have := hg 0 (u, x) hu 0 u rfl
      rw [e] at this
      cases this
  obtain ⟨b, o, e, hb, hc⟩ := sees_own ho hne
  refine ⟨b, o, e, hb, fun i x hx => ?_⟩
  obtain ⟨u, hu, hux⟩ := hz i x hx
  have hin := h.inner i u x hu hx
  obtain ⟨A', c', rfl, h3, h4⟩ := ownS_slice hin
  refine ⟨⟨A', c', hc _ _ (hg i _ hux 0 _ rfl), h3, h4, insAt_sees (sees_own hin)⟩, ?_, ?_, ?_, ?_⟩
  · rw [Nat.add_assoc]; exact hc _ _ (hg i _ hux 1 _ rfl)
  · rw [Nat.add_assoc]; exact hc _ _ (hg i _ hux 2 _ rfl)
  · rw [Nat.add_assoc]; exact hc _ _ (hg i _ hux 3 _ rfl)
  · rw [Nat.add_assoc]; exact hc _ _ (hg i _ hux 4 _ rfl)

end Go.Proofs.Ytkapmfopfddmbaa

/-
  Appending a slice that is seen to a slice that the call owns: with the block of the result.
-/
namespace Go.Proofs.Ytkapmfopfddmbaa
open Go.RowKit

theorem wpList_append_any {P : Program} (w : World) {ops : Array Oper} {rest : List Oper} {o : Oper} {a : Act} {Q : Exit → Act → World → Prop} (hgd : o.guard = none) (s x : Operand) (t : TypeId)
    (ho : o.op = .call { callee := .builtin .append, args := #[s, x], argTypes := #[t, t] })
    (base : Nat) (e : TypeId) (i : TypeInfo) (z : Value) (size bytes : Nat) (ht : P.underlying t = some (.slice e)) (hi : P.info? e = some i) (hz : i.zero = some z)
    (hsize : i.size = size) (hby : i.bytes = bytes) (hzs : z.cells.size = size) (hsz : 0 < size)
    (v : Value) (n : Nat) (xs : List Value) (hs : a.eval s = v) (hown : w.ownsRow base e size v n xs)
    (B : Nat) (A : Option Addr) (m c : Nat) (news : List Value) (hx : a.eval x = .slice A m c) (hr : Sees w B A news) (hl : news.length = m * size) (h1 : ∀ u ∈ news, u.oneCell' = true)
    (h63 : n + m ≤ maxLen) (hbytes : (n + m) * bytes ≤ 140737488355328) (hbase : base ≤ w.heap.size)
    (h : ∀ v' w', w'.ownsRow base e size v' (n + m) (xs ++ news) → w.grownBy w' v.ownBlock → (v'.ownBlock = v.ownBlock ∨ v'.ownBlock = some w.heap.size) → wpList P ops Q rest (a.put o.dst v') w') : wpList P ops Q (o :: rest) a w := by
  obtain ⟨v', w', hr2, h2, h3, h4⟩ := run_append_any (P := P) w base t o.type e i z size bytes ht hi hz hsize hby hzs hsz v n xs hown B A m c news hr hl h1 h63 hbytes hbase
  refine wpList_plain hgd fun K hK => ?_
  unfold Oper.wp execOp
  simp only [ho, resolve, invoke, builtin, Sem.run_bind, Sem.run_pure, Result.andThen_ok, List.map_toArray, List.map_cons, List.map_nil, hs, hx, hr2]
  exact hK _ _ (h v' w' h2 h3 h4)

end Go.Proofs.Ytkapmfopfddmbaa

/-
  Steps that draw and lay blocks, and turn nothing.
-/
namespace Go.Proofs.Ytkapmfopfddmbaa
open Go.RowKit
set_option linter.unusedVariables false

/-- A step that draws and lays blocks, and turns nothing. -/
def Grew (w w' : World) : Prop := ∃ n os, w' = Go.Sort.grow (w.drewN n) os

theorem Grew.refl (w : World) : Grew w w := ⟨0, #[], by rw [Go.Sort.grow_empty]; rfl⟩

theorem Grew.drewN {w w' : World} (h : Grew w w') (k : Nat) : Grew w (w'.drewN k) := by
  obtain ⟨n, os, rfl⟩ := h
  exact ⟨n + k, os, by rw [← World.drewN_drewN]; rfl⟩

theorem Grew.drew {w w' : World} (h : Grew w w') : Grew w w'.drew := h.drewN 1

theorem Grew.alloc {w w' : World} (h : Grew w w') (o : Obj) : Grew w (w'.alloc o) := by
  obtain ⟨n, os, rfl⟩ := h
  exact ⟨n, os ++ #[o], by rw [Go.Sort.alloc_eq_grow, Go.Sort.grow_grow]⟩

theorem Grew.trans {w w' w'' : World} (h : Grew w w') (k : Grew w' w'') : Grew w w'' := by
  obtain ⟨n, os, rfl⟩ := h
  obtain ⟨m, ot, rfl⟩ := k
  exact ⟨n + m, os ++ ot, by
    rw [← Go.Sort.grow_grow, ← World.drewN_drewN]
    rfl⟩

theorem Grew.below {w w' : World} (h : Grew w w') : Below w.heap.size w w' := by
  obtain ⟨n, os, rfl⟩ := h
  exact ⟨rfl, rfl, rfl, by simp [Go.Sort.grow, World.drewN], fun k hk => by simp [Go.Sort.grow, World.drewN, Array.getElem?_append, hk]⟩

theorem Grew.cell {w w' : World} (h : Grew w w') {p : Addr} {v : Value} (hc : w.cell? p = some v) : w'.cell? p = some v := by
  obtain ⟨n, os, rfl⟩ := h
  exact Go.cell_grown (World.block_lt_of_cell? w _ hc) hc n os

theorem Grew.row {w w' : World} (h : Grew w w') {p : Nat} {T : TypeId} {cs : Array Value} (hr : Row w p T cs) : Row w' p T cs := hr.below h.below hr.lt

theorem Grew.frozen {w w' : World} (h : Grew w w') {p : Nat} {T : TypeId} {cs : Array Value} (hr : Row w p T cs) (i : Nat) : w'.frozen? ⟨p, i, none⟩ = false := (h.row hr).frozen i

end Go.Proofs.Ytkapmfopfddmbaa

/-
  Lists of records of s cells each that a call owns.
-/
namespace Go.Proofs.Ytkapmfopfddmbaa
open Go.RowKit
set_option linter.unusedVariables false

/-- The value v is a list of records in memory of its own, new to the world w; of what was there nothing has turned. -/
structure RL {α : Type} (f : α → List Value) (s : Nat) (T : TypeId) (w : World) (v : Value) (l : List α) (wr : World) : Prop where
  own : wr.ownsRow w.heap.size T s v l.length (l.flatMap f)
  blw : Below w.heap.size w wr

theorem flatS_len {α : Type} {f : α → List Value} {s : Nat} (hs : ∀ x, (f x).length = s) : ∀ l : List α, (l.flatMap f).length = l.length * s
  | [] => by simp
  | x :: r => by rw [List.flatMap_cons, List.length_append, hs, flatS_len hs r, List.length_cons, Nat.succ_mul, Nat.add_comm]

theorem flat_one {α : Type} {f : α → List Value} (h : ∀ x, ∀ u ∈ f x, u.oneCell' = true) (l : List α) : ∀ u ∈ l.flatMap f, u.oneCell' = true := fun u hu => by
  obtain ⟨x, _, hx⟩ := List.mem_flatMap.1 hu
  exact h x u hx

theorem flat_put {α : Type} {f : α → List Value} {s : Nat} (hs : ∀ x, (f x).length = s) {y : α} {j : Nat} {u : Value} (hj : j < s) : ∀ (l : List α) (k : Nat) (hk : k < l.length), f y = (f l[k]).set j u → (l.set k y).flatMap f = (l.flatMap f).set (k * s + j) u
  | x :: r, 0, hk, e => by
    simp only [List.getElem_cons_zero] at e
    rw [List.set_cons_zero, List.flatMap_cons, List.flatMap_cons, e, Nat.zero_mul, Nat.zero_add, List.set_append_left _ _ (by rw [hs]; exact hj)]
  | x :: r, k + 1, hk, e => by
    simp only [List.getElem_cons_succ] at e
    rw [List.set_cons_succ, List.flatMap_cons, List.flatMap_cons, flat_put hs hj r k (by simpa using hk) e, List.set_append_right _ _ (by rw [hs, Nat.succ_mul]; omega), hs, Nat.succ_mul, show k * s + s + j - s = k * s + j by omega]

section
variable {α : Type} {f : α → List Value} {s : Nat} {T : TypeId} {w wr w' : World} {v v' : Value} {l r : List α} {A : Option Addr} {n m c : Nat}

theorem RL.nil (w : World) : RL f s T w (.slice none 0 0) [] w := ⟨⟨by simp, .inl ⟨rfl, rfl⟩⟩, Below.refl _ _⟩

theorem RL.next (h : RL f s T w v l wr) (hb : Below wr.heap.size wr w') : RL f s T w v l w' :=
  ⟨(Mods.of_below (S := No) hb).ownS h.own fun _ _ hs => hs.elim, h.blw.trans (hb.mono h.blw.size)⟩

theorem RL.grew (h : RL f s T w v l wr) (hb : Grew wr w') : RL f s T w v l w' := h.next hb.below

theorem RL.alloc (h : RL f s T w v l wr) (o : Obj) : RL f s T w v l (wr.alloc o) := h.next ((Below.refl _ _).alloc (Nat.le_refl _) o)

theorem RL.base {w0 : World} (h : RL f s T w v l wr) (hb : Below w0.heap.size w0 w) : RL f s T w0 v l wr := ⟨ownS_base h.own hb.size, hb.trans (h.blw.mono hb.size)⟩

theorem RL.slice (h : RL f s T w v l wr) : ∃ A c, v = .slice A l.length c ∧ l.length ≤ c ∧ c ≤ maxLen := ownS_slice h.own

theorem RL.sliceN (h : RL f s T w v l wr) (hn : l.length = n) : ∃ A c, v = .slice A n c ∧ n ≤ c ∧ c ≤ maxLen := by
  subst hn
  exact h.slice

theorem RL.sees (h : RL f s T w (.slice A n c) l wr) : Sees wr wr.heap.size A (l.flatMap f) := by
  obtain ⟨A', c', e, _⟩ := h.slice
  injection e with e1 e2 e3
  subst e2
  exact sees_own h.own

theorem RL.some_ (h : RL f s T w (.slice A n c) l wr) (hn : 0 < n) : ∃ g, A = some ⟨g, 0, none⟩ := by
  rcases h.own.2 with ⟨e, _⟩ | ⟨g', cap, cur, hv, _⟩
  · injection e with _ e2 _
    omega
  · injection hv with e1 _ _
    exact ⟨g', e1⟩

theorem RL.join (h : RL f s T w v l wr) (hn : l.length = n) (hm : r.length = m)
    (ho : w'.ownsRow w.heap.size T s v' (n + m) (l.flatMap f ++ r.flatMap f)) (hg : wr.grownBy w' v.ownBlock) : RL f s T w v' (l ++ r) w' := by
  subst hn hm
  exact ⟨by rw [List.flatMap_append, List.length_append]; exact ho, h.blw.grown hg h.blw.size fun k hk => (ownS_lt h.own k hk).1⟩

theorem RL.push (h : RL f s T w v l wr) (y : α) (hn : l.length = n) {o : Obj}
    (ho : w'.ownsRow w.heap.size T s v' (n + 1) (l.flatMap f ++ f y)) (hg : (wr.alloc o).grownBy w' v.ownBlock) : RL f s T w v' (l ++ [y]) w' :=
  (h.alloc o).join hn rfl (by simpa using ho) hg

theorem RL.snoc (h : RL f s T w v l wr) (y : α) (hn : l.length = n)
    (ho : w'.ownsRow w.heap.size T s v' (n + 1) (l.flatMap f ++ f y)) (hg : wr.grownBy w' v.ownBlock) : RL f s T w v' (l ++ [y]) w' :=
  h.join hn rfl (by simpa using ho) hg

/-- A store into a list of one's own. -/
theorem RL.put {g k j : Nat} {y : α} {u : Value} (h : RL f s T w (.slice (some ⟨g, 0, none⟩) n c) l wr) (hs : ∀ x, (f x).length = s) (hk : k < l.length) (hj : j < s) (e : f y = (f l[k]).set j u) :
    RL f s T w (.slice (some ⟨g, 0, none⟩) n c) (l.set k y) (wr.setCell ⟨g, k * s + j, none⟩ u) := by
  have hlt : k * s + j < (l.flatMap f).length := by
    rw [flatS_len hs]
    have := Nat.mul_le_mul_right s (Nat.succ_le_of_lt hk)
    rw [Nat.succ_mul] at this
    omega
  have h1 := ownS_put h.own (g := g) rfl hlt u
  refine ⟨by rw [List.length_set, flat_put hs hj l k hk e]; exact h1, h.blw.setCell (p := ⟨g, k * s + j, none⟩) (ownS_lt h.own g rfl).1 _⟩

theorem RL.frozen {g k : Nat} (h : RL f s T w (.slice (some ⟨g, 0, none⟩) n c) l wr) : wr.frozen? ⟨g, k, none⟩ = false := by
  rcases h.own.2 with ⟨hv, _⟩ | ⟨g', cap, cur, hv, _, hh, _⟩
  · cases hv
  · injection hv with e _ _
    injection e with e
    injection e with e _ _
    subst e
    exact Row.frozen (T := T) (cs := cur) hh k

/-- A list that is new and empty. -/
theorem RL.empty (w : World) : RL f s T w (.slice (some ⟨w.heap.size, 0, none⟩) 0 0) [] (w.alloc (.cells #[] T)) := ⟨own_empty w T s, (Below.refl _ _).alloc (Nat.le_refl _) _⟩

end

end Go.Proofs.Ytkapmfopfddmbaa

/-
  Alignments of a source block and an allocated block, as data.
-/
namespace Go.Proofs.Ytkapmfopfddmbaa
open Go.RowKit
set_option linter.unusedVariables false
set_option linter.unusedSectionVars false

/-- A row of an alignment. -/
structure Rw where
  cf : Int
  ct : Int
  mf : Int
  mt : Int
  s : Int
  m : Int

def isC (x : In) : Bool := x.op == 2

def isM (x : Mi) : Bool := x.op == 18

/-- Whether an instruction and an allocated instruction correspond. -/
def smP (x : In) (y : Mi) : Bool := x.op == y.op && x.op != 2 && x.op != 18 && x.imm == y.imm

section
variable {α : Type} (p : α → Bool)

/-- How many elements at the beginning satisfy p. -/
def ld : List α → Nat
  | [] => 0
  | x :: r => if p x then ld r + 1 else 0

/-- The indices of those that do not. -/
def idx : List α → Nat → List Nat
  | [], _ => []
  | x :: r, i => if p x then idx r (i + 1) else i :: idx r (i + 1)

theorem ld_le : ∀ l : List α, ld p l ≤ l.length
  | [] => Nat.le_refl _
  | x :: r => by
    rw [ld]
    have := ld_le r
    split <;> simp <;> omega

theorem ld_lt : ∀ (l : List α) (k : Nat) (h : k < l.length), k < ld p l → p l[k] = true
  | x :: r, k, h, hk => by
    rw [ld] at hk
    split at hk
    · rcases k with _ | k
      · assumption
      · exact ld_lt r k (by simpa using h) (by omega)
    · omega

theorem ld_at : ∀ (l : List α) (h : ld p l < l.length), p l[ld p l] = false
  | x :: r, h => by
    by_cases hx : p x = true
    · have e : ld p (x :: r) = ld p r + 1 := by rw [ld, if_pos hx]
      simp only [e, List.getElem_cons_succ]
      exact ld_at r _
    · have e : ld p (x :: r) = 0 := by rw [ld, if_neg hx]
      simp only [e, List.getElem_cons_zero]
      simpa using hx

theorem idx_ld : ∀ (l : List α) (i : Nat), idx p l i = if ld p l < l.length then (i + ld p l) :: idx p (l.drop (ld p l + 1)) (i + ld p l + 1) else []
  | [], i => rfl
  | x :: r, i => by
    by_cases hx : p x = true
    · rw [idx, if_pos hx, idx_ld r (i + 1), ld, if_pos hx]
      simp only [List.length_cons, Nat.add_lt_add_iff_right, List.drop_succ_cons]
      rw [show i + 1 + ld p r = i + (ld p r + 1) by omega]
    · rw [idx, if_neg hx, ld, if_neg hx, if_pos (by simp)]
      simp

theorem idx_lt : ∀ (l : List α) (i x : Nat), x ∈ idx p l i → i ≤ x ∧ x < i + l.length ∧ ∀ y, l[x - i]? = some y → p y = false
  | z :: r, i, x, h => by
    rw [idx] at h
    split at h
    · have := idx_lt r (i + 1) x h
      refine ⟨by omega, by simp; omega, fun y hy => ?_⟩
      rw [show x - i = (x - (i + 1)) + 1 by omega, List.getElem?_cons_succ] at hy
      exact this.2.2 y hy
    · rcases List.mem_cons.1 h with rfl | h
      · refine ⟨Nat.le_refl _, by simp, fun y hy => ?_⟩
        simp only [Nat.sub_self, List.getElem?_cons_zero, Option.some.injEq] at hy
        subst hy
        rename_i hn
        simpa using hn
      · have := idx_lt r (i + 1) x h
        refine ⟨by omega, by simp; omega, fun y hy => ?_⟩
        rw [show x - i = (x - (i + 1)) + 1 by omega, List.getElem?_cons_succ] at hy
        exact this.2.2 y hy

theorem idx_len : ∀ (l : List α) (i : Nat), (idx p l i).length = (l.filter fun x => !p x).length
  | [], _ => rfl
  | x :: r, i => by
    rw [idx]
    cases hx : p x
    · simp [hx, idx_len r]
    · simp [hx, idx_len r]

theorem idx_le (l : List α) (i : Nat) : (idx p l i).length ≤ l.length := by
  rw [idx_len]
  exact List.length_filter_le _ _

theorem idx_append : ∀ (a b : List α) (i : Nat), idx p (a ++ b) i = idx p a i ++ idx p b (i + a.length)
  | [], b, i => by simp [idx]
  | x :: r, b, i => by
    rw [List.cons_append, idx, idx, idx_append r b (i + 1), List.length_cons, show i + 1 + r.length = i + (r.length + 1) by omega]
    split
    · rfl
    · rfl

theorem idx_none : ∀ (l : List α) (i : Nat), (∀ x ∈ l, p x = false) → idx p l i = List.range' i l.length
  | [], _, _ => rfl
  | x :: r, i, h => by
    rw [idx, h x (by simp), idx_none r (i + 1) fun y hy => h y (List.mem_cons_of_mem _ hy), List.length_cons, List.range'_succ]
    simp

theorem idx_snoc {l : List α} {k : Nat} (hk : k < l.length) : idx p (l.take (k + 1)) 0 = idx p (l.take k) 0 ++ if p l[k] then [] else [k] := by
  rw [List.take_succ_eq_append_getElem hk, idx_append, List.length_take, Nat.min_eq_left (by omega)]
  cases h : p l[k] <;> simp [idx, h]

end

section
variable (code : List In) (mach : List Mi)

/-- Whether the instructions with these indices correspond. -/
def smA (x y : Nat) : Bool := match code[x]?, mach[y]? with
  | some a, some b => smP a b
  | _, _ => false

/-- The alignment from the indices of the instructions that are left on. -/
def al : List Nat → List Nat → Nat → Nat → List Rw → List Rw × Nat × Int
  | [], [], i, k, acc => (acc ++ [⟨i, code.length, k, mach.length, -1, -1⟩], mach.length, 0)
  | _ :: _, [], _, _, _ => ([], mach.length, 20)
  | [], y :: _, _, _, _ => ([], y, 20)
  | x :: a, y :: b, i, k, acc => if smA code mach x y = true then al a b (x + 1) (y + 1) (acc ++ [⟨i, x, k, y, x, y⟩]) else ([], y, 20)

/-- The alignment from these indices on. -/
def alS (s m : Nat) (acc : List Rw) : List Rw × Nat × Int := al code mach (idx isC (code.drop s) s) (idx isM (mach.drop m) m) s m acc

/-- The alignment. -/
def alC : List Rw × Nat × Int := al code mach (idx isC code 0) (idx isM mach 0) 0 0 []

end

section
variable {code : List In} {mach : List Mi}

theorem smA_eq {x y : Nat} (hx : x < code.length) (hy : y < mach.length) : smA code mach x y = smP code[x] mach[y] := by simp [smA, hx, hy]

theorem alS_zero : alS code mach 0 0 [] = alC code mach := rfl

section
variable {s m ct mt : Nat} {acc : List Rw} (hs : s ≤ code.length) (hm : m ≤ mach.length) (hc : ct = s + ld isC (code.drop s)) (ht : mt = m + ld isM (mach.drop m))
include hs hm hc ht

theorem alS_end (h1 : ct = code.length) (h2 : mt = mach.length) : alS code mach s m acc = (acc ++ [⟨s, ct, m, mt, -1, -1⟩], mt, 0) := by
  unfold alS
  rw [idx_ld isC (code.drop s), idx_ld isM (mach.drop m), if_neg (by simp; omega), if_neg (by simp; omega), al, ← h1, ← h2]

theorem alS_src (h1 : ct = code.length) (h2 : mt < mach.length) : alS code mach s m acc = ([], mt, 20) := by
  unfold alS
  rw [idx_ld isC (code.drop s), idx_ld isM (mach.drop m), if_neg (by simp; omega), if_pos (by simp; omega), al, ht]

theorem alS_mach (h1 : ct < code.length) (h2 : mt = mach.length) : alS code mach s m acc = ([], mt, 20) := by
  unfold alS
  rw [idx_ld isC (code.drop s), idx_ld isM (mach.drop m), if_pos (by simp; omega), if_neg (by simp; omega), al, h2]

theorem alS_bad (h1 : ct < code.length) (h2 : mt < mach.length) (h : smP code[ct] mach[mt] = false) : alS code mach s m acc = ([], mt, 20) := by
  unfold alS
  rw [idx_ld isC (code.drop s), idx_ld isM (mach.drop m), if_pos (by simp; omega), if_pos (by simp; omega), al, ← hc, ← ht, smA_eq h1 h2, h, if_neg (by simp)]

theorem alS_ok (h1 : ct < code.length) (h2 : mt < mach.length) (h : smP code[ct] mach[mt] = true) : alS code mach s m acc = alS code mach (ct + 1) (mt + 1) (acc ++ [⟨s, ct, m, mt, ct, mt⟩]) := by
  unfold alS
  rw [idx_ld isC (code.drop s), idx_ld isM (mach.drop m), if_pos (by simp; omega), if_pos (by simp; omega), al, ← hc, ← ht, smA_eq h1 h2, h, if_pos rfl, List.drop_drop, List.drop_drop,
    show s + (ld isC (code.drop s) + 1) = ct + 1 by omega, show m + (ld isM (mach.drop m) + 1) = mt + 1 by omega]

end

end

end Go.Proofs.Ytkapmfopfddmbaa

/-
  What memory shows of instructions, machine instructions and rows.
-/
namespace Go.Proofs.Ytkapmfopfddmbaa
open Go.RowKit
set_option linter.unusedVariables false

def Rw.cells (x : Rw) : List Value := [.int .i64 x.cf, .int .i64 x.ct, .int .i64 x.mf, .int .i64 x.mt, .int .i64 x.s, .int .i64 x.m]

/-- A row's six cells. -/
structure Rw.At (w : World) (b o : Nat) (x : Rw) : Prop where
  c0 : w.cell? ⟨b, o, none⟩ = some (.int .i64 x.cf)
  c1 : w.cell? ⟨b, o + 1, none⟩ = some (.int .i64 x.ct)
  c2 : w.cell? ⟨b, o + 2, none⟩ = some (.int .i64 x.mf)
  c3 : w.cell? ⟨b, o + 3, none⟩ = some (.int .i64 x.mt)
  c4 : w.cell? ⟨b, o + 4, none⟩ = some (.int .i64 x.s)
  c5 : w.cell? ⟨b, o + 5, none⟩ = some (.int .i64 x.m)

/-- The slice address A shows these rows, below block B. -/
def RwsAt (w : World) (B : Nat) (A : Option Addr) (xs : List Rw) : Prop :=
  xs ≠ [] → ∃ b o, A = some ⟨b, o, none⟩ ∧ b < B ∧ ∀ (i : Nat) (x : Rw), xs[i]? = some x → x.At w b (o + i * 6)

theorem in_len (x : In) : x.cells.length = 5 := rfl

theorem mi_len (x : Mi) : x.cells.length = 7 := rfl

theorem rw_len (x : Rw) : x.cells.length = 6 := rfl

theorem in_one (x : In) : ∀ u ∈ x.cells, u.oneCell' = true := fun u hu => by
  simp only [In.cells, List.mem_cons, List.not_mem_nil, or_false] at hu
  rcases hu with rfl | rfl | rfl | rfl | rfl <;> rfl

theorem mi_one (x : Mi) : ∀ u ∈ x.cells, u.oneCell' = true := fun u hu => by
  simp only [Mi.cells, List.mem_cons, List.not_mem_nil, or_false] at hu
  rcases hu with rfl | rfl | rfl | rfl | rfl | rfl | rfl <;> rfl

theorem rw_one (x : Rw) : ∀ u ∈ x.cells, u.oneCell' = true := fun u hu => by
  simp only [Rw.cells, List.mem_cons, List.not_mem_nil, or_false] at hu
  rcases hu with rfl | rfl | rfl | rfl | rfl | rfl <;> rfl

section
variable {w w' : World} {B B' : Nat} {A : Option Addr} {b o : Nat}

theorem flat_ne {α : Type} {f : α → List Value} {s : Nat} (hs : ∀ x, (f x).length = s) (h0 : 0 < s) {l : List α} (hn : l ≠ []) : l.flatMap f ≠ [] := fun e => by
  have := congrArg List.length e
  rw [flatS_len hs] at this
  rcases l with _ | ⟨x, r⟩
  · exact hn rfl
  · rw [List.length_cons, Nat.succ_mul] at this
    simp at this
    omega

theorem InsAt.of_sees {xs : List In} (h : Sees w B A (xs.flatMap In.cells)) : InsAt w B A xs := fun hn => by
  obtain ⟨b, o, e, hb, hc⟩ := h (flat_ne in_len (by decide) hn)
  refine ⟨b, o, e, hb, fun i x hx => ?_⟩
  have hg := flat_get In.cells 5 (fun _ => rfl) xs i x hx
  have g := fun j u hu => hc _ _ (hg j u hu)
  refine ⟨?_, ?_, ?_, ?_, ?_⟩
  · exact g 0 _ rfl
  · rw [Nat.add_assoc]; exact g 1 _ rfl
  · rw [Nat.add_assoc]; exact g 2 _ rfl
  · rw [Nat.add_assoc]; exact g 3 _ rfl
  · rw [Nat.add_assoc]; exact g 4 _ rfl

theorem MisAt.of_sees {xs : List Mi} (h : Sees w B A (xs.flatMap Mi.cells)) (hok : ∀ x ∈ xs, x.Ok) : MisAt w B A xs := fun hn => by
  obtain ⟨b, o, e, hb, hc⟩ := h (flat_ne mi_len (by decide) hn)
  refine ⟨b, o, e, hb, fun i x hx => ?_⟩
  have hg := flat_get Mi.cells 7 (fun _ => rfl) xs i x hx
  have g := fun j u hu => hc _ _ (hg j u hu)
  refine ⟨hok x (List.mem_of_getElem? hx), ?_, ?_, ?_, ?_, ?_, ?_, ?_⟩
  · exact g 0 _ rfl
  · rw [Nat.add_assoc]; exact g 1 _ rfl
  · rw [Nat.add_assoc]; exact g 2 _ rfl
  · rw [Nat.add_assoc]; exact g 3 _ rfl
  · rw [Nat.add_assoc]; exact g 4 _ rfl
  · rw [Nat.add_assoc]; exact g 5 _ rfl
  · rw [Nat.add_assoc]; exact g 6 _ rfl

theorem RwsAt.of_sees {xs : List Rw} (h : Sees w B A (xs.flatMap Rw.cells)) : RwsAt w B A xs := fun hn => by
  obtain ⟨b, o, e, hb, hc⟩ := h (flat_ne rw_len (by decide) hn)
  refine ⟨b, o, e, hb, fun i x hx => ?_⟩
  have hg := flat_get Rw.cells 6 (fun _ => rfl) xs i x hx
  have g := fun j u hu => hc _ _ (hg j u hu)
  refine ⟨?_, ?_, ?_, ?_, ?_, ?_⟩
  · exact g 0 _ rfl
  · rw [Nat.add_assoc]; exact g 1 _ rfl
  · rw [Nat.add_assoc]; exact g 2 _ rfl
  · rw [Nat.add_assoc]; exact g 3 _ rfl
  · rw [Nat.add_assoc]; exact g 4 _ rfl
  · rw [Nat.add_assoc]; exact g 5 _ rfl

theorem RwsAt.keep {xs : List Rw} (h : RwsAt w B A xs) (hk : ∀ p : Addr, p.block < B → w'.cell? p = w.cell? p) : RwsAt w' B A xs := fun hn => by
  obtain ⟨b, o, e, hb, hc⟩ := h hn
  exact ⟨b, o, e, hb, fun i x hx => ⟨(hk ⟨b, _, none⟩ hb).trans (hc i x hx).c0, (hk ⟨b, _, none⟩ hb).trans (hc i x hx).c1, (hk ⟨b, _, none⟩ hb).trans (hc i x hx).c2, (hk ⟨b, _, none⟩ hb).trans (hc i x hx).c3, (hk ⟨b, _, none⟩ hb).trans (hc i x hx).c4, (hk ⟨b, _, none⟩ hb).trans (hc i x hx).c5⟩⟩

theorem RwsAt.more {xs : List Rw} (h : RwsAt w B A xs) (hB : B ≤ B') : RwsAt w B' A xs := fun hn => by
  obtain ⟨b, o, e, hb, hc⟩ := h hn
  exact ⟨b, o, e, by omega, hc⟩

theorem RwsAt.below {xs : List Rw} (h : RwsAt w B A xs) (hb : Below B w w') : RwsAt w' B A xs := h.keep fun _ hp => hb.cell hp

theorem RwsAt.at_ {xs : List Rw} (h : RwsAt w B A xs) {i : Nat} (hi : i < xs.length) : ∃ b o, A = some ⟨b, o, none⟩ ∧ b < B ∧ xs[i].At w b (o + i * 6) := by
  obtain ⟨b, o, e, hb, hc⟩ := h (by intro e; subst e; simp at hi)
  exact ⟨b, o, e, hb, hc i _ (List.getElem?_eq_getElem hi)⟩

theorem InsAt.sees {xs : List In} (h : InsAt w B A xs) : Sees w B A (xs.flatMap In.cells) := fun hn => by
  obtain ⟨b, o, e, hb, hc⟩ := h (by rintro rfl; exact hn rfl)
  refine ⟨b, o, e, hb, fun i u hu => ?_⟩
  obtain ⟨k, j, x, h1, h2, rfl⟩ := flat_inv In.cells 5 (fun _ => rfl) xs i u hu
  have hx := hc k x h1
  have hj : j < 5 := (List.getElem?_eq_some_iff.1 h2).1
  rcases (by omega : j = 0 ∨ j = 1 ∨ j = 2 ∨ j = 3 ∨ j = 4) with rfl | rfl | rfl | rfl | rfl
  · rw [← h2]; exact hx.c0
  · rw [← h2, ← Nat.add_assoc]; exact hx.c1
  · rw [← h2, ← Nat.add_assoc]; exact hx.c2
  · rw [← h2, ← Nat.add_assoc]; exact hx.c3
  · rw [← h2, ← Nat.add_assoc]; exact hx.c4

theorem MisAt.sees {xs : List Mi} (h : MisAt w B A xs) : Sees w B A (xs.flatMap Mi.cells) := fun hn => by
  obtain ⟨b, o, e, hb, hc⟩ := h (by rintro rfl; exact hn rfl)
  refine ⟨b, o, e, hb, fun i u hu => ?_⟩
  obtain ⟨k, j, x, h1, h2, rfl⟩ := flat_inv Mi.cells 7 (fun _ => rfl) xs i u hu
  have hx := hc k x h1
  have hj : j < 7 := (List.getElem?_eq_some_iff.1 h2).1
  rcases (by omega : j = 0 ∨ j = 1 ∨ j = 2 ∨ j = 3 ∨ j = 4 ∨ j = 5 ∨ j = 6) with rfl | rfl | rfl | rfl | rfl | rfl | rfl
  · rw [← h2]; exact hx.c0
  · rw [← h2, ← Nat.add_assoc]; exact hx.c1
  · rw [← h2, ← Nat.add_assoc]; exact hx.c2
  · rw [← h2, ← Nat.add_assoc]; exact hx.c3
  · rw [← h2, ← Nat.add_assoc]; exact hx.c4
  · rw [← h2, ← Nat.add_assoc]; exact hx.c5
  · rw [← h2, ← Nat.add_assoc]; exact hx.c6

theorem MisAt.ok {xs : List Mi} (h : MisAt w B A xs) : ∀ x ∈ xs, x.Ok := fun x hx => by
  obtain ⟨b, o, e, hb, hc⟩ := h (by rintro rfl; simp at hx)
  obtain ⟨i, hi⟩ := List.mem_iff_getElem?.1 hx
  exact (hc i x hi).ok

/-- The cut of a slice from k on: its address as the model writes it. -/
theorem InsAt.drop {xs : List In} {b o : Nat} (h : InsAt w B (some ⟨b, o, none⟩) xs) (k : Nat) : InsAt w B (some ⟨b, o + k * 5, none⟩) (xs.drop k) := fun hn => by
  obtain ⟨b', o', e, hb, hc⟩ := h (by intro e; subst e; simp at hn)
  injection e with e
  injection e with e1 e2
  subst e1
  subst e2
  refine ⟨b, o + k * 5, rfl, hb, fun i x hx => ?_⟩
  rw [List.getElem?_drop] at hx
  have := hc _ x hx
  rwa [show o + (k + i) * 5 = o + k * 5 + i * 5 by omega] at this

end

/-- A source block that is seen. -/
structure CS (w : World) (A : Option Addr) (n c : Nat) (l : List In) : Prop where
  len : l.length = n
  cap : n ≤ c
  cmx : c ≤ maxLen
  see : InsAt w w.heap.size A l

theorem CS.below {w w' : World} {A : Option Addr} {n c : Nat} {l : List In} (h : CS w A n c l) (hb : Below w.heap.size w w') : CS w' A n c l := ⟨h.len, h.cap, h.cmx, (h.see.below hb).more hb.size⟩

/-- An allocated block that is seen. -/
structure MS (w : World) (A : Option Addr) (n c : Nat) (l : List Mi) : Prop where
  len : l.length = n
  cap : n ≤ c
  cmx : c ≤ maxLen
  see : MisAt w w.heap.size A l

theorem MS.below {w w' : World} {A : Option Addr} {n c : Nat} {l : List Mi} (h : MS w A n c l) (hb : Below w.heap.size w w') : MS w' A n c l := ⟨h.len, h.cap, h.cmx, (h.see.below hb).more hb.size⟩

theorem RL.cs {T : TypeId} {w wr : World} {A : Option Addr} {n c : Nat} {l : List In} (h : RL In.cells 5 T w (.slice A n c) l wr) : CS wr A n c l := by
  obtain ⟨A', c', e, h1, h2⟩ := h.slice
  injection e with e1 e2 e3
  subst e1 e2 e3
  exact ⟨rfl, h1, h2, InsAt.of_sees h.sees⟩

theorem RL.ms {T : TypeId} {w wr : World} {A : Option Addr} {n c : Nat} {l : List Mi} (h : RL Mi.cells 7 T w (.slice A n c) l wr) (hok : ∀ x ∈ l, x.Ok) : MS wr A n c l := by
  obtain ⟨A', c', e, h1, h2⟩ := h.slice
  injection e with e1 e2 e3
  subst e1 e2 e3
  exact ⟨rfl, h1, h2, MisAt.of_sees h.sees hok⟩

end Go.Proofs.Ytkapmfopfddmbaa

/-
  The functions of layer 13 on single instructions and terminators; == and != of rows, instructions and terminators.
-/
namespace Go.Proofs.Ytkapmfopfddmbaa
open Go.RowKit
set_option linter.unusedVariables false

/-- Whether two terminators correspond. -/
def tmP (a b : Tm) : Bool := a.kind == b.kind && a.to == b.to && a.el == b.el

theorem eq_tm (a b : Tm) (w : World) : (binOp .eql 101 (.agg #[.int .i64 a.kind, .int .i64 a.a, .int .i64 a.to, .int .i64 a.el]) (.agg #[.int .i64 b.kind, .int .i64 b.a, .int .i64 b.to, .int .i64 b.el])).run Try.prog w = .ok (.bool (a.kind == b.kind && a.a == b.a && a.to == b.to && a.el == b.el)) w := by
  have u3 := Try.underlying3
  have a3 := Try.isAgg3
  have z3 := Try.sizeOf3
  have hS : Try.prog.underlying 101 = some (.struct (Try.prog.fieldsOf 101)) := by kernel_rfl
  have hp : Try.prog.stoodInHeld 101 = false := by kernel_rfl
  rw [run_eql_struct, show (10000 : Nat) = 9999 + 1 from rfl, run_equalIn_agg w 9999 101 _ _ hS hp]
  simp only [Program.fieldsOf, Try.underlying101]
  obtain ⟨x0, x1, x2, x3⟩ := a
  obtain ⟨y0, y1, y2, y3⟩ := b
  go_simp
  by_cases h0 : x0 = y0 <;> by_cases h1 : x1 = y1 <;> by_cases h2 : x2 = y2 <;> by_cases h3 : x3 = y3 <;> simp [h0, h1, h2, h3]

/-- Whether two rows are the same. -/
def rwS (a b : Rw) : Bool := a.cf == b.cf && a.ct == b.ct && a.mf == b.mf && a.mt == b.mt && a.s == b.s && a.m == b.m

theorem rwS_refl (a : Rw) : rwS a a = true := by simp [rwS]

/-- Whether two machine instructions are the same. -/
def miS (a b : Mi) : Bool := a.op == b.op && a.d == b.d && a.a == b.a && a.b == b.b && a.imm == b.imm && a.dst == b.dst && a.src == b.src

theorem eq_mi (a b : Mi) (w : World) : (binOp .eql 97 (.agg #[.int .i64 a.op, .int .i64 a.d, .int .i64 a.a, .int .i64 a.b, .int .i64 a.imm, .int .i64 a.dst, .int .i64 a.src]) (.agg #[.int .i64 b.op, .int .i64 b.d, .int .i64 b.a, .int .i64 b.b, .int .i64 b.imm, .int .i64 b.dst, .int .i64 b.src])).run Try.prog w = .ok (.bool (miS a b)) w := by
  have u3 := Try.underlying3
  have a3 := Try.isAgg3
  have z3 := Try.sizeOf3
  have u4 := Try.underlying2
  have a4 := Try.isAgg2
  have z4 := Try.sizeOf2
  have u5 := Try.underlying95
  have a5 := Try.isAgg95
  have z5 := Try.sizeOf95
  have hS : Try.prog.underlying 97 = some (.struct (Try.prog.fieldsOf 97)) := by kernel_rfl
  have hp : Try.prog.stoodInHeld 97 = false := by kernel_rfl
  rw [run_eql_struct, show (10000 : Nat) = 9999 + 1 from rfl, run_equalIn_agg w 9999 97 _ _ hS hp]
  simp only [Program.fieldsOf, Try.underlying97]
  obtain ⟨x0, x1, x2, x3, x4, x5, x6⟩ := a
  obtain ⟨y0, y1, y2, y3, y4, y5, y6⟩ := b
  dsimp only [miS]
  go_simp
  by_cases h0 : x0 = y0 <;> by_cases h1 : x1 = y1 <;> by_cases h2 : x2 = y2 <;> by_cases h3 : x3 = y3 <;> by_cases h4 : x4 = y4 <;> by_cases h5 : x5 = y5 <;> by_cases h6 : x6 = y6 <;> simp [h0, h1, h2, h3, h4, h5, h6]

end Go.Proofs.Ytkapmfopfddmbaa
