/-
  The graph in memory: nodes in a block of their own, each with its sets and its list of blocks before it.
-/
import Derived.Test.YtncigbpeempnfaaLvUse
import Derived.Test.YtncigbpeempnfaaLvSuc
import Derived.Test.YtncigbpeempnfaaPk3
namespace Go.Proofs.Ytncigbpeempnfaa
open Go.RowKit
set_option linter.unusedVariables false

/-- A node's cells. -/
structure NdV where
  u : Option Nat
  d : Option Nat
  b : Value
  l : Option Nat

def NdV.cells (x : NdV) : List Value := [.map x.u, .map x.d, x.b, .map x.l]

def NdV.mp (x : NdV) : Nat → Option Nat
  | 0 => x.u
  | 1 => x.d
  | 3 => x.l
  | _ => none

/-- n nodes: U, D: what their blocks use and define; B: the blocks before them; L: what is known to be live. -/
structure GV23 (w : World) (gv : Value) (n N : Nat) (U D : Nat → Int → Bool) (B : Nat → List Int) (L : Nat → Int → Bool) (vs : List NdV) (W : World) : Prop where
  own : W.ownsRow w.heap.size 63 4 gv n (vs.flatMap NdV.cells)
  len : vs.length = n
  su : ∀ (i : Nat) (x : NdV), vs[i]? = some x → MS23 W (.map x.u) N (U i)
  sd : ∀ (i : Nat) (x : NdV), vs[i]? = some x → MS23 W (.map x.d) N (D i)
  sl : ∀ (i : Nat) (x : NdV), vs[i]? = some x → MS23 W (.map x.l) N (L i)
  sb : ∀ (i : Nat) (x : NdV), vs[i]? = some x → W.ownsRow w.heap.size 3 1 x.b (B i).length (ints (B i))
  ge : ∀ (i : Nat) (x : NdV) (s q : Nat), vs[i]? = some x → x.mp s = some q → w.heap.size ≤ q
  dm : ∀ (i j : Nat) (x y : NdV) (s t q : Nat), vs[i]? = some x → vs[j]? = some y → x.mp s = some q → y.mp t = some q → i = j ∧ s = t
  db : ∀ (i j : Nat) (x y : NdV) (q : Nat), vs[i]? = some x → vs[j]? = some y → x.b.ownBlock = some q → y.b.ownBlock = some q → i = j
  blw : Below w.heap.size w W

theorem NdV.cells_len (x : NdV) : x.cells.length = 4 := rfl

section
variable {w W W' : World} {gv : Value} {n N : Nat} {U D L U' D' L' : Nat → Int → Bool} {B B' : Nat → List Int} {vs : List NdV}

theorem GV23.congr (h : GV23 w gv n N U D B L vs W) (hU : ∀ i, i < n → U' i = U i) (hD : ∀ i, i < n → D' i = D i) (hB : ∀ i, i < n → B' i = B i) (hL : ∀ i, i < n → L' i = L i) : GV23 w gv n N U' D' B' L' vs W := by
  have hi : ∀ (i : Nat) (x : NdV), vs[i]? = some x → i < n := fun i x hx => by rw [← h.len]; exact (List.getElem?_eq_some_iff.1 hx).1
  exact { h with
    su := fun i x hx => by rw [hU i (hi i x hx)]; exact h.su i x hx
    sd := fun i x hx => by rw [hD i (hi i x hx)]; exact h.sd i x hx
    sl := fun i x hx => by rw [hL i (hi i x hx)]; exact h.sl i x hx
    sb := fun i x hx => by rw [hB i (hi i x hx)]; exact h.sb i x hx }

theorem GV23.next (h : GV23 w gv n N U D B L vs W) (hb : Below W.heap.size W W') : GV23 w gv n N U D B L vs W' :=
  { h with
    own := (Mods.of_below (S := No) hb).ownS h.own fun _ _ hs => hs.elim
    su := fun i x hx => (h.su i x hx).below hb
    sd := fun i x hx => (h.sd i x hx).below hb
    sl := fun i x hx => (h.sl i x hx).below hb
    sb := fun i x hx => (Mods.of_below (S := No) hb).ownS (h.sb i x hx) fun _ _ hs => hs.elim
    blw := h.blw.trans (hb.mono h.blw.size) }

/-- The nodes' block. -/
theorem GV23.row {g c m : Nat} (h : GV23 w (.slice (some ⟨g, 0, none⟩) m c) n N U D B L vs W) : ∃ cur, Row W g 63 cur ∧ w.heap.size ≤ g ∧ n ≤ c ∧ c ≤ maxLen ∧ cur.size = c * 4 ∧ cur.toList.take (n * 4) = vs.flatMap NdV.cells ∧ m = n := by
  rcases h.own.2 with ⟨e, _⟩ | ⟨g', cap, cur, e, hg, hh, h1, h2, h3, h4⟩
  · cases e
  · injection e with e1 e2 e3
    injection e1 with e1
    injection e1 with e1
    subst e1 e2 e3
    exact ⟨cur, hh, hg, h1, h2, h3, h4, rfl⟩

theorem GV23.flat_at (h : GV23 w gv n N U D B L vs W) {i : Nat} {x : NdV} (hx : vs[i]? = some x) {j : Nat} {u : Value} (hu : x.cells[j]? = some u) : (vs.flatMap NdV.cells)[i * 4 + j]? = some u :=
  flat_get NdV.cells 4 (fun _ => rfl) vs i x hx j u hu

/-- A node's cells in memory. -/
theorem GV23.cell {g c m : Nat} (h : GV23 w (.slice (some ⟨g, 0, none⟩) m c) n N U D B L vs W) {i : Nat} {x : NdV} (hx : vs[i]? = some x) :
    W.cell? ⟨g, i * 4, none⟩ = some (.map x.u) ∧ W.cell? ⟨g, i * 4 + 1, none⟩ = some (.map x.d) ∧ W.cell? ⟨g, i * 4 + 2, none⟩ = some x.b ∧ W.cell? ⟨g, i * 4 + 3, none⟩ = some (.map x.l) := by
  have hc : ∀ j u, x.cells[j]? = some u → W.cell? ⟨g, i * 4 + j, none⟩ = some u := fun j u hu => by
    have := h.own.cells (g := g) rfl _ u (h.flat_at hx hu)
    simpa [Addr.add_lit] using this
  exact ⟨hc 0 _ rfl, hc 1 _ rfl, hc 2 _ rfl, hc 3 _ rfl⟩

end

theorem RowK.own {X : Nat} {W W' : World} (h : RowK X W W') {base m s : Nat} {e : TypeId} {v : Value} {xs : List Value} (ho : W.ownsRow base e s v m xs) (hv : ¬ v.ownBlock = some X) : W'.ownsRow base e s v m xs := by
  obtain ⟨h1, h2⟩ := ho
  refine ⟨h1, ?_⟩
  rcases h2 with h2 | ⟨g, cap, cur, rfl, hg, hh, r⟩
  · exact .inl h2
  · exact .inr ⟨g, cap, cur, rfl, hg, h g e cur (fun e => hv (by rw [e]; rfl)) hh, r⟩

def updL (L : Nat → Int → Bool) (k : Nat) (v : Int) : Nat → Int → Bool := fun j z => L j z || decide (j = k) && decide (z = v)

theorem set_at {α : Type} {l : List α} {k i : Nat} {x y : α} (h : (l.set k x)[i]? = some y) : (i = k ∧ y = x) ∨ (i ≠ k ∧ l[i]? = some y) := by
  by_cases e : i = k
  · subst e
    have hi : i < l.length := by have := (List.getElem?_eq_some_iff.1 h).1; simpa using this
    rw [List.getElem?_set_self hi] at h
    injection h with h
    exact .inl ⟨rfl, h.symm⟩
  · rw [List.getElem?_set_ne (fun e' => e e'.symm)] at h
    exact .inr ⟨e, h⟩

theorem app_at {α : Type} {l : List α} {i : Nat} {x y : α} (h : (l ++ [x])[i]? = some y) : l[i]? = some y ∨ (i = l.length ∧ y = x) := by
  rcases Nat.lt_trichotomy i l.length with hl | hl | hl
  · rw [List.getElem?_append_left hl] at h; exact .inl h
  · subst hl
    rw [List.getElem?_append_right (Nat.le_refl _), Nat.sub_self] at h
    injection h with h
    exact .inr ⟨rfl, h.symm⟩
  · rw [List.getElem?_eq_none (by simp; omega)] at h; cases h

section
variable {w W W' : World} {gv : Value} {n N : Nat} {U D L : Nat → Int → Bool} {B : Nat → List Int} {vs : List NdV} {g c k : Nat} {x : NdV}

/-- A store into one of the nodes' cells. -/
theorem GV23.stored (h : GV23 w (.slice (some ⟨g, 0, none⟩) n c) n N U D B L vs W) (hx : vs[k]? = some x) {y : NdV} {j : Nat} {z : Value} (hj : j < 4) (hy : y.cells = x.cells.set j z) {cur : Array Value} (hr : Row W g 63 cur) (hr' : Row W' g 63 (cur.setIfInBounds (k * 4 + j) z)) :
    W'.ownsRow w.heap.size 63 4 (.slice (some ⟨g, 0, none⟩) n c) n ((vs.set k y).flatMap NdV.cells) := by
  obtain ⟨cur', h1, h2, h3, h4, h5, h6, _⟩ := h.row
  have e : cur' = cur := by unfold Row at h1 hr; rw [h1] at hr; injection hr with hr; injection hr with hr
  subst e
  have hk : k < vs.length := (List.getElem?_eq_some_iff.1 hx).1
  have hkx : vs[k] = x := (List.getElem?_eq_some_iff.1 hx).2
  have hf := flat_put (f := NdV.cells) (s := 4) (fun _ => rfl) (y := y) (u := z) hj vs k hk (by rw [hkx]; exact hy)
  refine ⟨?_, .inr ⟨g, c, _, rfl, h2, hr', h3, h4, by simpa using h5, ?_⟩⟩
  · rw [flatS_len (f := NdV.cells) (s := 4) (fun _ => rfl), List.length_set, h.len]
  · rw [Array.toList_setIfInBounds, List.take_set, h6, hf]

theorem GV23.addL (h : GV23 w (.slice (some ⟨g, 0, none⟩) n c) n N U D B L vs W) (hx : vs[k]? = some x) {cur : Array Value} (hr : Row W g 63 cur) {v : Int} (ha : AddP W g (k * 4 + 3) 63 cur (.map x.l) N (L k) v W') :
    ∃ y : Option Nat, GV23 w (.slice (some ⟨g, 0, none⟩) n c) n N U D B (updL L k v) (vs.set k { x with l := y }) W' := by
  obtain ⟨mv, h1, h2, h3⟩ := ha.ex
  obtain ⟨y, rfl⟩ := h1.shape
  have hM := ha.mods
  have hl := h.sl k x hx
  have hg0 : w.heap.size ≤ g := by obtain ⟨_, _, h, _⟩ := h.row; exact h
  have hxl : ∀ q, x.l = some q → w.heap.size ≤ q := fun q e => h.ge k x 3 q hx e
  have hq : ∀ (i : Nat) (a : NdV) (s q : Nat), vs[i]? = some a → a.mp s = some q → ¬ (i = k ∧ s = 3) → ¬ (q = g ∨ mapOf (.map x.l) = some q) := fun i a s q ha' hs hne hm => by
    rcases hm with rfl | hm
    · have : ∃ S, MS23 W (.map (a.mp s)) N S := by
        match s with
        | 0 => exact ⟨_, h.su i a ha'⟩
        | 1 => exact ⟨_, h.sd i a ha'⟩
        | 2 => cases hs
        | 3 => exact ⟨_, h.sl i a ha'⟩
        | _ + 4 => cases hs
      obtain ⟨S, hS⟩ := this
      exact hS.row hr hs
    · exact hne (h.dm i k a x s 3 q ha' hx hs hm)
  have hb : ∀ (i : Nat) (a : NdV) (q : Nat), vs[i]? = some a → a.b.ownBlock = some q → ¬ (q = g ∨ mapOf (.map x.l) = some q) := fun i a q ha' hs hm => by
    rcases hm with rfl | hm
    · exact ownS_ne h.own (h.sb i a ha') (by decide) q rfl hs
    · exact hl.apart (h.sb i a ha') hm hs
  have hy : ∀ q, y = some q → x.l = some q ∨ W.heap.size ≤ q := fun q e => by
    rcases h3 with h3 | ⟨p, h3, hp⟩
    · exact .inl (by have h3 : y = x.l := h3; rw [← h3]; exact e)
    · right
      have : y = some p := h3
      rw [e] at this; injection this with this; omega
  have hlt : ∀ (i : Nat) (a : NdV) (s q : Nat), vs[i]? = some a → a.mp s = some q → q < W.heap.size := fun i a s q ha' hs => by
    match s with
    | 0 => exact (h.su i a ha').lt hs
    | 1 => exact (h.sd i a ha').lt hs
    | 2 => cases hs
    | 3 => exact (h.sl i a ha').lt hs
    | _ + 4 => cases hs
  have hL : ∀ i, i ≠ k → updL L k v i = L i := fun i hi => by funext z; simp [updL, hi]
  have hLk : updL L k v k = fun z => L k z || decide (z = v) := by funext z; simp [updL]
  have hmp : ∀ (i : Nat) (a : NdV) (s q : Nat), (vs.set k { x with l := y })[i]? = some a → a.mp s = some q → (∃ a', vs[i]? = some a' ∧ a'.mp s = some q) ∨ (i = k ∧ s = 3 ∧ W.heap.size ≤ q) := fun i a s q ha' hs => by
    rcases set_at ha' with ⟨rfl, rfl⟩ | ⟨_, ha'⟩
    · match s with
      | 0 => exact .inl ⟨x, hx, hs⟩
      | 1 => exact .inl ⟨x, hx, hs⟩
      | 2 => cases hs
      | 3 =>
        rcases hy q hs with e | e
        · exact .inl ⟨x, hx, e⟩
        · exact .inr ⟨rfl, rfl, e⟩
      | _ + 4 => cases hs
    · exact .inl ⟨a, ha', hs⟩
  refine ⟨y, ?_, by rw [List.length_set]; exact h.len, fun i a ha' => ?_, fun i a ha' => ?_, fun i a ha' => ?_, fun i a ha' => ?_, fun i a s q ha' hs => ?_, fun i j a b s t q ha' hb' hs ht => ?_, fun i j a b q ha' hb' hs ht => ?_, h.blw.trans (hM.below h.blw.size fun q hq' => ?_)⟩
  · exact h.stored hx (j := 3) (z := .map y) (by omega) rfl hr h2
  · rcases set_at ha' with ⟨rfl, rfl⟩ | ⟨_, ha'⟩
    · exact (h.su i x hx).mods hM fun q hq' => hq i x 0 q hx hq' (by omega)
    · exact (h.su i a ha').mods hM fun q hq' => hq i a 0 q ha' hq' (by omega)
  · rcases set_at ha' with ⟨rfl, rfl⟩ | ⟨_, ha'⟩
    · exact (h.sd i x hx).mods hM fun q hq' => hq i x 1 q hx hq' (by omega)
    · exact (h.sd i a ha').mods hM fun q hq' => hq i a 1 q ha' hq' (by omega)
  · rcases set_at ha' with ⟨rfl, rfl⟩ | ⟨hne, ha'⟩
    · rw [hLk]; exact h1
    · rw [hL i hne]; exact (h.sl i a ha').mods hM fun q hq' => hq i a 3 q ha' hq' (by omega)
  · rcases set_at ha' with ⟨rfl, rfl⟩ | ⟨_, ha'⟩
    · exact hM.ownS (h.sb i x hx) fun q hq' => hb i x q hx hq'
    · exact hM.ownS (h.sb i a ha') fun q hq' => hb i a q ha' hq'
  · rcases hmp i a s q ha' hs with ⟨a', h4, h5⟩ | ⟨_, _, h4⟩
    · exact h.ge i a' s q h4 h5
    · have := h.blw.size; omega
  · rcases hmp i a s q ha' hs with ⟨a', h4, h5⟩ | ⟨e1, e2, h4⟩
    · rcases hmp j b t q hb' ht with ⟨b', h6, h7⟩ | ⟨e3, e4, h6⟩
      · exact h.dm i j a' b' s t q h4 h6 h5 h7
      · have := hlt i a' s q h4 h5; omega
    · rcases hmp j b t q hb' ht with ⟨b', h6, h7⟩ | ⟨e3, e4, h6⟩
      · have := hlt j b' t q h6 h7; omega
      · omega
  · have hbb : ∀ (i : Nat) (a : NdV), (vs.set k { x with l := y })[i]? = some a → ∃ a', vs[i]? = some a' ∧ a'.b = a.b := fun i a ha' => by
      rcases set_at ha' with ⟨rfl, rfl⟩ | ⟨_, ha'⟩
      · exact ⟨x, hx, rfl⟩
      · exact ⟨a, ha', rfl⟩
    obtain ⟨a', h4, h5⟩ := hbb i a ha'
    obtain ⟨b', h6, h7⟩ := hbb j b hb'
    exact h.db i j a' b' q h4 h6 (by rw [h5]; exact hs) (by rw [h7]; exact ht)
  · rcases hq' with rfl | hq'
    · exact hg0
    · exact hxl q hq'

/-- One more node. -/
theorem GV23.snoc {W5 : World} {v' : Value} {Su Sd : Int → Bool} {u d : Option Nat} {o : Obj} (h : GV23 w gv n N U D B L vs W) (hp : ScP W N Su Sd (.map u) (.map d) W') (hU : U n = Su) (hD : D n = Sd) (hB : B n = []) (hL : L n = fun _ => false)
    (ho : W5.ownsRow w.heap.size 63 4 v' (n + 1) (vs.flatMap NdV.cells ++ [.map u, .map d, .slice none 0 0, .map none])) (hg : (W'.alloc o).grownBy W5 gv.ownBlock) :
    GV23 w v' (n + 1) N U D B L (vs ++ [⟨u, d, .slice none 0 0, none⟩]) W5 := by
  have hb := hp.blw
  have h := h.next hb
  have hM : Mods (fun k => gv.ownBlock = some k) W' W5 := ((Mods.refl _ W').alloc o).grown hg fun k hk => .inl hk
  have hq : ∀ (v : Value) (S : Int → Bool), MS23 W' v N S → ∀ q, mapOf v = some q → ¬ gv.ownBlock = some q := fun v S hS q hv hgq => hS.apart h.own hv hgq
  have hmp : ∀ (i : Nat) (a : NdV) (s q : Nat), (vs ++ [⟨u, d, .slice none 0 0, none⟩])[i]? = some a → a.mp s = some q → (vs[i]? = some a) ∨ (i = n ∧ ((s = 0 ∧ u = some q) ∨ (s = 1 ∧ d = some q))) := fun i a s q ha hs => by
    rcases app_at ha with ha | ⟨e, rfl⟩
    · exact .inl ha
    · rw [h.len] at e
      match s with
      | 0 => exact .inr ⟨e, .inl ⟨rfl, hs⟩⟩
      | 1 => exact .inr ⟨e, .inr ⟨rfl, hs⟩⟩
      | 2 => cases hs
      | 3 => cases hs
      | _ + 4 => cases hs
  have hlt : ∀ (i : Nat) (a : NdV) (s q : Nat), vs[i]? = some a → a.mp s = some q → q < W.heap.size := by
    intro i a s q ha hs
    have h0 := ‹GV23 w gv n N U D B L vs W›
    match s with
    | 0 => exact (h0.su i a ha).lt hs
    | 1 => exact (h0.sd i a ha).lt hs
    | 2 => cases hs
    | 3 => exact (h0.sl i a ha).lt hs
    | _ + 4 => cases hs
  have hnew : ∀ s q, ((s = 0 ∧ u = some q) ∨ (s = 1 ∧ d = some q)) → W.heap.size ≤ q := fun s q hs => by
    rcases hs with ⟨_, e⟩ | ⟨_, e⟩
    · exact (hp.qu q e).1
    · exact hp.qd q e
  have hws : w.heap.size ≤ W.heap.size := by
    have h0 := ‹GV23 w gv n N U D B L vs W›
    exact h0.blw.size
  refine ⟨?_, by simp [h.len], fun i a ha => ?_, fun i a ha => ?_, fun i a ha => ?_, fun i a ha => ?_, fun i a s q ha hs => ?_, fun i j a b s t q ha hb' hs ht => ?_, fun i j a b q ha hb' hs ht => ?_, ?_⟩
  · rw [List.flatMap_append]; simpa [NdV.cells] using ho
  · rcases app_at ha with ha | ⟨e, rfl⟩
    · exact (h.su i a ha).mods hM (hq _ _ (h.su i a ha))
    · rw [e, h.len, hU]; exact hp.su.mods hM (hq _ _ hp.su)
  · rcases app_at ha with ha | ⟨e, rfl⟩
    · exact (h.sd i a ha).mods hM (hq _ _ (h.sd i a ha))
    · rw [e, h.len, hD]; exact hp.sd.mods hM (hq _ _ hp.sd)
  · rcases app_at ha with ha | ⟨e, rfl⟩
    · exact (h.sl i a ha).mods hM (hq _ _ (h.sl i a ha))
    · rw [e, h.len, hL]; exact MS23.nil _ _
  · rcases app_at ha with ha | ⟨e, rfl⟩
    · exact hM.ownS (h.sb i a ha) fun q hq' hs => ownS_ne h.own (h.sb i a ha) (by decide) q hs hq'
    · rw [e, h.len, hB]; exact ⟨by simp [ints], .inl ⟨rfl, rfl⟩⟩
  · rcases hmp i a s q ha hs with ha | ⟨_, hs⟩
    · exact h.ge i a s q ha (by assumption)
    · have := hnew s q hs; omega
  · rcases hmp i a s q ha hs with ha' | ⟨e1, hs'⟩
    · rcases hmp j b t q hb' ht with hb'' | ⟨e2, ht'⟩
      · exact h.dm i j a b s t q ha' hb'' hs ht
      · have := hlt i a s q ha' hs; have := hnew t q ht'; omega
    · rcases hmp j b t q hb' ht with hb'' | ⟨e2, ht'⟩
      · have := hlt j b t q hb'' ht; have := hnew s q hs'; omega
      · refine ⟨by omega, ?_⟩
        rcases hs' with ⟨e3, e4⟩ | ⟨e3, e4⟩ <;> rcases ht' with ⟨e5, e6⟩ | ⟨e5, e6⟩
        · omega
        · exact absurd e6 (hp.qu q e4).2
        · exact absurd e4 (hp.qu q e6).2
        · omega
  · rcases app_at ha with ha | ⟨e, rfl⟩
    · rcases app_at hb' with hb' | ⟨e, rfl⟩
      · exact h.db i j a b q ha hb' hs ht
      · cases ht
    · cases hs
  · exact h.blw.trans (hM.below h.blw.size fun k hk => (ownS_lt h.own k hk).1)

/-- One of the lists has turned, and its new slice is stored. -/
theorem GV23.putB (h : GV23 w (.slice (some ⟨g, 0, none⟩) n c) n N U D B L vs W) (hx : vs[k]? = some x) {u' : Value} {l' : List Int} (hm : Mods (fun q => x.b.ownBlock = some q) W W') (ho : W'.ownsRow w.heap.size 3 1 u' l'.length (ints l')) (hb : u'.ownBlock = x.b.ownBlock ∨ ∃ q, u'.ownBlock = some q ∧ W.heap.size ≤ q)
    {B' : Nat → List Int} (hB : B' k = l') (hB' : ∀ i, i ≠ k → B' i = B i) :
    GV23 w (.slice (some ⟨g, 0, none⟩) n c) n N U D B' L (vs.set k { x with b := u' }) (W'.setCell ⟨g, k * 4 + 2, none⟩ u') := by
  have hin := h.sb k x hx
  obtain ⟨cur, h1, h2, _⟩ := h.row
  have hgb : ¬ x.b.ownBlock = some g := fun e => ownS_ne h.own hin (by decide) g rfl e
  have hr' : Row (W'.setCell ⟨g, k * 4 + 2, none⟩ u') g 63 (cur.setIfInBounds (k * 4 + 2) u') := (h1.mods hm hgb).put _ _
  have hM2 : Mods (Is g) W' (W'.setCell ⟨g, k * 4 + 2, none⟩ u') := (Mods.refl (Is g) W').put _ _
  have hq : ∀ (v : Value) (S : Int → Bool), MS23 W v N S → MS23 (W'.setCell ⟨g, k * 4 + 2, none⟩ u') v N S := fun v S hS => (hS.mods hm fun q hv e => hS.apart hin hv e).mods hM2 fun q hv e => by
    unfold Is at e; subst e; exact hS.row h1 hv
  have hgu : ¬ u'.ownBlock = some g := fun e => by
    rcases hb with hb | ⟨q, hb, hq⟩
    · exact hgb (by rw [← hb]; exact e)
    · rw [hb] at e; injection e with e; have := h1.lt; omega
  refine ⟨h.stored hx (j := 2) (z := u') (by omega) rfl h1 hr', by rw [List.length_set]; exact h.len, fun i a ha => ?_, fun i a ha => ?_, fun i a ha => ?_, fun i a ha => ?_, fun i a s q ha hs => ?_, fun i j a b s t q ha hb' hs ht => ?_, fun i j a b q ha hb' hs ht => ?_, ?_⟩
  · rcases set_at ha with ⟨rfl, rfl⟩ | ⟨_, ha⟩
    · exact hq _ _ (h.su i x hx)
    · exact hq _ _ (h.su i a ha)
  · rcases set_at ha with ⟨rfl, rfl⟩ | ⟨_, ha⟩
    · exact hq _ _ (h.sd i x hx)
    · exact hq _ _ (h.sd i a ha)
  · rcases set_at ha with ⟨rfl, rfl⟩ | ⟨_, ha⟩
    · exact hq _ _ (h.sl i x hx)
    · exact hq _ _ (h.sl i a ha)
  · rcases set_at ha with ⟨rfl, rfl⟩ | ⟨hne, ha⟩
    · rw [hB]; exact hM2.ownS ho fun q e hs => hgu (by rw [e, hs])
    · rw [hB' i hne]
      exact hM2.ownS (hm.ownS (h.sb i a ha) fun q e hs => hne (h.db i k a x q ha hx e hs)) fun q e hs => ownS_ne h.own (h.sb i a ha) (by decide) g rfl (by rw [e, hs])
  · rcases set_at ha with ⟨rfl, rfl⟩ | ⟨_, ha⟩
    · exact h.ge i x s q hx (by cases s <;> exact hs)
    · exact h.ge i a s q ha hs
  · have hmp : ∀ (i : Nat) (a : NdV), (vs.set k { x with b := u' })[i]? = some a → ∃ a', vs[i]? = some a' ∧ a'.mp = a.mp := fun i a ha => by
      rcases set_at ha with ⟨rfl, rfl⟩ | ⟨_, ha⟩
      · exact ⟨x, hx, rfl⟩
      · exact ⟨a, ha, rfl⟩
    obtain ⟨a', h4, h5⟩ := hmp i a ha
    obtain ⟨b', h6, h7⟩ := hmp j b hb'
    exact h.dm i j a' b' s t q h4 h6 (by rw [h5]; exact hs) (by rw [h7]; exact ht)
  · have hD : ∀ (i : Nat) (a : NdV), i ≠ k → vs[i]? = some a → a.b.ownBlock = some q → u'.ownBlock = some q → False := fun i a hi ha h1 h2 => by
      rcases hb with hb | ⟨p, hb, hp⟩
      · rw [hb] at h2; exact hi (h.db i k a x q ha hx h1 h2)
      · rw [h2] at hb; injection hb with hb
        have := (ownS_lt (h.sb i a ha) q h1).2
        omega
    rcases set_at ha with ⟨e1, e2⟩ | ⟨hne, ha2⟩
    · rcases set_at hb' with ⟨e3, e4⟩ | ⟨hne', hb2⟩
      · omega
      · subst e2; exact (hD j b hne' hb2 ht hs).elim
    · rcases set_at hb' with ⟨e3, e4⟩ | ⟨hne', hb2⟩
      · subst e4; exact (hD i a hne ha2 hs ht).elim
      · exact h.db i j a b q ha2 hb2 hs ht
  · exact (h.blw.trans (hm.below h.blw.size fun q e => (ownS_lt hin q e).1)).trans (hM2.below (by have := h.blw.size; have := hm.size; omega) fun q e => by unfold Is at e; omega)

/-- A step that turns another list of one's own alone. -/
theorem GV23.turn (h : GV23 w gv n N U D B L vs W) {base m s : Nat} {T : TypeId} {pv : Value} {xs : List Value} (ho : W.ownsRow base T s pv m xs) (h1 : 63 ≠ T) (h2 : 3 ≠ T) (hge : ∀ q, pv.ownBlock = some q → w.heap.size ≤ q) (hm : Mods (fun q => pv.ownBlock = some q) W W') : GV23 w gv n N U D B L vs W' :=
  { h with
    own := hm.ownS h.own fun q hq hs => ownS_ne h.own ho h1 q hq hs
    su := fun i x hx => (h.su i x hx).mods hm fun q hq hs => (h.su i x hx).apart ho hq hs
    sd := fun i x hx => (h.sd i x hx).mods hm fun q hq hs => (h.sd i x hx).apart ho hq hs
    sl := fun i x hx => (h.sl i x hx).mods hm fun q hq hs => (h.sl i x hx).apart ho hq hs
    sb := fun i x hx => hm.ownS (h.sb i x hx) fun q hq hs => ownS_ne (h.sb i x hx) ho h2 q hq hs
    blw := h.blw.trans (hm.below h.blw.size hge) }

/-- add at a node's live registers. -/
theorem gadd_any (h : GV23 w (.slice (some ⟨g, 0, none⟩) n c) n N U D B L vs W) (hk : k < n) (v : Int) (h0 : 0 ≤ v) (h1 : v < N) (hN : N ≤ 100000) :
    Calls Try.prog 40 #[.pointer (some ⟨g, k * 4 + 3, none⟩), .int .i64 v] W fun e w' => e = .returned (.bool (!L k v)) ∧ (∃ vs', GV23 w (.slice (some ⟨g, 0, none⟩) n c) n N U D B (updL L k v) vs' w') ∧ RowK g W w' ∧ W.heap.size ≤ w'.heap.size := by
  have hkl : k < vs.length := by rw [h.len]; exact hk
  have hx : vs[k]? = some vs[k] := List.getElem?_eq_getElem hkl
  obtain ⟨cur, h1', h2, h3, h4, h5, h6, _⟩ := h.row
  have hc : cur[k * 4 + 3]? = some (.map vs[k].l) := by
    have := (h1'.cell (k * 4 + 3)).symm.trans (h.cell hx).2.2.2
    exact this
  refine (add23_any g (k * 4 + 3) _ cur _ N (L k) v W h1' hc (h.sl k _ hx) h0 h1 hN).mono ?_
  rintro e w' ⟨rfl, ha⟩
  obtain ⟨y, hy⟩ := h.addL hx h1' ha
  exact ⟨rfl, ⟨_, hy⟩, ha.rowk (h.sl k _ hx), ha.mods.size⟩

end

end Go.Proofs.Ytncigbpeempnfaa
