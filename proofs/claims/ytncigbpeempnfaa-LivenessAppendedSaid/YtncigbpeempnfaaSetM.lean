/-
  A map with keys of type int as a set of integers: made, asked, stored into, counted, ranged over.
-/
import Derived.Test.YtncigbpeempnfaaLvMath
import Derived.Maps.RangeWalk
namespace Go.Proofs.Ytncigbpeempnfaa
open Go.RowKit
set_option linter.unusedVariables false

abbrev DU : Type := DataW Unit

abbrev RdE : Type := Value → Option (DU × List MemPlace)

abbrev ik (v : Int) : Lit := .int .i64 v

theorem ik_key (v : Int) : WideAt.IsKeyLit (ik v) := trivial

theorem ik_ne {v x : Int} (h : v ≠ x) : ik v ≠ ik x := fun e => h (by injection e)

/-- What a map's datum says, as a set of integers; u: what the element of a key that is there reads as. -/
structure SetD (u : DU) (D : DU) (S : Int → Bool) : Prop where
  has : ∀ v, Maps.has D (ik v) = S v
  val : ∀ v, S v = true → ∀ z, D.atKey (ik v) z = u
  tidy : Maps.Tidy D

theorem SetD.empty (u : DU) : SetD u (.map []) fun _ => false :=
  ⟨fun v => rfl, fun v h => (by cases h), Maps.tidy_empty⟩

theorem SetD.put {u D : DU} {S : Int → Bool} (h : SetD u D S) (v : Int) : SetD u (D.put (ik v) u) fun x => S x || decide (x = v) where
  has x := by
    by_cases e : x = v
    · subst e; rw [Maps.has_put_same h.tidy.isMap (ik_key _)]; simp
    · rw [Maps.has_put_other (ik_ne e), h.has]; simp [e]
  val x hx z := by
    by_cases e : x = v
    · subst e; exact Maps.atKey_put_same h.tidy.isMap (ik_key _) _ _
    · rw [Maps.atKey_put_other (ik_ne e)]
      exact h.val x (by simpa [e] using hx) z
  tidy := h.tidy.put (ik_key v) u

theorem SetD.del {u D : DU} {S : Int → Bool} (h : SetD u D S) (v : Int) : SetD u (D.del (ik v)) fun x => S x && !decide (x = v) where
  has x := by
    by_cases e : x = v
    · subst e; rw [Maps.has_del_same]; simp
    · rw [Maps.has_del_other (ik_ne e), h.has]; simp [e]
  val x hx z := by
    by_cases e : x = v
    · subst e; simp at hx
    · rw [Maps.atKey_del_other (ik_ne e)]
      exact h.val x (by simpa [e] using hx) z
  tidy := h.tidy.del (ik v)

theorem SetD.zero {u D : DU} {S : Int → Bool} (h : SetD u D S) {v : Int} (hv : S v = false) (z : DU) : D.atKey (ik v) z = z :=
  Maps.atKey_of_not_has (by rw [h.has, hv]) z

/-- The keys, as integers. -/
def ikOf : Lit → Int
  | .int _ v => v
  | _ => 0

theorem any_key {es : List (Lit × DU)} {l : Lit} (hk : WideAt.IsKeyLit l) : es.any (fun p => p.1.sameKey l) = true ↔ ∃ p ∈ es, p.1 = l := by
  rw [List.any_eq_true]
  constructor
  · rintro ⟨p, hp, h⟩; exact ⟨p, hp, WideAt.sameKey_eq h⟩
  · rintro ⟨p, hp, rfl⟩; exact ⟨p, hp, WideAt.sameKey_self hk⟩

theorem SetD.size {u D : DU} {S : Int → Bool} (h : SetD u D S) (hk : ∀ es, D = .map es → ∀ p ∈ es, ∃ v, p.1 = ik v) {n : Nat} (hS : ∀ v, S v = true → 0 ≤ v ∧ v < n) : Maps.size D = (regL S n).length := by
  obtain ⟨es, rfl, hp⟩ := h.tidy
  have h1 := hk es rfl
  rw [Maps.size_eq]
  have hnd : (es.map fun p => ikOf p.1).Nodup := by
    rw [List.nodup_iff_pairwise_ne, List.pairwise_map]
    refine hp.imp_of_mem fun {a b} ha hb hne e => hne ?_
    obtain ⟨x, hx⟩ := h1 a ha
    obtain ⟨y, hy⟩ := h1 b hb
    rw [hx, hy] at e ⊢
    exact congrArg ik e
  have hm : ∀ v, v ∈ es.map (fun p => ikOf p.1) ↔ v ∈ regL S n := fun v => by
    rw [regL_mem, List.mem_map]
    constructor
    · rintro ⟨p, hp', rfl⟩
      obtain ⟨x, hx⟩ := h1 p hp'
      have hs : S x = true := by rw [← h.has, Maps.has_eq, any_key (ik_key x)]; exact ⟨p, hp', hx⟩
      rw [hx]
      exact ⟨(hS x hs).1, (hS x hs).2, hs⟩
    · rintro ⟨_, _, hs⟩
      rw [← h.has, Maps.has_eq, any_key (ik_key v)] at hs
      obtain ⟨p, hp', e⟩ := hs
      exact ⟨p, hp', by rw [e]; rfl⟩
  have hn2 : (regL S n).Nodup := by
    rw [List.nodup_iff_pairwise_ne]
    exact (regL_sorted S n).imp fun h => by omega
  have := ((List.perm_ext_iff_of_nodup hnd hn2).2 hm).length_eq
  rw [← this, List.length_map]

/-! In memory. -/

structure SetK (P : Program) (t k e : TypeId) (R : RdE) (u : DU) (one zero : Value) (zd : DU) : Prop where
  tt : P.underlying t = some (.map k e)
  tk : P.underlying k = some (.int .i64)
  ro : R one = some (u, [])
  rz : R zero = some (zd, [])
  inv : ∀ v q, R v = some (u, q) → v = one
  inz : ∀ v q, R v = some (zd, q) → v = zero
  zv : ∀ w, (zeroValue e).run P w = .ok zero w

theorem SetK.bool {P : Program} {t k e : TypeId} (tt : P.underlying t = some (.map k e)) (tk : P.underlying k = some (.int .i64)) (he : P.underlying e = some .bool) (hz : ∀ w, (zeroValue e).run P w = .ok (.bool false) w) :
    SetK P t k e (plainElem P e) (.lit (.bool true)) (.bool true) (.bool false) (.lit (.bool false)) where
  tt := tt
  tk := tk
  ro := plainElem_bool he true
  rz := plainElem_bool he false
  inv v q h := by
    unfold plainElem at h
    rw [he] at h
    cases v <;> simp at h
    rw [h.1]
  inz v q h := by
    unfold plainElem at h
    rw [he] at h
    cases v <;> simp at h
    rw [h.1]
  zv := hz

theorem SetK.unit {P : Program} {t k e : TypeId} (tt : P.underlying t = some (.map k e)) (tk : P.underlying k = some (.int .i64)) (hz : ∀ w, (zeroValue e).run P w = .ok (.agg #[]) w) :
    SetK P t k e unitElem (.agg []) (.agg #[]) (.agg #[]) (.agg []) where
  tt := tt
  tk := tk
  ro := unitElem_mk
  rz := unitElem_mk
  inv v q h := (unitElem_inv h).1
  inz v q h := (unitElem_inv h).1
  zv := hz

/-- Block b is a map of at most n entries: the set S. -/
def SetV (w : World) (P : Program) (k : TypeId) (R : RdE) (u : DU) (b n : Nat) (S : Int → Bool) : Prop := ∃ D, w.ownsMap P k R b n D ∧ SetD u D S

/-- Block r ranges over it; L: what is still to come. -/
def SetR (w : World) (P : Program) (k : TypeId) (R : RdE) (u : DU) (b r n : Nat) (S L : Int → Bool) : Prop :=
  ∃ D left cnt, w.ranges P k R b r n D left cnt ∧ SetD u D S ∧ ∀ v, left (ik v) = L v

section
variable {P : Program} {t k e : TypeId} {R : RdE} {u zd : DU} {one zero : Value} {w w' : World} {b r n : Nat} {S L : Int → Bool}

theorem SetV.made (w : World) (P : Program) (k : TypeId) (R : RdE) (u : DU) : SetV (w.alloc (.map #[] 0)) P k R u w.heap.size 0 fun _ => false := ⟨_, World.ownsMap_made .., SetD.empty u⟩

theorem SetV.lt (h : SetV w P k R u b n S) : b < w.heap.size := by obtain ⟨D, h, _⟩ := h; exact h.lt

theorem SetV.mono (h : SetV w P k R u b n S) {n' : Nat} (hn : n ≤ n') : SetV w P k R u b n' S := by obtain ⟨D, h, hd⟩ := h; exact ⟨D, h.mono hn, hd⟩

theorem SetV.congr (h : SetV w P k R u b n S) {S' : Int → Bool} (hS : ∀ v, S' v = S v) : SetV w P k R u b n S' := by rw [show S' = S from funext hS]; exact h

theorem SetV.block (h : SetV w P k R u b n S) (hb : w'.heap[b]? = w.heap[b]?) : SetV w' P k R u b n S := by
  obtain ⟨D, ⟨es, clock, h1, h2⟩, hd⟩ := h
  exact ⟨D, ⟨es, clock, hb.trans h1, h2⟩, hd⟩

theorem SetV.mods {M : Nat → Prop} (h : SetV w P k R u b n S) (hm : Mods M w w') (hb : ¬ M b) : SetV w' P k R u b n S := h.block (hm.block b h.lt hb)

theorem SetV.alloc (h : SetV w P k R u b n S) (o : Obj) : SetV (w.alloc o) P k R u b n S := h.block (Below.heap_alloc w o b h.lt)

theorem SetV.drewN (h : SetV w P k R u b n S) (j : Nat) : SetV (w.drewN j) P k R u b n S := h

theorem SetV.far (h : SetV w P k R u b n S) {q : Addr} (hq : b ≠ q.block) (x : Value) : SetV (w.setCell q x) P k R u b n S := h.block (Below.heap_setCell w q x b hq)

theorem SetV.keysInt (K : SetK P t k e R u one zero zd) {D : DU} (h : w.ownsMap P k R b n D) : ∀ es, D = .map es → ∀ p ∈ es, ∃ v, p.1 = ik v := by
  obtain ⟨es, clock, _, F, _, rfl⟩ := h
  intro es' e p hp
  injection e with e
  subst e
  obtain ⟨v, hv⟩ := Maps.fit_keys F p (mem_sorted.1 hp)
  obtain ⟨x, _, hx, _⟩ := Maps.keyOf_int_inv K.tk hv
  exact ⟨x, hx⟩

theorem SetR.owns (h : SetR w P k R u b r n S L) : SetV w P k R u b n S := by obtain ⟨D, l, c, h, hd, _⟩ := h; exact ⟨D, h.owns, hd⟩

theorem SetR.ne (h : SetR w P k R u b r n S L) : r ≠ b := by obtain ⟨D, l, c, h, hd, _⟩ := h; exact h.ne

theorem SetR.lt (h : SetR w P k R u b r n S L) : r < w.heap.size := by obtain ⟨D, l, c, h, hd, _⟩ := h; exact h.lt

/-- A slice of one's own is neither the map nor the iterator. -/
theorem SetV.apart (h : SetV w P k R u b n S) {base m sz : Nat} {ty : TypeId} {v : Value} {xs : List Value} (ho : w.ownsRow base ty sz v m xs) : ¬ v.ownBlock = some b := fun e => by
  obtain ⟨D, ⟨es, clock, h1, _⟩, _⟩ := h
  rcases ho.2 with ⟨rfl, _⟩ | ⟨g, cap, cur, rfl, _, hh, _⟩
  · cases e
  · simp only [Value.ownBlock, Option.some.injEq] at e
    subst e
    rw [h1] at hh
    cases hh

theorem SetR.apart (h : SetR w P k R u b r n S L) {base m sz : Nat} {ty : TypeId} {v : Value} {xs : List Value} (ho : w.ownsRow base ty sz v m xs) : ¬ v.ownBlock = some r := fun e => by
  obtain ⟨D, l, c, ⟨es, clock, since, seen, c0, h1, h2, h3, h4, h5, _⟩, _⟩ := h
  rcases ho.2 with ⟨rfl, _⟩ | ⟨g, cap, cur, rfl, _, hh, _⟩
  · cases e
  · simp only [Value.ownBlock, Option.some.injEq] at e
    subst e
    rw [h5] at hh
    cases hh

theorem SetR.block (h : SetR w P k R u b r n S L) (hb : w'.heap[b]? = w.heap[b]?) (hr : w'.heap[r]? = w.heap[r]?) : SetR w' P k R u b r n S L ∧ w'.rangeLeft b r = w.rangeLeft b r := by
  refine ⟨?_, by unfold World.rangeLeft; rw [hb, hr]⟩
  obtain ⟨D, l, c, ⟨es, clock, since, seen, c0, h1, h2, h3, h4, h5, h6⟩, hd, hl⟩ := h
  exact ⟨D, l, c, ⟨es, clock, since, seen, c0, hb.trans h1, h2, h3, h4, hr.trans h5, h6⟩, hd, hl⟩

theorem SetR.mods {M : Nat → Prop} (h : SetR w P k R u b r n S L) (hm : Mods M w w') (hb : ¬ M b) (hr : ¬ M r) : SetR w' P k R u b r n S L ∧ w'.rangeLeft b r = w.rangeLeft b r := h.block (hm.block b h.owns.lt hb) (hm.block r h.lt hr)

end

section
variable {P : Program} {t k e : TypeId} {R : RdE} {u zd : DU} {one zero : Value} (K : SetK P t k e R u one zero zd) (w : World) {ops : Array Oper} {rest : List Oper} {o : Oper} {a : Act} {Q : Exit → Act → World → Prop}
include K

/-- 'm[v]', without and with 'ok'. -/
theorem wpList_sv_has (hg : o.guard = none) (m x : Operand) (hop : o.op = Op.lookup t m x false) (b n : Nat) (S : Int → Bool) (hm : a.eval m = .map (some b)) (h : SetV w P k R u b n S) (v : Int) (hx : a.eval x = .int .i64 v) (hv : (Lit.int .i64 v).wf = true)
    (hK : wpList P ops Q rest (a.put o.dst (if S v then one else zero)) w) : wpList P ops Q (o :: rest) a w := by
  obtain ⟨D, hown, hd⟩ := h
  refine wpList_plain hg fun K' hK' => ?_
  obtain ⟨v', q, hrun, hat⟩ := hown.lookup (Maps.int_keyed K.tk) K.tt (K.zv w) K.rz (Maps.keyOf_int_mk K.tk hv)
  have e : v' = if S v then one else zero := by
    cases hs : S v
    · rw [hd.zero hs] at hat; exact K.inz _ _ hat
    · rw [hd.val v hs] at hat; exact K.inv _ _ hat
  subst e
  unfold Oper.wp
  simp [execOp, hop, hm, hx, hrun, Result.andThen]
  exact hK' _ _ hK

theorem wpList_sv_ok (hg : o.guard = none) (m x : Operand) (hop : o.op = Op.lookup t m x true) (b n : Nat) (S : Int → Bool) (hm : a.eval m = .map (some b)) (h : SetV w P k R u b n S) (v : Int) (hx : a.eval x = .int .i64 v) (hv : (Lit.int .i64 v).wf = true)
    (hK : wpList P ops Q rest (a.put o.dst (.tuple #[if S v then one else zero, .bool (S v)])) w) : wpList P ops Q (o :: rest) a w := by
  obtain ⟨D, hown, hd⟩ := h
  refine wpList_lookup_own_ok w hg m x t hop k e (Maps.int_keyed K.tk) K.tt R (K.zv w) zd [] K.rz b n D hm hown _ (ik v) hx (Maps.keyOf_int_mk K.tk hv) fun v' q hat => ?_
  have e : v' = if S v then one else zero := by
    cases hs : S v
    · rw [hd.zero hs] at hat; exact K.inz _ _ hat
    · rw [hd.val v hs] at hat; exact K.inv _ _ hat
  rw [e, hd.has]; exact hK

/-- 'm[v] = one'. -/
theorem wpList_sv_add (hg : o.guard = none) (m x y : Operand) (hop : o.op = Op.mapUpdate t m x y) (b n : Nat) (S : Int → Bool) (hm : a.eval m = .map (some b)) (h : SetV w P k R u b n S) (hn : n < maxLen) (v : Int) (hx : a.eval x = .int .i64 v) (hy : a.eval y = one) (hv : (Lit.int .i64 v).wf = true)
    (hK : ∀ w', SetV w' P k R u b (n + 1) (fun z => S z || decide (z = v)) → Mods (Is b) w w' → w'.heap.size = w.heap.size → wpList P ops Q rest (a.put o.dst undef) w') : wpList P ops Q (o :: rest) a w := by
  obtain ⟨D, hown, hd⟩ := h
  refine wpList_mapUpdate_in w hg m x y t hop k e (Maps.int_keyed K.tk) K.tt R b n D hm hown hn _ _ (ik v) hx hy (Maps.keyOf_int_mk K.tk hv) u [] K.ro fun w' h1 h2 => ?_
  refine hK w' ⟨_, h1, hd.put v⟩ ((Mods.refl _ w).grown h2.grown fun j hj => .inl (by injection hj with hj; exact hj.symm)) ?_
  obtain ⟨es, clock, es', clock', hb, rfl⟩ := h2
  simp [ChangeMaps.setBlock]

/-- 'delete(m, v)'. -/
theorem wpList_sv_del (hg : o.guard = none) (m x : Operand) (hop : o.op = Op.call { callee := Callee.builtin Builtin.delete, args := #[m, x], argTypes := #[t, k] }) (b n : Nat) (S : Int → Bool) (hm : a.eval m = .map (some b)) (h : SetV w P k R u b n S) (v : Int) (hx : a.eval x = .int .i64 v) (hv : (Lit.int .i64 v).wf = true)
    (hK : ∀ w', SetV w' P k R u b n (fun z => S z && !decide (z = v)) → Mods (Is b) w w' → w'.heap.size = w.heap.size → wpList P ops Q rest (a.put o.dst (.tuple #[])) w') : wpList P ops Q (o :: rest) a w := by
  obtain ⟨D, hown, hd⟩ := h
  refine wpList_delete_own w hg m x t k hop e (Maps.int_keyed K.tk) K.tt R b n D hm hown _ (ik v) hx (Maps.keyOf_int_mk K.tk hv) fun w' h1 h2 => ?_
  refine hK w' ⟨_, h1, hd.del v⟩ ((Mods.refl _ w).grown h2.grown fun j hj => .inl (by injection hj with hj; exact hj.symm)) ?_
  obtain ⟨es, clock, es', clock', hb, rfl⟩ := h2
  simp [ChangeMaps.setBlock]

/-- 'len(m)'. -/
theorem wpList_sv_len (hg : o.guard = none) (m : Operand) (hop : o.op = Op.call { callee := Callee.builtin Builtin.len, args := #[m], argTypes := #[t] }) (b n : Nat) (S : Int → Bool) (hm : a.eval m = .map (some b)) (h : SetV w P k R u b n S) (j : Nat) (hS : ∀ v, S v = true → 0 ≤ v ∧ v < j)
    (hK : wpList P ops Q rest (a.put o.dst (.int .i64 ((regL S j).length : Nat))) w) : wpList P ops Q (o :: rest) a w := by
  obtain ⟨D, hown, hd⟩ := h
  refine wpList_len_own w hg m t hop k e K.tt R b n D hm hown ?_
  rw [hd.size (SetV.keysInt K hown) hS]; exact hK

/-- 'range m'. -/
theorem wpList_sv_range (hg : o.guard = none) (m : Operand) (hop : o.op = Op.range t m) (b n : Nat) (S : Int → Bool) (hm : a.eval m = .map (some b)) (h : SetV w P k R u b n S)
    (hK : ∀ w', SetR w' P k R u b w.heap.size n S S → Mods No w w' → w'.heap.size = w.heap.size + 1 → wpList P ops Q rest (a.put o.dst (.pointer (some ⟨w.heap.size, 0, none⟩))) w') : wpList P ops Q (o :: rest) a w := by
  obtain ⟨D, hown, hd⟩ := h
  refine wpList_range_own w hg m t hop k e (Maps.int_keyed K.tk) K.tt R b n D hm hown fun w' h1 h2 h3 => ?_
  exact hK w' ⟨D, _, _, h1, hd, hd.has⟩ ((Mods.refl _ w).grown h2 fun j hj => by cases hj) h3

/-- The step. -/
theorem wpList_sv_next (hg : o.guard = none) (it : Operand) (hop : o.op = Op.next it false) (b r n : Nat) (S L : Int → Bool) (hit : a.eval it = .pointer (some ⟨r, 0, none⟩)) (h : SetR w P k R u b r n S L)
    (hDone : (∀ v, L v = false) → wpList P ops Q rest (a.put o.dst (.tuple #[.bool false])) w)
    (hMore : ∀ (x : Int) (w' : World), (Lit.int .i64 x).wf = true → L x = true → S x = true → SetR w' P k R u b r n S (fun z => L z && !decide (z = x)) → w'.rangeLeft b r < w.rangeLeft b r → Mods (Is r) w w' → w'.heap.size = w.heap.size →
      (Instr.entry (.pointer (some ⟨r, 0, none⟩))).run P w' = .ok (.tuple #[.int .i64 x, one]) w' → wpList P ops Q rest (a.put o.dst (.tuple #[.bool true, .int .i64 x, one])) w') : wpList P ops Q (o :: rest) a w := by
  obtain ⟨D, left, cnt, h, hd, hl⟩ := h
  refine wpList_next_ranges w hg it hop k (Maps.int_keyed K.tk) R (Value.int .i64) (fun v : Value => v) (fun key kl hkey => by obtain ⟨x, rfl, _⟩ := Maps.keyOf_int_inv K.tk hkey; exact ⟨x, rfl⟩) (fun v y hv => ⟨v, rfl⟩)
    b r n D left cnt hit h (fun _ h0 => hDone fun v => by rw [← hl]; exact h0 _) (fun x c kl y w' cnt' hkey hlk hv hat hrg hlt hgr hsz hen => ?_)
  obtain ⟨x', ex, rfl, hwx⟩ := Maps.keyOf_int_inv K.tk hkey
  cases ex
  have hs : S x = true := by rw [← hd.has]; exact Maps.has_true_of_atKey hat
  have hu : y.1 = u := by rw [← hat u]; exact hd.val x hs u
  obtain rfl : c = one := K.inv c y.2 (by rw [← hu]; exact hv)
  refine hMore x w' hwx (by rw [← hl]; exact hlk) hs ⟨D, _, cnt', hrg, hd, fun z => ?_⟩ (by rw [hrg.left_eq, h.left_eq]; exact hlt) ((Mods.refl _ w).grown hgr fun j hj => .inl (by injection hj with hj; exact hj.symm)) hsz hen
  show (left (ik z) && !(ik z).sameKey (ik x)) = (L z && !decide (z = x))
  rw [hl]
  by_cases e : z = x
  · subst e; rw [WideAt.sameKey_self (ik_key _)]; simp
  · rw [Maps.sameKey_ne (ik_ne e)]; simp [e]

end

/-- The keys collected in a range loop: each once. -/
def Coll (S L : Int → Bool) (ss : List Int) : Prop := ss.Nodup ∧ ∀ x, x ∈ ss ↔ (S x = true ∧ L x = false)

theorem Coll.start (S : Int → Bool) : Coll S S [] := ⟨List.nodup_nil, fun x => by cases S x <;> simp⟩

theorem Coll.step {S L : Int → Bool} {ss : List Int} (h : Coll S L ss) {x : Int} (hs : S x = true) (hl : L x = true) : Coll S (fun z => L z && !decide (z = x)) (ss ++ [x]) := by
  refine ⟨?_, fun y => ?_⟩
  · rw [List.nodup_append]
    refine ⟨h.1, by simp, fun a ha b hb => ?_⟩
    rw [List.mem_singleton] at hb
    subst hb
    rintro rfl
    rw [((h.2 a).1 ha).2] at hl
    cases hl
  · rw [List.mem_append, List.mem_singleton, h.2]
    by_cases e : y = x
    · subst e; simp [hs]
    · simp [e]

theorem Coll.perm {S L : Int → Bool} {ss : List Int} (h : Coll S L ss) (h0 : ∀ v, L v = false) {n : Nat} (hS : ∀ v, S v = true → 0 ≤ v ∧ v < n) : ss.Perm (regL S n) := by
  refine (List.perm_ext_iff_of_nodup h.1 ?_).2 fun v => ?_
  · rw [List.nodup_iff_pairwise_ne]
    exact (regL_sorted S n).imp fun h => by omega
  · rw [h.2, regL_mem]
    constructor
    · rintro ⟨hs, _⟩; exact ⟨(hS v hs).1, (hS v hs).2, hs⟩
    · rintro ⟨_, _, hs⟩; exact ⟨hs, h0 v⟩

theorem Coll.len {S L : Int → Bool} {ss : List Int} (h : Coll S L ss) {n : Nat} (hS : ∀ v, S v = true → 0 ≤ v ∧ v < n) : ss.length ≤ n := by
  have h1 : ss.Perm (regL (fun v => S v && !L v) n) := by
    refine (List.perm_ext_iff_of_nodup h.1 ?_).2 fun v => ?_
    · rw [List.nodup_iff_pairwise_ne]
      exact (regL_sorted _ n).imp fun h => by omega
    · rw [h.2, regL_mem]
      constructor
      · rintro ⟨hs, hl⟩; exact ⟨(hS v hs).1, (hS v hs).2, by rw [hs, hl]; rfl⟩
      · rintro ⟨_, _, hs⟩; simpa using hs
  rw [h1.length_eq]
  exact regL_len _ n

/-- Sorted, it is the list. -/
theorem regL_of_perm {S : Int → Bool} {ss : List Int} {n : Nat} (h : ss.Perm (regL S n)) (hs : ss.Pairwise (· ≤ ·)) : ss = regL S n := by
  refine asc_ext ?_ (regL_sorted S n) fun v => h.mem_iff
  have hn : ss.Nodup := h.nodup_iff.2 (by rw [List.nodup_iff_pairwise_ne]; exact (regL_sorted S n).imp fun h => by omega)
  rw [List.nodup_iff_pairwise_ne] at hn
  exact (hs.and hn).imp fun h => by omega

end Go.Proofs.Ytncigbpeempnfaa
