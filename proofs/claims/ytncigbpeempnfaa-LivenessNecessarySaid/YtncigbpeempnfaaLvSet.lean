/-
  A set of registers as the program keeps it: nil, or a map of its own. Asked, ranged over where it is nil; add.
-/
import Derived.Test.YtncigbpeempnfaaSetM
import Derived.Test.YtncigbpeempnfaaLvNest
namespace Go.Proofs.Ytncigbpeempnfaa
open Go.RowKit
set_option linter.unusedVariables false

theorem setK : SetK Try.prog 61 3 4 (plainElem Try.prog 4) (.lit (.bool true)) (.bool true) (.bool false) (.lit (.bool false)) :=
  SetK.bool Try.underlying61 Try.underlying3 Try.underlying4 (fun w => by kernel_rfl)

abbrev SV (w : World) (b n : Nat) (S : Int → Bool) : Prop := SetV w Try.prog 3 (plainElem Try.prog 4) (.lit (.bool true)) b n S

abbrev SR (w : World) (b r n : Nat) (S L : Int → Bool) : Prop := SetR w Try.prog 3 (plainElem Try.prog 4) (.lit (.bool true)) b r n S L

def mapOf : Value → Option Nat
  | .map x => x
  | _ => none

/-- A map has no more entries than there are registers. -/
theorem SetV.tight {P : Program} {t k e : TypeId} {R : RdE} {u zd : DU} {one zero : Value} (K : SetK P t k e R u one zero zd) {w : World} {b n N : Nat} {S : Int → Bool} (h : SetV w P k R u b n S) (hS : ∀ v, S v = true → 0 ≤ v ∧ v < N) : SetV w P k R u b N S := by
  obtain ⟨D, h, hd⟩ := h
  have h1 := hd.size (SetV.keysInt K h) hS
  obtain ⟨es, clock, hb, F, hs, hD⟩ := h
  have h2 : Maps.size D = es.size := by rw [hD, Maps.size_eq]; exact length_read es
  have := regL_len S N
  exact ⟨D, ⟨es, clock, hb, F, by omega, hD⟩, hd⟩

/-- The value v is the set S of registers below N. -/
structure MS23 (w : World) (v : Value) (N : Nat) (S : Int → Bool) : Prop where
  bnd : ∀ z, S z = true → 0 ≤ z ∧ z < N
  val : (v = .map none ∧ ∀ z, S z = false) ∨ ∃ b, v = .map (some b) ∧ SV w b N S

section
variable {w w' : World} {v : Value} {N : Nat} {S S' : Int → Bool}

theorem MS23.nil (w : World) (N : Nat) : MS23 w (.map none) N fun _ => false := { bnd := fun z h => (by cases h), val := .inl ⟨rfl, fun _ => rfl⟩ }

theorem MS23.congr (h : MS23 w v N S) (hS : ∀ z, S' z = S z) : MS23 w v N S' := by rw [show S' = S from funext hS]; exact h

theorem MS23.lt (h : MS23 w v N S) {q : Nat} (hq : mapOf v = some q) : q < w.heap.size := by
  rcases h.val with ⟨rfl, _⟩ | ⟨b, rfl, hb⟩
  · cases hq
  · cases hq; exact hb.lt

theorem MS23.mods {M : Nat → Prop} (h : MS23 w v N S) (hm : Mods M w w') (hM : ∀ q, mapOf v = some q → ¬ M q) : MS23 w' v N S := by
  refine ⟨h.bnd, ?_⟩
  rcases h.val with h | ⟨b, rfl, hb⟩
  · exact .inl h
  · exact .inr ⟨b, rfl, hb.mods hm (hM b rfl)⟩

theorem MS23.below (h : MS23 w v N S) (hb : Below w.heap.size w w') : MS23 w' v N S := h.mods (M := No) (Mods.of_below hb) fun _ _ h => h

/-- Its block holds no cells. -/
theorem MS23.row (h : MS23 w v N S) {p : Nat} {T : TypeId} {cs : Array Value} (hr : Row w p T cs) : ¬ mapOf v = some p := fun e => by
  rcases h.val with ⟨rfl, _⟩ | ⟨b, rfl, D, ⟨es, clock, h1, _⟩, _⟩
  · cases e
  · cases e
    unfold Row at hr
    rw [hr] at h1
    cases h1

theorem MS23.apart (h : MS23 w v N S) {base m sz : Nat} {ty : TypeId} {u : Value} {xs : List Value} (ho : w.ownsRow base ty sz u m xs) {q : Nat} (hv : mapOf v = some q) (hu : u.ownBlock = some q) : False := by
  rcases h.val with ⟨rfl, _⟩ | ⟨b, rfl, hb⟩
  · cases hv
  · cases hv; exact hb.apart ho hu

theorem MS23.shape (h : MS23 w v N S) : ∃ x, v = .map x := by
  rcases h.val with ⟨rfl, _⟩ | ⟨b, rfl, _⟩
  · exact ⟨_, rfl⟩
  · exact ⟨_, rfl⟩

theorem MS23.lit (h : MS23 w v N S) (hN : N ≤ 100000) {z : Int} (hz : S z = true) : (Lit.int .i64 z).wf = true := by
  have := h.bnd z hz
  exact WalkArith.wf_i64 ⟨by omega, by omega⟩

end

section
variable (w : World) {ops : Array Oper} {rest : List Oper} {o : Oper} {a : Act} {Q : Exit → Act → World → Prop}

theorem wpList_ms_has (hg : o.guard = none) (m x : Operand) (hop : o.op = Op.lookup 61 m x false) {v : Value} {N : Nat} {S : Int → Bool} (hm : a.eval m = v) (h : MS23 w v N S) (z : Int) (hx : a.eval x = .int .i64 z) (hz : (Lit.int .i64 z).wf = true)
    (hK : wpList Try.prog ops Q rest (a.put o.dst (.bool (S z))) w) : wpList Try.prog ops Q (o :: rest) a w := by
  rcases h.val with ⟨rfl, h0⟩ | ⟨b, rfl, hb⟩
  · refine wpList_plain hg fun K' hK' => ?_
    have hrun := Maps.look_nil (P := Try.prog) (w := w) false (Maps.int_keyed setK.tk) setK.tt (setK.zv w) (Maps.keyOf_int_mk setK.tk hz)
    rw [h0] at hK
    unfold Oper.wp
    simp only [execOp, hop, hm, hx]
    simp [hrun, Result.andThen]
    exact hK' _ _ hK
  · refine wpList_sv_has setK w hg m x hop b N S hm hb z hx hz ?_
    cases hs : S z <;> rw [hs] at hK <;> exact hK

/-- 'range' over nil, and its step. -/
theorem wpList_nil_range (hg : o.guard = none) (m : Operand) (hop : o.op = Op.range 61 m) (hm : a.eval m = .map none)
    (hK : wpList Try.prog ops Q rest (a.put o.dst (.pointer (some ⟨w.heap.size, 0, none⟩))) (w.alloc (.mapIter none 0 #[] 0))) : wpList Try.prog ops Q (o :: rest) a w := by
  refine wpList_plain hg fun K' hK' => ?_
  unfold Oper.wp
  have hrun : (Instr.range 61 (.map none)).run Try.prog w = .ok (.pointer (some ⟨w.heap.size, 0, none⟩)) (w.alloc (.mapIter none 0 #[] 0)) := by
    simp [Instr.range, run_underlying setK.tt, Result.andThen]
  simp only [execOp, hop, hm]
  simp [hrun, Result.andThen]
  exact hK' _ _ hK

theorem wpList_nil_next (hg : o.guard = none) (it : Operand) (hop : o.op = Op.next it false) (r : Nat) (hit : a.eval it = .pointer (some ⟨r, 0, none⟩)) (hr : w.heap[r]? = some (.mapIter none 0 #[] 0))
    (hK : wpList Try.prog ops Q rest (a.put o.dst (.tuple #[.bool false])) w) : wpList Try.prog ops Q (o :: rest) a w := by
  refine wpList_plain hg fun K' hK' => ?_
  unfold Oper.wp
  have hrun : (Instr.next (.pointer (some ⟨r, 0, none⟩)) false o.type).run Try.prog w = .ok (.tuple #[.bool false]) w := by
    have h1 : (getObj r).run Try.prog w = .ok (.mapIter none 0 #[] 0) w := by simp [getObj, Sem.run, hr]
    simp [Instr.next, h1, Result.andThen]
  simp only [execOp, hop, hit]
  simp [hrun, Result.andThen]
  exact hK' _ _ hK

theorem wpList_nil_len (hg : o.guard = none) (m : Operand) (hop : o.op = Op.call { callee := Callee.builtin Builtin.len, args := #[m], argTypes := #[61] }) (hm : a.eval m = .map none)
    (hK : wpList Try.prog ops Q rest (a.put o.dst (.int .i64 0)) w) : wpList Try.prog ops Q (o :: rest) a w := by
  refine wpList_plain hg fun K' hK' => ?_
  unfold Oper.wp
  have hrun := Maps.len_nil (P := Try.prog) (w := w) setK.tt o.type
  simp [execOp, hop, resolve, invoke, builtin, hm, hrun, Result.andThen]
  exact hK' _ _ hK

end

theorem arr_same {cs : Array Value} {o : Nat} {mv : Value} (hc : cs[o]? = some mv) : cs.setIfInBounds o mv = cs := by
  obtain ⟨ho, hv⟩ := Array.getElem?_eq_some_iff.1 hc
  apply Array.ext_getElem?
  intro i
  rw [Array.getElem?_setIfInBounds]
  by_cases e : o = i
  · subst e; simp [ho, hv]
  · simp [e]

/-- What add leaves. -/
structure AddP (w : World) (B o : Nat) (T : TypeId) (cs : Array Value) (mv : Value) (N : Nat) (S : Int → Bool) (v : Int) (w' : World) : Prop where
  ex : ∃ mv', MS23 w' mv' N (fun z => S z || decide (z = v)) ∧ Row w' B T (cs.setIfInBounds o mv') ∧ (mapOf mv' = mapOf mv ∨ ∃ q, mapOf mv' = some q ∧ w.heap.size ≤ q)
  mods : Mods (fun k => k = B ∨ mapOf mv = some k) w w'

/-- Rows but that of block X stay. -/
def RowK (X : Nat) (W W' : World) : Prop := ∀ p T cs, p ≠ X → Row W p T cs → Row W' p T cs

theorem RowK.refl (X : Nat) (W : World) : RowK X W W := fun _ _ _ _ h => h

theorem RowK.trans {X : Nat} {a b c : World} (h : RowK X a b) (k : RowK X b c) : RowK X a c := fun p T cs hp hr => k p T cs hp (h p T cs hp hr)

theorem RowK.below {X : Nat} {W W' : World} (h : Below W.heap.size W W') : RowK X W W' := fun p T cs hp hr => hr.below h hr.lt

theorem AddP.rowk {w w' : World} {B o N : Nat} {T : TypeId} {cs : Array Value} {mv : Value} {S : Int → Bool} {v : Int} (h : AddP w B o T cs mv N S v w') (hm : MS23 w mv N S) : RowK B w w' := fun p T cs hp hr => hr.mods h.mods fun e => e.elim hp fun e => hm.row hr e

set_option maxRecDepth 100000 in
set_option maxHeartbeats 2000000 in
theorem add23_any (B o : Nat) (T : TypeId) (cs : Array Value) (mv : Value) (N : Nat) (S : Int → Bool) (v : Int) (w : World) (hr : Row w B T cs) (hc : cs[o]? = some mv) (h : MS23 w mv N S) (h0 : 0 ≤ v) (h1 : v < N) (hN : N ≤ 100000) :
    Calls Try.prog 40 #[.pointer (some ⟨B, o, none⟩), .int .i64 v] w fun e w' => e = .returned (.bool (!S v)) ∧ AddP w B o T cs mv N S v w' := by
  have hwf : (Lit.int .i64 v).wf = true := WalkArith.wf_i64 ⟨by omega, by omega⟩
  have hbnd : ∀ z, (S z || decide (z = v)) = true → 0 ≤ z ∧ z < N := fun z hz => by
    rw [Bool.or_eq_true] at hz; rcases hz with hz | hz
    · exact h.bnd z hz
    · have := of_decide_eq_true hz; omega
  have y0 : w.cell? ⟨B, o, none⟩ = some mv := (hr.cell o).trans hc
  have hfz := hr.frozen o
  have hq : ∀ (w : World) (r : Option Nat), (binOp .eql 61 (.map r) (.map none)).run Try.prog w = .ok (.bool r.isNone) w := fun w r => run_eql_map_nil w _ _ _ r Try.underlying61
  have hset : ∀ b x, SV x b (N + 1) (fun z => S z || decide (z = v)) → SV x b N (fun z => S z || decide (z = v)) := fun b x hx => SetV.tight setK hx hbnd
  have hNm : N < maxLen := by unfold maxLen; omega
  have HB := Lib.hid hbnd
  have HR := Lib.hid hr
  have HC := Lib.hid hc
  have HT := Lib.hid hset
  clear hbnd hset
  cases hS : S v
  · have e1 : (!false) = true := rfl
    rcases h.val with ⟨rfl, hnil⟩ | ⟨b, rfl, hb⟩
    · have HN := Lib.hid hnil
      have hmm := @run_makeMap Try.prog
      have h1 := SetV.made w Try.prog 3 (plainElem Try.prog 4) (.lit (.bool true))
      have hR1 := hr.alloc (.map #[] 0)
      have hfz1 := hR1.frozen o
      have y1 : (w.alloc (.map #[] 0)).cell? ⟨B, o, none⟩ = some (.map none) := (hR1.cell o).trans hc
      have hR2 := hR1.put o (.map (some w.heap.size))
      have y2 : ((w.alloc (.map #[] 0)).setCell ⟨B, o, none⟩ (.map (some w.heap.size))).cell? ⟨B, o, none⟩ = some (.map (some w.heap.size)) := by
        rw [hR2.cell o]
        have : o < cs.size := (Array.getElem?_eq_some_iff.1 hc).1
        simp [this]
      have h2 := h1.far (q := ⟨B, o, none⟩) (fun e => by have := hr.lt; have e : w.heap.size = B := e; omega) (.map (some w.heap.size))
      have HR2 := Lib.hid hR2
      clear hnil hr hc hR1 hR2 h1
      go_enter Try.func40, Try.ntmps40
      go_wp2_with (first
        | (at_lookup; refine wpList_ms_has w rfl _ _ rfl rfl h v rfl hwf ?_; rw [hS])
        | (at_mapUpdate; refine wpList_sv_add setK _ rfl _ _ _ rfl w.heap.size 0 _ rfl h2 (by unfold maxLen; omega) v rfl rfl hwf ?_; intro w3 h3 hm3 hs3))
      go_ret
      refine ⟨rfl, ⟨.map (some w.heap.size), ⟨HB.out, .inr ⟨_, rfl, HT.out _ _ ((h3.mono (by omega)).congr fun z => ?_)⟩⟩, HR2.out.mods hm3 (fun e => ?_), .inr ⟨_, rfl, Nat.le_refl _⟩⟩, ?_⟩
      · rw [HN.out z]
      · have e : B = w.heap.size := e
        have := HR.out.lt
        omega
      · have hm : Mods (fun k => k = B ∨ mapOf (.map none) = some k) w ((w.alloc (.map #[] 0)).setCell ⟨B, o, none⟩ (.map (some w.heap.size))) := ((Mods.refl _ w).alloc _).setCell (p := ⟨B, o, none⟩) (.inl (.inl rfl)) _
        refine hm.then hm3 fun k hk => ?_
        unfold Is at hk
        right; omega
    · have HBB := Lib.hid hb
      clear hr hc
      go_enter Try.func40, Try.ntmps40
      go_wp2_with (first
        | (at_lookup; refine wpList_ms_has w rfl _ _ rfl rfl h v rfl hwf ?_; rw [hS])
        | (at_mapUpdate; refine wpList_sv_add setK _ rfl _ _ _ rfl b N _ rfl hb hNm v rfl rfl hwf ?_; intro w3 h3 hm3 hs3))
      go_ret
      refine ⟨rfl, ⟨.map (some b), ⟨HB.out, .inr ⟨_, rfl, HT.out _ _ h3⟩⟩, ?_, .inl rfl⟩, hm3.mono fun k hk => .inr (by unfold Is at hk; rw [hk]; rfl)⟩
      have hid : cs.setIfInBounds o (.map (some b)) = cs := arr_same HC.out
      rw [hid]
      exact HR.out.mods hm3 fun e => (MS23.row ⟨fun z hz => HB.out z (by rw [hz]; rfl), .inr ⟨b, rfl, HBB.out⟩⟩ HR.out) (by unfold Is at e; rw [e]; rfl)
  · go_enter Try.func40, Try.ntmps40
    go_wp2_with (first
        | (at_lookup; refine wpList_ms_has w rfl _ _ rfl rfl h v rfl hwf ?_; rw [hS]))
    go_ret
    refine ⟨rfl, ⟨mv, h.congr fun z => ?_, ?_, .inl rfl⟩, Mods.refl _ _⟩
    · by_cases e : z = v
      · subst e; simp [hS]
      · simp [e]
    · rw [arr_same HC.out]; exact HR.out

end Go.Proofs.Ytncigbpeempnfaa
