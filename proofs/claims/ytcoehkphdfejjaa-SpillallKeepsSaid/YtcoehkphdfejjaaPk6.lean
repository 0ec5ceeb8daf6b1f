import Derived.Test.YtcoehkphdfejjaaPk4
import Derived.Test.YtcoehkphdfejjaaPk2
import Derived.Test.YtcoehkphdfejjaaPk1
import Derived.Deep.Cut
import Derived.Deep.CutRange
import Derived.Test.YtcoehkphdfejjaaPk5
import Derived.Test.YtcoehkphdfejjaaPk3

/-
  The statements' own test of two blocks: one call of each Check over 31 blocks.
-/
namespace Go.Proofs.Ytcoehkphdfejjaa
open Go.RowKit
set_option linter.unusedVariables false

/-- The cells of a block without instructions that returns. -/
def zb : List Value := [.slice none 0 0, .int .i64 3, .int .i64 0, .int .i64 0, .int .i64 0]

def zt : Tm := ⟨3, 0, 0, 0⟩

/-- 31 blocks, filled up to k. -/
def FillB (w : World) (T : TypeId) (g k : Nat) : Prop := ∃ cs, Row w g T cs ∧ cs.size = 155 ∧ ∀ i, i < k → ∀ j v, zb[j]? = some v → cs[i * 5 + j]? = some v

theorem FillB.step {w : World} {T : TypeId} {g k : Nat} (h : FillB w T g k) (hk : k < 31) : FillB (w.setCells g (k * 5) zb) T g (k + 1) := by
  obtain ⟨cs, h1, h2, h3⟩ := h
  refine ⟨_, h1.writes _ _, by rw [setA_size]; exact h2, fun i hi j v hv => ?_⟩
  have hj : j < 5 := (List.getElem?_eq_some_iff.1 hv).1
  rcases Nat.lt_or_ge i k with h4 | h4
  · rw [setA_out _ _ _ _ (.inl (by omega))]
    exact h3 i h4 j v hv
  · obtain rfl : i = k := by omega
    exact setA_in _ _ _ _ _ hv (by rw [h2]; show i * 5 + 5 ≤ 155; omega)

theorem FillB.there {w : World} {T : TypeId} {g k i : Nat} (h : FillB w T g k) (hi : i < 31) : w.there g (i * 5) 5 := by
  obtain ⟨cs, h1, h2, _⟩ := h
  exact h1.there _ _ (by omega)

theorem FillB.below {w w' : World} {T : TypeId} {g k : Nat} (h : FillB w T g k) (hb : Below w.heap.size w w') : FillB w' T g k := by
  obtain ⟨cs, h1, h2⟩ := h
  exact ⟨cs, h1.below hb h1.lt, h2⟩

theorem FillB.lt {w : World} {T : TypeId} {g k : Nat} (h : FillB w T g k) : g < w.heap.size := by
  obtain ⟨cs, h1, _⟩ := h
  exact h1.lt

/-- The first of them another, the rest as they were. -/
theorem FillB.first {w : World} {T : TypeId} {g : Nat} (h : FillB w T g 31) (f : List Value) (hf : f.length = 5) :
    (∀ j v, f[j]? = some v → (w.setCells g 0 f).cell? ⟨g, j, none⟩ = some v) ∧ ∀ i, 1 ≤ i → i < 31 → ∀ j v, zb[j]? = some v → (w.setCells g 0 f).cell? ⟨g, i * 5 + j, none⟩ = some v := by
  obtain ⟨cs, h1, h2, h3⟩ := h
  have hr := h1.writes f 0
  refine ⟨fun j v hv => ?_, fun i hi0 hi j v hv => ?_⟩
  · have := setA_in f cs 0 j v hv (by omega)
    rw [Nat.zero_add] at this
    exact (hr.cell j).trans this
  · have hj : j < 5 := (List.getElem?_eq_some_iff.1 hv).1
    refine (hr.cell (i * 5 + j)).trans ?_
    rw [setA_out _ _ _ _ (.inr (by omega))]
    exact h3 i hi j v hv

theorem at_rest {α : Type} {x z y : α} {i : Nat} (h : (x :: List.replicate 30 z)[i]? = some y) : (i = 0 ∧ y = x) ∨ (1 ≤ i ∧ i < 31 ∧ y = z) := by
  cases i with
  | zero => exact .inl ⟨rfl, by simpa using h.symm⟩
  | succ i =>
    rw [List.getElem?_cons_succ, List.getElem?_replicate] at h
    split at h
    · exact .inr ⟨by omega, by omega, by simpa using h.symm⟩
    · cases h

theorem blks31 {w : World} {g n c : Nat} {A : Option Addr} {code : List In} {t : Tm} (hC : CS w A n c code) (h : FillB w 45 g 31) (hg : InsAt (w.setCells g 0 [.slice A n c, .int .i64 t.kind, .int .i64 t.a, .int .i64 t.to, .int .i64 t.el]) w.heap.size A code) :
    BlksAt (w.setCells g 0 [.slice A n c, .int .i64 t.kind, .int .i64 t.a, .int .i64 t.to, .int .i64 t.el]) w.heap.size (some ⟨g, 0, none⟩) (⟨code, t⟩ :: List.replicate 30 ⟨[], zt⟩) := fun _ => by
  obtain ⟨h1, h2⟩ := h.first [.slice A n c, .int .i64 t.kind, .int .i64 t.a, .int .i64 t.to, .int .i64 t.el] rfl
  refine ⟨g, 0, rfl, h.lt, fun i x hx => ?_⟩
  rcases at_rest hx with ⟨rfl, rfl⟩ | ⟨hi1, hi2, rfl⟩
  · exact ⟨⟨A, c, by rw [hC.len]; exact h1 0 _ rfl, by rw [hC.len]; exact hC.cap, hC.cmx, hg⟩, h1 1 _ rfl, h1 2 _ rfl, h1 3 _ rfl, h1 4 _ rfl⟩
  · have g := h2 i hi1 hi2
    rw [Nat.zero_add]
    exact ⟨⟨none, 0, g 0 _ rfl, Nat.le_refl _, Nat.zero_le _, fun hn => absurd rfl hn⟩, g 1 _ rfl, g 2 _ rfl, g 3 _ rfl, g 4 _ rfl⟩

theorem mblks31 {w : World} {g n c : Nat} {A : Option Addr} {code : List Mi} {t : Tm} (hC : MS w A n c code) (h : FillB w 49 g 31) (hg : MisAt (w.setCells g 0 [.slice A n c, .int .i64 t.kind, .int .i64 t.a, .int .i64 t.to, .int .i64 t.el]) w.heap.size A code) :
    MBlksAt (w.setCells g 0 [.slice A n c, .int .i64 t.kind, .int .i64 t.a, .int .i64 t.to, .int .i64 t.el]) w.heap.size (some ⟨g, 0, none⟩) (⟨code, t⟩ :: List.replicate 30 ⟨[], zt⟩) := fun _ => by
  obtain ⟨h1, h2⟩ := h.first [.slice A n c, .int .i64 t.kind, .int .i64 t.a, .int .i64 t.to, .int .i64 t.el] rfl
  refine ⟨g, 0, rfl, h.lt, fun i x hx => ?_⟩
  rcases at_rest hx with ⟨rfl, rfl⟩ | ⟨hi1, hi2, rfl⟩
  · exact ⟨⟨A, c, by rw [hC.len]; exact h1 0 _ rfl, by rw [hC.len]; exact hC.cap, hC.cmx, hg⟩, h1 1 _ rfl, h1 2 _ rfl, h1 3 _ rfl, h1 4 _ rfl⟩
  · have g := h2 i hi1 hi2
    rw [Nat.zero_add]
    exact ⟨⟨none, 0, g 0 _ rfl, Nat.le_refl _, Nat.zero_le _, fun hn => absurd rfl hn⟩, g 1 _ rfl, g 2 _ rfl, g 3 _ rfl, g 4 _ rfl⟩

theorem rcheck31 {w : World} {B c : Nat} {A : Option Addr} {code : List In} {t : Tm} {v : Int} (hs : BlksAt w B A (⟨code, t⟩ :: List.replicate 30 ⟨[], zt⟩)) (hB : B ≤ w.heap.size) (hl : code.length ≤ 1000) (hv : eF 0 20 (⟨code, t⟩ :: List.replicate 30 ⟨[], zt⟩) = v) :
    Calls Try.prog 11 #[.agg #[.int .i64 0, .int .i64 20, .slice A 31 c]] w fun e w' => e = .returned (.int .i64 v) ∧ Below w.heap.size w w' := by
  subst hv
  have := rcheck_any B A _ c 0 20 w hs hB (by simp) (by
    have hz : codeN (List.replicate 30 (⟨[], zt⟩ : Blk)) = 0 := by decide
    have hc : codeN (⟨code, t⟩ :: List.replicate 30 ⟨[], zt⟩) = code.length + codeN (List.replicate 30 (⟨[], zt⟩ : Blk)) := by simp [codeN]
    omega)
  rwa [show (⟨code, t⟩ :: List.replicate 30 (⟨[], zt⟩ : Blk)).length = 31 by simp] at this

theorem make31 : (∃ Z : Array Value, Z.size = 155 ∧ ∀ w, (Instr.makeSlice 22 (.int .i64 31) (.int .i64 31)).run Try.prog w = .ok (.slice (some ⟨w.heap.size, 0, none⟩) 31 31) (w.alloc (.cells Z 45))) ∧
    ∃ Z : Array Value, Z.size = 155 ∧ ∀ w, (Instr.makeSlice 27 (.int .i64 31) (.int .i64 31)).run Try.prog w = .ok (.slice (some ⟨w.heap.size, 0, none⟩) 31 31) (w.alloc (.cells Z 49)) := by
  constructor
  · obtain ⟨i, hi, hz, hs, hb⟩ := info_parts (show (Try.prog.info? 45).map (fun i => (i.zero, i.size, i.bytes)) = some (some (.agg #[.slice none 0 0, .int .i64 0, .int .i64 0, .int .i64 0, .int .i64 0]), 5, 56) from by kernel_rfl)
    refine ⟨_, ?_, fun w => run_make w _ _ i _ Try.underlying22 hi hz .i64 .i64 31 31 (by decide) (by decide) (by rw [hb]; decide) (by decide)⟩
    rw [size_madeCells, hs]
    rfl
  · obtain ⟨i, hi, hz, hs, hb⟩ := info_parts (show (Try.prog.info? 49).map (fun i => (i.zero, i.size, i.bytes)) = some (some (.agg #[.slice none 0 0, .int .i64 0, .int .i64 0, .int .i64 0, .int .i64 0]), 5, 56) from by kernel_rfl)
    refine ⟨_, ?_, fun w => run_make w _ _ i _ Try.underlying27 hi hz .i64 .i64 31 31 (by decide) (by decide) (by rw [hb]; decide) (by decide)⟩
    rw [size_madeCells, hs]
    rfl

/-- What the test carries: the two boxes, an array of blocks. -/
structure RT (w : World) (bt mt : Tm) (A1 : Option Addr) (n1 c1 : Nat) (A2 : Option Addr) (n2 c2 : Nat) (W : World) : Prop where
  blw : Below w.heap.size w W
  b : Row W w.heap.size 45 #[.slice A1 n1 c1, .int .i64 bt.kind, .int .i64 bt.a, .int .i64 bt.to, .int .i64 bt.el]
  m : Row W (w.heap.size + 1) 49 #[.slice A2 n2 c2, .int .i64 mt.kind, .int .i64 mt.a, .int .i64 mt.to, .int .i64 mt.el]

section
variable {w : World} {bt mt : Tm} {A1 : Option Addr} {n1 c1 : Nat} {A2 : Option Addr} {n2 c2 : Nat} {W W' : World}

theorem RT.next (h : RT w bt mt A1 n1 c1 A2 n2 c2 W) (hb : Below W.heap.size W W') : RT w bt mt A1 n1 c1 A2 n2 c2 W' :=
  ⟨h.blw.trans (hb.mono h.blw.size), h.b.below hb h.b.lt, h.m.below hb h.m.lt⟩

theorem RT.mid (h : RT w bt mt A1 n1 c1 A2 n2 c2 W) {g : Nat} (hg : w.heap.size + 1 < g) (o : Nat) (vs : List Value) : RT w bt mt A1 n1 c1 A2 n2 c2 (W.setCells g o vs) :=
  ⟨blw_setCells (by omega) _ _ h.blw, h.b.farc _ _ (by omega), h.m.farc _ _ (by omega)⟩

end

/-- What two blocks are that passed the test. -/
structure RightP (code : List In) (mach : List Mi) (bt mt : Tm) (regs slots : Int) : Prop where
  n1 : code.length ≤ 60
  n2 : mach.length ≤ 200
  r : regs ≤ 20
  s : slots ≤ 20
  bto : bt.to ≤ 30
  bel : bt.el ≤ 30
  mto : mt.to ≤ 30
  mel : mt.el ≤ 30
  bto0 : 0 ≤ bt.to
  bel0 : 0 ≤ bt.el
  f : eF 0 20 (⟨code, bt⟩ :: List.replicate 30 ⟨[], zt⟩) = 0
  m : eMF 0 regs slots (⟨mach, mt⟩ :: List.replicate 30 ⟨[], zt⟩) = 0

def RtPost (code : List In) (mach : List Mi) (bt mt : Tm) (regs slots : Int) (w : World) (x : Ending) (w' : World) : Prop := ∃ b, x = .returned (.bool b) ∧ Below w.heap.size w w' ∧ (b = true → RightP code mach bt mt regs slots)

end Go.Proofs.Ytcoehkphdfejjaa

/-
  Where the operations of two blocks lie that passed the statements' test.
-/
namespace Go.Proofs.Ytcoehkphdfejjaa
open Go.RowKit
set_option linter.unusedVariables false

theorem take_mem {α : Type} {l : List α} {i n : Nat} {x : α} (h : x ∈ (l.drop i).take n) : ∃ (z : Nat) (hz : z < l.length), i ≤ z ∧ z < i + n ∧ x = l[z] := by
  obtain ⟨j, hj, rfl⟩ := List.mem_iff_getElem.1 h
  simp only [List.length_take, List.length_drop] at hj
  refine ⟨i + j, by omega, by omega, by omega, ?_⟩
  rw [List.getElem_take, List.getElem_drop]

theorem mvOps_of : ∀ (l : List Mi) (k : Nat) (e : EOp), e ∈ mvOps l k → ∃ y ∈ l, ∃ j : Nat, e = .mv y.dst y.src j
  | [], k, e, h => by simp [mvOps] at h
  | y :: l, k, e, h => by
    rw [mvOps, List.mem_cons] at h
    rcases h with rfl | h
    · exact ⟨y, by simp, k, rfl⟩
    · obtain ⟨z, hz, j, e1⟩ := mvOps_of l (k + 1) e h
      exact ⟨z, List.mem_cons_of_mem _ hz, j, e1⟩

section
variable {code : List In} {mach : List Mi} {N nR nS : Nat} {R L : List Int}

theorem cps_in (hc : ∀ x ∈ code, InOk N x) (hR : ∀ z : Int, 0 ≤ z → z < (N : Int) → z ∈ R) {i n k : Nat} (hi : ∀ z (h : z < code.length), i ≤ z → z < i + n → isC code[z] = true) :
    ∀ e ∈ ((code.drop i).take n).map (fun x => EOp.cp x.d x.a k), e.In R L := fun e he => by
  obtain ⟨x, hx, rfl⟩ := List.mem_map.1 he
  obtain ⟨z, hz, h1, h2, rfl⟩ := take_mem hx
  have h3 := hi z hz h1 h2
  have h4 := (hc _ (List.getElem_mem hz)).2.2.2
  simp only [isC, beq_iff_eq] at h3
  rcases h4 with h4 | ⟨_, h5, h6, _⟩
  · exact absurd (h3.symm.trans h4) (by decide)
  · exact hR _ h5 h6

theorem mvs_in (hm : ∀ y ∈ mach, MiOk nR nS y) (hL : ∀ z : Int, LocOk nR nS z → z ∈ L) {k n q : Nat} (hi : ∀ z (h : z < mach.length), k ≤ z → z < k + n → isM mach[z] = true) :
    ∀ e ∈ mvOps ((mach.drop k).take n) q, e.In R L := fun e he => by
  obtain ⟨y, hy, j, rfl⟩ := mvOps_of _ _ _ he
  obtain ⟨z, hz, h1, h2, rfl⟩ := take_mem hy
  have h3 := hi z hz h1 h2
  simp only [isM, beq_iff_eq] at h3
  rcases hm _ (List.getElem_mem hz) with ⟨_, h4, _⟩ | ⟨h4, _⟩ | ⟨h4, _⟩
  · exact hL _ h4
  · exact absurd (h3.symm.trans h4) (by decide)
  · exact absurd h3 h4

theorem ins_in (hc : ∀ x ∈ code, InOk N x) (hm : ∀ y ∈ mach, MiOk nR nS y) (hR : ∀ z : Int, 0 ≤ z → z < (N : Int) → z ∈ R) (hL : ∀ z : Int, LocOk nR nS z → z ∈ L) {x : In} {y : Mi} (hx : x ∈ code) (hy : y ∈ mach) (hs : smP x y = true) (k : Nat) :
    ∀ e ∈ insOps x y k, e.In R L := fun e he => by
  have hs' := hs
  simp only [smP, Bool.and_eq_true, beq_iff_eq, bne_iff_ne, ne_eq] at hs'
  obtain ⟨⟨⟨h1, h2⟩, h3⟩, _⟩ := hs'
  unfold insOps at he
  simp only [List.mem_append] at he
  rcases he with (he | he) | he
  · split at he
    · rw [List.mem_singleton] at he; subst he; trivial
    · cases he
  · split at he
    · rw [List.mem_singleton] at he; subst he; trivial
    · cases he
  · split at he
    · rename_i hD
      rw [List.mem_singleton] at he
      subst he
      have h17 : ¬ x.op = 17 := fun e => by rw [e] at hD; revert hD; decide
      have hxd : 0 ≤ x.d ∧ x.d < (N : Int) := by
        rcases (hc x hx).2.2.2 with h4 | ⟨_, h5, h6, _⟩
        · exact absurd h4 h17
        · exact ⟨h5, h6⟩
      refine ⟨hR _ hxd.1 hxd.2, hL _ ?_⟩
      rcases hm y hy with ⟨h4, _⟩ | ⟨h4, _⟩ | ⟨_, _, _, _, _, g3, g4, _⟩
      · exact absurd (h1.trans h4) h3
      · exact absurd (h1.trans h4) h17
      · exact ⟨by omega, .inr ⟨by omega, by omega⟩⟩
    · cases he

theorem ops_in (hc : ∀ x ∈ code, InOk N x) (hm : ∀ y ∈ mach, MiOk nR nS y) (hR : ∀ z : Int, 0 ≤ z → z < (N : Int) → z ∈ R) (hL : ∀ z : Int, LocOk nR nS z → z ∈ L) {i k : Nat} {rows : List Rw} (h : Chn code mach i k rows) :
    ∀ e ∈ rows.flatMap (rowOps code mach), e.In R L := by
  induction h with
  | @last i k hi hk hcc hmm =>
    intro e he
    rw [List.flatMap_cons, List.flatMap_nil, List.append_nil, rowOps_last, List.mem_append] at he
    rcases he with he | he
    · refine cps_in (i := i) (n := code.length) (k := k) hc hR (fun z hz h1 _ => hcc z hz h1) e ?_
      rwa [List.take_of_length_le (by simp)]
    · refine mvs_in (k := k) (n := mach.length) (q := k) hm hL (fun z hz h1 _ => hmm z hz h1) e ?_
      rwa [List.take_of_length_le (by simp)]
  | @step i k x y r hi hx hk hy hcc hmm hs hr ih =>
    intro e he
    rw [List.flatMap_cons, List.mem_append, rowOps_step hx hy, List.mem_append, List.mem_append] at he
    rcases he with ((he | he) | he) | he
    · exact cps_in hc hR (fun z hz h1 h2 => hcc z hz h1 (by omega)) e he
    · exact mvs_in hm hL (fun z hz h1 h2 => hmm z hz h1 (by omega)) e he
    · exact ins_in hc hm hR hL (List.getElem_mem hx) (List.getElem_mem hy) hs _ e he
    · exact ih e he

theorem blk_in (hc : ∀ x ∈ code, InOk N x) (hm : ∀ y ∈ mach, MiOk nR nS y) (hR : ∀ z : Int, 0 ≤ z → z < (N : Int) → z ∈ R) (hL : ∀ z : Int, LocOk nR nS z → z ∈ L) (bt mt : Tm) {rows : List Rw} (h : Chn code mach 0 0 rows) :
    ∀ e ∈ blkOps code mach rows bt mt, e.In R L := fun e he => by
  unfold blkOps at he
  rcases List.mem_append.1 he with he | he
  · exact ops_in hc hm hR hL h e he
  · split at he
    · cases he
    · rw [List.mem_singleton] at he; subst he; trivial

end

/-- The registers and locations that blocks and a set may name. -/
def regsR (l : List Pr) : List Int := (List.range 20).map (fun n : Nat => (n : Int)) ++ l.map Prod.fst

def locsL (l : List Pr) : List Int := (List.range 41).map (fun n : Nat => (n : Int)) ++ l.map Prod.snd

theorem regsR_in (l : List Pr) (z : Int) (h0 : 0 ≤ z) (h1 : z < ((20 : Nat) : Int)) : z ∈ regsR l :=
  List.mem_append_left _ (List.mem_map.2 ⟨z.toNat, List.mem_range.2 (by omega), by omega⟩)

theorem locsL_in (l : List Pr) {nR nS : Nat} (hr : nR ≤ 20) (hs : nS ≤ 20) (z : Int) (h : LocOk nR nS z) : z ∈ locsL l :=
  List.mem_append_left _ (List.mem_map.2 ⟨z.toNat, List.mem_range.2 (by obtain ⟨h0, ⟨_, h1⟩ | ⟨_, h1⟩⟩ := h <;> omega), by obtain ⟨h0, _⟩ := h; omega⟩)

theorem pin_of {l l' : List Pr} (h : ∀ q ∈ l', q ∈ l) : PIn (regsR l) (locsL l) l' := fun q hq =>
  ⟨List.mem_append_right _ (List.mem_map.2 ⟨q, h q hq, rfl⟩), List.mem_append_right _ (List.mem_map.2 ⟨q, h q hq, rfl⟩)⟩

theorem room_of {l : List Pr} (h : l.length ≤ 100) : (regsR l).length * (locsL l).length ≤ 400000 := by
  have h1 : (regsR l).length = 20 + l.length := by simp [regsR]
  have h2 : (locsL l).length = 41 + l.length := by simp [locsL]
  rw [h1, h2]
  have := Nat.mul_le_mul (show 20 + l.length ≤ 120 by omega) (show 41 + l.length ≤ 141 by omega)
  omega

/-- What blocks are that passed the test. -/
structure RightQ (code : List In) (mach : List Mi) (bt mt : Tm) (nR nS : Nat) : Prop where
  r : nR ≤ 20
  s : nS ≤ 20
  ins : ∀ x ∈ code, InOk 20 x
  mis : ∀ y ∈ mach, MiOk nR nS y
  tb : TmOk 20 31 bt
  tm : TmOk nR 31 mt
  f : OkF 20 (⟨code, bt⟩ :: List.replicate 30 ⟨[], zt⟩)
  m : OkM nR nS (⟨mach, mt⟩ :: List.replicate 30 ⟨[], zt⟩)

theorem zt_wf : zt.Wf := by
  refine ⟨?_, ?_, ?_, ?_⟩ <;> (unfold I64; decide)

theorem RightP.ok {code : List In} {mach : List Mi} {bt mt : Tm} {regs slots : Int} (h : RightP code mach bt mt regs slots) (hc : ∀ x ∈ code, x.Wf) (hb : bt.Wf) (hm : ∀ y ∈ mach, y.Wf) (ht : mt.Wf) :
    ∃ nR nS : Nat, regs = nR ∧ slots = nS ∧ RightQ code mach bt mt nR nS := by
  obtain ⟨n, hn, _, _, hf⟩ := eF_ok h.f fun y hy => by
    rcases List.mem_cons.1 hy with rfl | hy
    · exact ⟨hc, hb⟩
    · rw [(List.mem_replicate.1 hy).2]
      exact ⟨fun _ h => (by cases h), zt_wf⟩
  obtain rfl : n = 20 := by omega
  obtain ⟨nR, nS, hr, hs, _, _, hmm⟩ := eMF_ok h.m fun y hy => by
    rcases List.mem_cons.1 hy with rfl | hy
    · exact ⟨hm, ht⟩
    · rw [(List.mem_replicate.1 hy).2]
      exact ⟨fun _ h => (by cases h), zt_wf⟩
  have h1 := h.r
  have h2 := h.s
  refine ⟨nR, nS, hr, hs, by omega, by omega, hf.ins ⟨code, bt⟩ (by simp), hmm.ins ⟨mach, mt⟩ (by simp), ?_, ?_, hf, hmm⟩
  · have := hf.tm ⟨code, bt⟩ (by simp)
    simpa using this
  · have := hmm.tm ⟨mach, mt⟩ (by simp)
    simpa using this

theorem TmOk.mono {r n m : Nat} {t : Tm} (h : TmOk r n t) (hn : n ≤ m) : TmOk r m t := by
  rcases h with ⟨h1, h2, h3⟩ | ⟨h1, h2, h3, h4, h5, h6, h7⟩ | h
  · exact .inl ⟨h1, h2, by omega⟩
  · exact .inr (.inl ⟨h1, h2, h3, h4, by omega, h6, by omega⟩)
  · exact .inr (.inr h)

end Go.Proofs.Ytcoehkphdfejjaa

/-
  Pairs and lists of pairs as they come in.
-/
namespace Go.Proofs.Ytcoehkphdfejjaa
open Go.RowKit Go.ChangeShapes Go.WideShapes Go.Deep
set_option linter.unusedVariables false

def PrWf (p : Pr) : Prop := I64 p.1 ∧ I64 p.2

theorem len2 {α : Type} {l : List α} (h : l.length = 2) : ∃ a b, l = [a, b] := by
  rcases l with _ | ⟨a, _ | ⟨b, _ | ⟨c, r⟩⟩⟩ <;> simp at h
  exact ⟨_, _, rfl⟩

theorem pick_lt {α : Type} [Inhabited α] {n : Nat} {P : Nat → α → Prop} (h : ∀ i, i < n → ∃ y, P i y) : ∃ f : Nat → α, ∀ i, i < n → P i (f i) :=
  ⟨fun i => if hi : i < n then Classical.choose (h i hi) else default, fun i hi => by
    simp only [hi, dif_pos]
    exact Classical.choose_spec (h i hi)⟩

section
variable {H : Type} {enc : TypeId × Value → H} {w : World} {base : Nat} {spare : Nat → Bool} {held : Bool} {fuel : Nat}

theorem pr_of {cs : List Value} {x : DataW H × List MemPlace} (h : DataW.trod enc Try.prog w base spare held fuel 66 cs = some x) : ∃ p : Pr, cs = [.int .i64 p.1, .int .i64 p.2] ∧ PrWf p := by
  obtain ⟨xs, n, _, _, hl, hxl, hf⟩ := DataW.trod_struct Try.underlying66 h
  have h5 : cs.length = 2 := hl.trans (by kernel_rfl)
  have hx5 : xs.length = 2 := hxl
  obtain ⟨v0, e0, w0⟩ := fld_int (k := 0) Try.underlying3 (by kernel_rfl) (hf 0 _ rfl) (by omega) (by rw [h5]; decide)
  obtain ⟨v1, e1, w1⟩ := fld_int (k := 1) Try.underlying64 (by kernel_rfl) (hf 1 _ rfl) (by omega) (by rw [h5]; decide)
  refine ⟨(v0, v1), ?_, w0, w1⟩
  obtain ⟨a, b, rfl⟩ := len2 h5
  simp only [List.getElem?_cons_zero, List.getElem?_cons_succ, Option.some.injEq] at e0 e1
  rw [e0, e1]

/-- A pair that came in. -/
def IsPr (w : World) (cs : Array Value) : Prop := ∃ p : Pr, cs = #[.int .i64 p.1, .int .i64 p.2] ∧ PrWf p

theorem IsPr.of {cs : Array Value} {x : DataW H × List MemPlace} (h : DataW.trod enc Try.prog w base spare held fuel 66 cs.toList = some x) : IsPr w cs := by
  obtain ⟨p, hp, hw⟩ := pr_of h
  obtain ⟨cs⟩ := cs
  exact ⟨p, congrArg List.toArray hp, hw⟩

/-- A list of pairs that came in. -/
def IsPrs (w : World) (a : Option Addr) (len cap : Nat) : Prop := ∃ l : List Pr, l.length = len ∧ (∀ p ∈ l, PrWf p) ∧ Sees w w.heap.size a (prs l) ∧ len ≤ cap ∧ cap ≤ maxLen

theorem IsPrs.of {a : Option Addr} {len cap : Nat} {x : DataW H × List MemPlace} (h : DataW.trod enc Try.prog w base spare held fuel 63 [.slice a len cap] = some x) : IsPrs w a len cap := by
  obtain ⟨hl, hm, hi⟩ := trod_elems (s := 2) Try.underlying63 (by kernel_rfl) (by decide) h
  have each : ∀ i, i < len → ∃ p : Pr, PrWf p ∧ ∃ b o, a = some ⟨b, o, none⟩ ∧ b < w.heap.size ∧ w.cell? ⟨b, o + i * 2, none⟩ = some (.int .i64 p.1) ∧ w.cell? ⟨b, o + (i * 2 + 1), none⟩ = some (.int .i64 p.2) := fun i hil => by
    obtain ⟨b, o, n, cs, z, rfl, hlt, hcl, hat, ht⟩ := hi i hil
    obtain ⟨p, rfl, hp⟩ := pr_of ht
    exact ⟨p, hp, b, o, rfl, hlt, hat 0 (by decide), hat 1 (by decide)⟩
  obtain ⟨y, hy⟩ := pick_lt each
  have hget : ∀ i (hil : i < len), ((List.range len).map y)[i]'(by simpa using hil) = y i := fun i hil => by simp
  refine ⟨(List.range len).map y, by simp, fun p hp => ?_, fun hn => ?_, hl, hm⟩
  · obtain ⟨i, hir, rfl⟩ := List.mem_map.1 hp
    exact (hy i (List.mem_range.1 hir)).1
  · have h0 : 0 < len := by
      rcases Nat.eq_zero_or_pos len with h0 | h0
      · subst h0; simp [prs] at hn
      · exact h0
    obtain ⟨_, b, o, rfl, hb, _⟩ := hy 0 h0
    refine ⟨b, o, rfl, hb, fun t u hu => ?_⟩
    have htl : t < ((List.range len).map y).length * 2 := by
      have := (List.getElem?_eq_some_iff.1 hu).1
      rwa [prs_length] at this
    simp only [List.length_map, List.length_range] at htl
    have hil : t / 2 < len := by omega
    obtain ⟨_, b', o', e, _, c0, c1⟩ := hy (t / 2) hil
    injection e with e
    injection e with e1 e2
    subst e1
    subst e2
    obtain ⟨g0, g1⟩ := prs_get (l := (List.range len).map y) (i := t / 2) (by simpa using hil)
    rw [hget _ hil] at g0 g1
    rcases Nat.mod_two_eq_zero_or_one t with h | h
    · rw [show t / 2 * 2 = t by omega] at g0 c0
      rw [c0, ← g0, hu]
    · rw [show t / 2 * 2 + 1 = t by omega] at g1 c1
      rw [c1, ← g1, hu]

end

theorem LS.in {w : World} {a : Option Addr} {len cap : Nat} {l : List Pr} (hl : l.length = len) (hs : Sees w w.heap.size a (prs l)) (h1 : len ≤ cap) (h2 : cap ≤ maxLen) (h3 : len ≤ 1000) : LS w a len cap l := ⟨hl, h1, h2, hs, h3⟩

end Go.Proofs.Ytcoehkphdfejjaa

/-
  A block that came in as a value.
-/
namespace Go.Proofs.Ytcoehkphdfejjaa
open Go.RowKit
set_option linter.unusedVariables false

/-- A block as a value. -/
def IsBlk (w : World) (cs : Array Value) : Prop :=
  ∃ (y : Blk) (A : Option Addr) (c : Nat), cs = #[.slice A y.code.length c, .int .i64 y.term.kind, .int .i64 y.term.a, .int .i64 y.term.to, .int .i64 y.term.el] ∧ y.code.length ≤ c ∧ c ≤ maxLen ∧ InsAt w w.heap.size A y.code ∧ y.Wf

theorem IsBlk.of {H : Type} {enc : TypeId × Value → H} {w : World} {base : Nat} {spare : Nat → Bool} {held : Bool} {fuel : Nat} {cs : Array Value} {x : DataW H × List MemPlace} (h : DataW.trod enc Try.prog w base spare held fuel 45 cs.toList = some x) : IsBlk w cs := by
  obtain ⟨y, A, c, hy, h1, h2, h3, h4⟩ := Blk.of h
  obtain ⟨cs⟩ := cs
  exact ⟨y, A, c, congrArg List.toArray hy, h1, h2, h3, h4⟩

end Go.Proofs.Ytcoehkphdfejjaa

/-
  A machine block that came in as a value.
-/
namespace Go.Proofs.Ytcoehkphdfejjaa
open Go.RowKit
set_option linter.unusedVariables false

/-- A machine block as a value. -/
def IsMBlk (w : World) (cs : Array Value) : Prop :=
  ∃ (y : MBlk) (A : Option Addr) (c : Nat), cs = #[.slice A y.code.length c, .int .i64 y.term.kind, .int .i64 y.term.a, .int .i64 y.term.to, .int .i64 y.term.el] ∧ y.code.length ≤ c ∧ c ≤ maxLen ∧ MisAt w w.heap.size A y.code ∧ y.Wf

theorem IsMBlk.of {H : Type} {enc : TypeId × Value → H} {w : World} {base : Nat} {spare : Nat → Bool} {held : Bool} {fuel : Nat} {cs : Array Value} {x : DataW H × List MemPlace} (h : DataW.trod enc Try.prog w base spare held fuel 49 cs.toList = some x) : IsMBlk w cs := by
  obtain ⟨y, A, c, hy, h1, h2, h3, h4⟩ := MBlk.of h
  obtain ⟨cs⟩ := cs
  exact ⟨y, A, c, congrArg List.toArray hy, h1, h2, h3, h4⟩

end Go.Proofs.Ytcoehkphdfejjaa

/-
  What every statement of layer 14 does first: the fixed examples, the test of the blocks, the set.
-/
namespace Go.Proofs.Ytcoehkphdfejjaa
open Go.RowKit
set_option linter.unusedVariables false

/-- The blocks and the set that came in, with the boxes of the blocks; what has passed. -/
structure BK (w : World) (bt mt : Tm) (A1 : Option Addr) (n1 c1 : Nat) (code : List In) (A2 : Option Addr) (n2 c2 : Nat) (mach : List Mi) (W : World) : Prop where
  blw : Below w.heap.size w W
  b : Row W w.heap.size 45 #[.slice A1 n1 c1, .int .i64 bt.kind, .int .i64 bt.a, .int .i64 bt.to, .int .i64 bt.el]
  m : Row W (w.heap.size + 1) 49 #[.slice A2 n2 c2, .int .i64 mt.kind, .int .i64 mt.a, .int .i64 mt.to, .int .i64 mt.el]
  cs : CS W A1 n1 c1 code
  ms : MS W A2 n2 c2 mach

theorem BK.next {w : World} {bt mt : Tm} {A1 : Option Addr} {n1 c1 : Nat} {code : List In} {A2 : Option Addr} {n2 c2 : Nat} {mach : List Mi} {W W' : World} (h : BK w bt mt A1 n1 c1 code A2 n2 c2 mach W) (hb : Below W.heap.size W W') : BK w bt mt A1 n1 c1 code A2 n2 c2 mach W' :=
  ⟨h.blw.trans (hb.mono h.blw.size), h.b.below hb h.b.lt, h.m.below hb h.m.lt, h.cs.below hb, h.ms.below hb⟩

theorem BK.start {w : World} {bt mt : Tm} {A1 : Option Addr} {n1 c1 : Nat} {code : List In} {A2 : Option Addr} {n2 c2 : Nat} {mach : List Mi} (hC : CS w A1 n1 c1 code) (hM : MS w A2 n2 c2 mach) :
    BK w bt mt A1 n1 c1 code A2 n2 c2 mach ((w.alloc (.cells #[.slice A1 n1 c1, .int .i64 bt.kind, .int .i64 bt.a, .int .i64 bt.to, .int .i64 bt.el] 45)).alloc (.cells #[.slice A2 n2 c2, .int .i64 mt.kind, .int .i64 mt.a, .int .i64 mt.to, .int .i64 mt.el] 49)) := by
  have hA0 := Row.new w 45 #[.slice A1 n1 c1, .int .i64 bt.kind, .int .i64 bt.a, .int .i64 bt.to, .int .i64 bt.el]
  have hM0 := Row.new (w.alloc (.cells #[.slice A1 n1 c1, .int .i64 bt.kind, .int .i64 bt.a, .int .i64 bt.to, .int .i64 bt.el] 45)) 49 #[.slice A2 n2 c2, .int .i64 mt.kind, .int .i64 mt.a, .int .i64 mt.to, .int .i64 mt.el]
  rw [show (w.alloc (.cells #[.slice A1 n1 c1, .int .i64 bt.kind, .int .i64 bt.a, .int .i64 bt.to, .int .i64 bt.el] 45)).heap.size = w.heap.size + 1 by simp] at hM0
  have hb := ((Below.refl w.heap.size w).alloc (Nat.le_refl _) (.cells #[.slice A1 n1 c1, .int .i64 bt.kind, .int .i64 bt.a, .int .i64 bt.to, .int .i64 bt.el] 45)).alloc (by simp) (.cells #[.slice A2 n2 c2, .int .i64 mt.kind, .int .i64 mt.a, .int .i64 mt.to, .int .i64 mt.el] 49)
  exact ⟨hb, hA0.alloc _, hM0, hC.below hb, hM.below hb⟩

/-- How large a check becomes. -/
theorem checkE_small {R L : List Int} {code : List In} {mach : List Mi} {bt mt : Tm} {ok : Bool} {l : List Pr} {most : Int} (hls : Srt l) (hlR : PIn R L l) (hRL : R.length * L.length ≤ 400000) (hll : l.length ≤ 400000)
    (hops : ∀ rows, Chn code mach 0 0 rows → ∀ e ∈ blkOps code mach rows bt mt, e.In R L) :
    Srt (checkE code mach bt mt ok l most).out ∧ PIn R L (checkE code mach bt mt ok l most).out ∧ (checkE code mach bt mt ok l most).out.length ≤ 400000 ∧ (checkE code mach bt mt ok l most).largest ≤ 400000 ∧ (checkE code mach bt mt ok l most).steps ≤ (3 * mach.length + code.length + 1) * 400001 := by
  have h0 : Srt [] ∧ PIn R L [] := ⟨Srt.nil, fun q h => by cases h⟩
  unfold checkE
  split
  · exact ⟨h0.1, h0.2, Nat.zero_le _, hll, Nat.zero_le _⟩
  · rcases alC_out code mach with ⟨r, hr, hch⟩ | ⟨y, hr, hy, _⟩
    · rw [hr]
      dsimp only
      rw [if_neg (by simp)]
      split
      · exact ⟨h0.1, h0.2, Nat.zero_le _, hll, Nat.zero_le _⟩
      · have hri : RI R L (0 + (blkOps code mach r bt mt).length) (foldE most (blkOps code mach r bt mt) ⟨l, 0, 0, 0, l.length⟩) := RI.fold hRL most _ 0 _ ⟨hls, hlR, hll, hll, Nat.zero_le _⟩ (hops r hch)
        rw [Nat.zero_add] at hri
        have hn := blkOps_len hch bt mt
        have hst := Nat.le_trans hri.st (Nat.mul_le_mul_right 400001 hn)
        unfold runE
        dsimp only
        split
        · exact ⟨hri.srt, hri.inn, hri.len, hri.lar, hst⟩
        · exact ⟨hri.srt, hri.inn, hri.len, hri.lar, hst⟩
    · rw [hr]
      dsimp only
      rw [if_pos (by decide)]
      exact ⟨h0.1, h0.2, Nat.zero_le _, hll, Nat.zero_le _⟩

theorem small_of {code : List In} {mach : List Mi} {bt mt : Tm} {ok : Bool} {l : List Pr} {most : Int} {nR nS : Nat} (hls : Srt l) (hn : l.length ≤ 100) (hQ : RightQ code mach bt mt nR nS) :
    Srt (checkE code mach bt mt ok l most).out ∧ (checkE code mach bt mt ok l most).out.length ≤ 400000 ∧ (checkE code mach bt mt ok l most).largest ≤ 400000 ∧ (checkE code mach bt mt ok l most).steps ≤ (3 * mach.length + code.length + 1) * 400001 := by
  obtain ⟨h1, _, h2⟩ := checkE_small (R := regsR l) (L := locsL l) (bt := bt) (mt := mt) (ok := ok) (most := most) hls (pin_of fun q h => h) (room_of hn) (by omega) fun rows hch => blk_in hQ.ins hQ.mis (regsR_in l) (locsL_in l hQ.r hQ.s) bt mt hch
  exact ⟨h1, h2⟩

end Go.Proofs.Ytcoehkphdfejjaa
