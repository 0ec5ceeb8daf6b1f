import Derived.Test.YtcoehkphdfejjaaCt
import Derived.Test.YtcoehkphdfejjaaPk1
import Derived.Test.YtcoehkphdfejjaaOwnNe
import Derived.Test.YtcoehkphdfejjaaMacOwn
import Derived.Test.YtcoehkphdfejjaaMacCopy
import Derived.Test.YtcoehkphdfejjaaPk3
import Derived.Deep.RegionHeld3
import Derived.Deep.RegionHeldLaw
import Derived.Test.YtcoehkphdfejjaaPk5

/-
  The spill-everything certificate, as data.
-/
namespace Go.Proofs.Ytcoehkphdfejjaa
open Go.RowKit
set_option linter.unusedVariables false

/-- The moves from a slot to a register and from register 0 to a slot; an operation. -/
def ldM (n v : Int) : Mi := ⟨18, 0, 0, 0, 0, 2 * n, 2 * v + 1⟩

def stM (v : Int) : Mi := ⟨18, 0, 0, 0, 0, 2 * v + 1, 0⟩

def opM (x : In) : Mi := ⟨x.op, 0, 0, if uB x.op = true then 1 else 0, x.imm, 0, 0⟩

def spA (x : In) : List Mi := if uA x.op = true then [ldM 0 x.a] else []

def spBb (x : In) : List Mi := if uB x.op = true then [ldM 1 x.b] else []

def spD (x : In) : List Mi := if uD x.op = true then [stM x.d] else []

def spO (x : In) : List Mi := spA x ++ spBb x ++ opM x :: spD x

def spI (x : In) : List Mi := if x.op = 2 then [ldM 0 x.a, stM x.d] else spO x

def spT (t : Tm) : List Mi := if t.kind = 1 then [] else [ldM 0 t.a]

/-- A block; the certificate. -/
def spB (b : Blk) : MBlk := ⟨b.code.flatMap spI ++ spT b.term, { b.term with a := 0 }⟩

def invN (n : Nat) : List Pr := (List.range n).map fun v : Nat => ((v : Int), 2 * (v : Int) + 1)

theorem invN_len (n : Nat) : (invN n).length = n := by simp [invN]

def spC (a r : Int) (bs : List Blk) : Ct := ⟨a, r, bs, a, 2, r, bs.map spB, bs.map fun _ => invN r.toNat⟩

def nCt : Ct := ⟨0, 0, [], 0, 0, 0, [], []⟩

def longB (bs : List Blk) : Bool := bs.any fun b => decide (64 < mvs (spB b).code)

/-- What Cert comes to, for small functions. -/
def spR (a r : Int) (bs : List Blk) : Ct × Int := if eF a r bs ≠ 0 then (nCt, eF a r bs) else if longB bs = true then (nCt, 15) else (spC a r bs, 0)

theorem spA_len (x : In) : (spA x).length ≤ 1 := by unfold spA; split <;> simp

theorem spBb_len (x : In) : (spBb x).length ≤ 1 := by unfold spBb; split <;> simp

theorem spD_len (x : In) : (spD x).length ≤ 1 := by unfold spD; split <;> simp

theorem spO_len (x : In) : 1 ≤ (spO x).length ∧ (spO x).length ≤ 4 := by
  have := spA_len x; have := spBb_len x; have := spD_len x
  unfold spO
  rw [List.length_append, List.length_append, List.length_cons]
  omega

theorem spI_len (x : In) : 1 ≤ (spI x).length ∧ (spI x).length ≤ 4 := by
  unfold spI
  split
  · simp
  · exact spO_len x

theorem spIs_len : ∀ l : List In, (l.flatMap spI).length ≤ 4 * l.length
  | [] => by simp
  | x :: r => by
    have := spIs_len r
    have := spI_len x
    rw [List.flatMap_cons, List.length_append, List.length_cons]
    omega

theorem spT_len (t : Tm) : (spT t).length ≤ 1 := by unfold spT; split <;> simp

theorem spB_len (b : Blk) : (spB b).code.length ≤ 4 * b.code.length + 1 := by
  have := spIs_len b.code
  have := spT_len b.term
  show (b.code.flatMap spI ++ spT b.term).length ≤ _
  rw [List.length_append]
  omega

theorem spBs_len : ∀ bs : List Blk, mcodeN (bs.map spB) ≤ 4 * codeN bs + bs.length
  | [] => by simp [mcodeN, codeN]
  | b :: bs => by
    have := spBs_len bs
    have := spB_len b
    rw [List.map_cons, mcodeN_cons, codeN_cons, List.length_cons]
    omega

/-- What a valid instruction is, in numbers. -/
theorem eI_of {x : In} {r : Int} (h : eI x r = 0) : (1 ≤ x.op ∧ x.op ≤ 17) ∧ (uD x.op = true → 0 ≤ x.d ∧ x.d < r) ∧ (uA x.op = true → 0 ≤ x.a ∧ x.a < r) ∧ (uB x.op = true → 0 ≤ x.b ∧ x.b < r) ∧ fZ (uI x.op, x.imm) = true := by
  unfold eI at h
  split at h
  · rename_i hO
    split at h
    · rename_i hR
      split at h
      · rename_i hZ
        simp only [In.regF, okR, List.all_cons, List.all_nil, Bool.and_true, Bool.and_eq_true] at hR
        simp only [In.allF, okZ, List.all_cons, List.all_nil, Bool.and_true, Bool.and_eq_true] at hZ
        obtain ⟨r1, r2, r3⟩ := hR
        simp [srcO, uO] at hO
        exact ⟨by omega, fun h => fR_in r1 h, fun h => fR_in r2 h, fun h => fR_in r3 h, hZ.2.2.2⟩
      · cases h
    · cases h
  · cases h

theorem eIs_of {r : Int} : ∀ {l : List In}, eIs r l = 0 → ∀ x ∈ l, eI x r = 0
  | [], _, x, hx => by cases hx
  | y :: l, h, x, hx => by
    unfold eIs at h
    split at h
    · rename_i h0
      rcases List.mem_cons.1 hx with rfl | hx
      · exact h0
      · exact eIs_of h x hx
    · rename_i h0; exact absurd h h0

theorem eBs_of {r n : Int} : ∀ {l : List Blk}, eBs r n l = 0 → ∀ b ∈ l, (∀ x ∈ b.code, eI x r = 0) ∧ eT b.term r n = 0
  | [], _, b, hb => by cases hb
  | y :: l, h, b, hb => by
    unfold eBs at h
    split at h
    · rename_i h0
      rcases List.mem_cons.1 hb with rfl | hb
      · unfold eB at h0
        split at h0
        · rename_i h1; exact ⟨eIs_of h1, h0⟩
        · rename_i h1; exact absurd h0 h1
      · exact eBs_of h b hb
    · rename_i h0; exact absurd h h0

/-- What a valid function is, in numbers. -/
theorem eF_of {a r : Int} {bs : List Blk} (h : eF a r bs = 0) : 0 ≤ a ∧ a ≤ r ∧ r ≤ 1048576 ∧ bs.length ≠ 0 ∧ bs.length ≤ 1048576 ∧ codeN bs ≤ 1048576 ∧ ∀ b ∈ bs, (∀ x ∈ b.code, eI x r = 0) ∧ eT b.term r bs.length = 0 := by
  unfold eF at h
  split at h
  · rename_i hz
    unfold eSz at hz
    repeat' (split at hz <;> first | (cases hz; done) | skip)
    exact ⟨by omega, by omega, by omega, by omega, by omega, by omega, eBs_of h⟩
  · rename_i hz; exact absurd h hz

theorem eT_of {t : Tm} {r n : Int} (h : eT t r n = 0) : (t.kind = 1 ∧ t.a = 0) ∨ ((t.kind = 2 ∨ t.kind = 3) ∧ 0 ≤ t.a ∧ t.a < r) := by
  unfold eT at h
  split at h
  · rename_i hO
    split at h
    · rename_i hR
      split at h
      · split at h
        · rename_i hZ
          simp only [Tm.aF, okR, List.all_cons, List.all_nil, Bool.and_true] at hR
          simp only [Tm.allF, okZ, List.all_cons, List.all_nil, Bool.and_true, Bool.and_eq_true] at hZ
          simp [kO] at hO
          rcases hO with (h1 | h2) | h3
          · exact .inl ⟨h1, fZ_in hZ.1 (by simp [h1])⟩
          · exact .inr ⟨.inl h2, fR_in hR (by simp [h2])⟩
          · exact .inr ⟨.inr h3, fR_in hR (by simp [h3])⟩
        · cases h
      · cases h
    · cases h
  · cases h

end Go.Proofs.Ytcoehkphdfejjaa

/-
  The program's Operands; the reference's Name.
-/
namespace Go.Proofs.Ytcoehkphdfejjaa
open Go.RowKit

/-- How many of the fields A and B a number uses. -/
def opn (op : Int) : Nat := (if uA op then 1 else 0) + (if uB op then 1 else 0)

set_option maxRecDepth 100000 in
set_option maxHeartbeats 1000000 in
theorem operands_any (op : Int) (w : World) :
    Calls Try.prog 70 #[.int .i64 op] w fun e w' => e = .returned (.int .i64 (opn op)) ∧ Below w.heap.size w w' := by
  obtain ⟨d, hd⟩ : ∃ d, uD op = d := ⟨_, rfl⟩
  obtain ⟨i, hi⟩ : ∃ i, uI op = i := ⟨_, rfl⟩
  obtain ⟨o, ho⟩ : ∃ o, uO op = o := ⟨_, rfl⟩
  have HD := Lib.hid hd; have HI := Lib.hid hi; have HO := Lib.hid ho
  clear hd hi ho
  rcases hA : uA op with _ | _ <;> rcases hB : uB op with _ | _ <;> (
    have hn : opn op = (if uA op then 1 else 0) + (if uB op then 1 else 0) := rfl
    rw [hA, hB] at hn
    simp at hn
    rw [hn]
    have HA := Lib.hid hA; have HB := Lib.hid hB
    clear hA hB hn
    go_enter Try.func70, Try.ntmps70
    go_wp2_with (go_at_call 59; refine (of_at op _ _ _ _ _ _ HD.out HA.out HB.out HI.out HO.out).mono ?_; rintro e w' ⟨rfl, hb⟩)
    go_ret
    exact ⟨rfl, hb.trans ((Below.refl _ _).alloc hb.size _)⟩)

end Go.Proofs.Ytcoehkphdfejjaa

/-
  The builder of a spilled block: loads, stores, add.
-/
namespace Go.Proofs.Ytcoehkphdfejjaa
open Go.RowKit
set_option linter.unusedVariables false
set_option linter.unusedSimpArgs false

theorem twice22 {v : Int} (h : 0 ≤ v ∧ v ≤ 1000000) : IntKind.i64.wrap (2 * v) = 2 * v ∧ IntKind.i64.wrap (2 * v + 1) = 2 * v + 1 := by
  refine ⟨?_, ?_⟩ <;> (rw [IntKind.wrap_i64]; omega)

set_option maxRecDepth 100000 in
theorem slot22 (v : Int) (w : World) (h : 0 ≤ v ∧ v ≤ 1000000) :
    Calls Try.prog 50 #[.int .i64 v] w fun e w' => e = .returned (.int .i64 (2 * v + 1)) ∧ w = w' := by
  go_enter Try.func50, Try.ntmps50
  go_wp2
  go_ret
  exact ⟨rfl, rfl⟩

set_option maxRecDepth 100000 in
theorem reg22 (v : Int) (w : World) (h : 0 ≤ v ∧ v ≤ 1000000) :
    Calls Try.prog 60 #[.int .i64 v] w fun e w' => e = .returned (.int .i64 (2 * v)) ∧ w = w' := by
  go_enter Try.func60, Try.ntmps60
  go_wp2
  go_ret
  exact ⟨rfl, rfl⟩

set_option maxRecDepth 100000 in
set_option maxHeartbeats 1000000 in
theorem load22 (n v r : Int) (w : World) (hr : 2 * n = r) (hn : 0 ≤ n ∧ n ≤ 1) (h : 0 ≤ v ∧ v ≤ 1000000) :
    Calls Try.prog 46 #[.int .i64 n, .int .i64 v] w fun e w' => e = .returned (.agg #[.int .i64 18, .int .i64 0, .int .i64 0, .int .i64 0, .int .i64 0, .int .i64 (r), .int .i64 (2 * v + 1)]) ∧ Grew w w' := by
  have C1 := Lib.hid fun W => reg22 n W (by omega)
  have C2 := Lib.hid fun W => slot22 v W h
  rw [hr] at C1
  go_enter Try.func46, Try.ntmps46
  go_upto_region 1 with fail
  go_wp2_with fail
  refine (C1.out _).mono ?_
  rintro e W1 ⟨rfl, rfl⟩
  go_wp2_with fail
  refine (C2.out _).mono ?_
  rintro e W2 ⟨rfl, rfl⟩
  go_wp2
  refine bodyPost_ret (v := .agg #[.int .i64 18, .int .i64 0, .int .i64 0, .int .i64 0, .int .i64 0, .int .i64 (r), .int .i64 (2 * v + 1)]) ?_ rfl ⟨rfl, (Grew.refl w).alloc _⟩
  exact results_cell_row rfl _ _ w.heap.size 69 #[.int .i64 18, .int .i64 0, .int .i64 0, .int .i64 0, .int .i64 0, .int .i64 (r), .int .i64 (2 * v + 1)] (0, 0) _ rfl (Row.new w _ _) Try.underlying69 rfl (by kernel_rfl)

set_option maxRecDepth 100000 in
set_option maxHeartbeats 1000000 in
theorem store22 (v : Int) (w : World) (h : 0 ≤ v ∧ v ≤ 1000000) :
    Calls Try.prog 58 #[.int .i64 v] w fun e w' => e = .returned (.agg #[.int .i64 18, .int .i64 0, .int .i64 0, .int .i64 0, .int .i64 0, .int .i64 (2 * v + 1), .int .i64 (0)]) ∧ Grew w w' := by
  have C1 := Lib.hid fun W => reg22 0 W (by omega)
  have C2 := Lib.hid fun W => slot22 v W h
  go_enter Try.func58, Try.ntmps58
  go_upto_region 1 with fail
  go_wp2_with fail
  refine (C2.out _).mono ?_
  rintro e W1 ⟨rfl, rfl⟩
  go_wp2_with fail
  refine (C1.out _).mono ?_
  rintro e W2 ⟨rfl, rfl⟩
  go_wp2
  refine bodyPost_ret (v := .agg #[.int .i64 18, .int .i64 0, .int .i64 0, .int .i64 0, .int .i64 0, .int .i64 (2 * v + 1), .int .i64 (0)]) ?_ rfl ⟨rfl, (Grew.refl w).alloc _⟩
  exact results_cell_row rfl _ _ w.heap.size 69 #[.int .i64 18, .int .i64 0, .int .i64 0, .int .i64 0, .int .i64 0, .int .i64 (2 * v + 1), .int .i64 (0)] (0, 0) _ rfl (Row.new w _ _) Try.underlying69 rfl (by kernel_rfl)

/-- The builder at block p; what a step that builds leaves alone. -/
structure BD (w : World) (base p : Nat) (A : Option Addr) (c : Nat) (l : List Mi) : Prop where
  row : Row w p 86 #[.slice A l.length c]
  own : w.ownsRow base 69 7 (.slice A l.length c) l.length (l.flatMap Mi.cells)

structure AK (base : Nat) (w w' : World) : Prop where
  ty : ∀ b T cs, T ≠ 86 → T ≠ 69 → Row w b T cs → Row w' b T cs
  old : Below base w w'
  sz : w.heap.size ≤ w'.heap.size

theorem AK.refl (base : Nat) (w : World) : AK base w w := ⟨fun _ _ _ _ _ h => h, Below.refl _ _, Nat.le_refl _⟩

theorem AK.trans {base : Nat} {w w' w'' : World} (h : AK base w w') (k : AK base w' w'') : AK base w w'' :=
  ⟨fun b T cs h1 h2 h3 => k.ty b T cs h1 h2 (h.ty b T cs h1 h2 h3), h.old.trans k.old, Nat.le_trans h.sz k.sz⟩

theorem AK.of_below {base : Nat} {w w' : World} (h : Below w.heap.size w w') (hb : base ≤ w.heap.size) : AK base w w' :=
  ⟨fun b T cs _ _ h3 => h3.below h h3.lt, h.mono hb, h.size⟩

theorem AK.grew {base : Nat} {w w' : World} (h : Grew w w') (hb : base ≤ w.heap.size) : AK base w w' := AK.of_below h.below hb

section
variable {w w' : World} {base p : Nat} {A : Option Addr} {c : Nat} {l : List Mi}

theorem BD.next (h : BD w base p A c l) (hb : Below w.heap.size w w') : BD w' base p A c l :=
  ⟨h.row.below hb h.row.lt, (Mods.of_below (S := No) hb).ownS h.own fun _ _ hs => hs.elim⟩

theorem BD.grew (h : BD w base p A c l) (hb : Grew w w') : BD w' base p A c l := h.next hb.below

theorem BD.cap (h : BD w base p A c l) : l.length ≤ c ∧ c ≤ maxLen := by
  obtain ⟨A', c', e, h1, h2⟩ := ownS_slice h.own
  injection e with e1 e2 e3
  omega

theorem BD.some_base (h : BD w base p A c l) : ∀ k, (Value.slice A l.length c).ownBlock = some k → base ≤ k := fun k hk => (ownS_lt h.own k hk).1

end

theorem mio22 (l : List Mi) : ∀ u ∈ l.flatMap Mi.cells, u.oneCell' = true := flatM_oneCell l

theorem mil22 (l : List Mi) : (l.flatMap Mi.cells).length = l.length * 7 := flatM_length l

set_option maxRecDepth 100000 in
set_option maxHeartbeats 2000000 in
theorem add22 {w : World} {base p : Nat} {A : Option Addr} {c : Nat} {l : List Mi} (h : BD w base p A c l) {B : Nat} {A1 : Option Addr} (m : List Mi) (c1 : Nat) (hs : Sees w B A1 (m.flatMap Mi.cells)) (hp : base ≤ p) (hm : l.length + m.length ≤ 1000000) :
    Calls Try.prog 45 #[.pointer (some ⟨p, 0, none⟩), .slice A1 m.length c1] w fun e w' => e = .returned (.tuple #[]) ∧ (∃ A' c', BD w' base p A' c' (l ++ m) ∧ ∀ mb T cs, Row w mb T cs → mb ≠ p → (∀ k, (Value.slice A l.length c).ownBlock = some k → k ≠ mb) → Row w' mb T cs ∧ ∀ k, (Value.slice A' (l ++ m).length c').ownBlock = some k → k ≠ mb) ∧ AK base w w' := by
  obtain ⟨i0, hi0, hz0, hz1, hz2⟩ := info_parts infoMi
  have h0 : w.cell? ⟨p, 0, none⟩ = some (.slice A l.length c) := h.row.cell 0
  have hbw : base ≤ w.heap.size := Nat.le_trans hp (Nat.le_of_lt h.row.lt)
  have HH := Lib.hid h
  have hown := h.own
  clear h
  go_enter Try.func45, Try.ntmps45
  go_wp2_with (at_builtin; refine wpList_append_any _ rfl (.tmp 8) (.tmp 9) 47 rfl base 69 i0 _ 7 56 Try.underlying47 hi0 hz0 hz1 hz2 rfl (by decide) _ _ _ rfl hown B _ _ _ (m.flatMap Mi.cells) rfl hs (mil22 m) (mio22 m) ?c1 ?c2 ?c3 ?_)
  case c1 => unfold maxLen; omega
  case c2 => omega
  case c3 => exact hbw
  intro v2 W2 ho2 hg2 hb2
  obtain ⟨A2, c2, rfl, _, _⟩ := ownS_slice ho2
  have hne : ∀ k, (Value.slice A l.length c).ownBlock = some k → ¬ k = p := own_row_neS HH.out.own HH.out.row (by decide)
  have hG : Mods (fun k => (Value.slice A l.length c).ownBlock = some k) w W2 := (Mods.refl _ _).grown hg2 fun k hk => .inl hk
  have hR2 := HH.out.row.mods hG (fun e => hne p e rfl)
  have hne2 := own_row_neS ho2 hR2 (by decide)
  have hfr := hR2.frozen 0
  have hc2 : W2.cell? ⟨p, 0, none⟩ = some (.slice A l.length c) := hR2.cell 0
  have HO2 := Lib.hid ho2
  have HR2 := Lib.hid hR2
  have HG := Lib.hid hG
  have HNE := Lib.hid hne2
  have HB2 := Lib.hid hb2
  clear ho2 hR2 hG hne hne2 hg2 hb2 hown
  go_wp2
  first | go_end0 | refine bodyPost_ret (results_none rfl _ _ _) rfl ?_
  have hM : Mods (Is p) W2 (W2.setCell ⟨p, 0, none⟩ (.slice A2 (l.length + m.length) c2)) := (Mods.refl (Is p) W2).put 0 _
  refine ⟨rfl, ⟨A2, c2, ⟨?_, ?_⟩, ?_⟩, ?_, ?_, ?_⟩
  · rw [List.length_append]
    exact HR2.out.put 0 _
  · rw [List.length_append, List.flatMap_append]
    exact hM.ownS HO2.out fun k hk e => HNE.out k hk e
  · intro mb T cs h1 h2 h3
    refine ⟨(h1.mods HG.out (fun e => h3 mb e rfl)).mods hM h2, fun k hk => ?_⟩
    rw [List.length_append] at hk
    rcases HB2.out with h4 | h4
    · rw [h4] at hk
      exact h3 k hk
    · rw [h4] at hk
      injection hk with hk
      have := h1.lt
      omega
  · intro b T cs h1 h2 h3
    have hbp : b ≠ p := fun e => by
      subst e
      have h4 := HH.out.row
      unfold Row at h3 h4
      rw [h3] at h4
      simp only [Option.some.injEq, Obj.cells.injEq] at h4
      exact h1 h4.2.1
    have h4 := h3.mods HG.out (fun e => own_row_neS HH.out.own h3 (fun e2 => h2 e2.symm) b e rfl)
    exact h4.mods hM hbp
  · have h1 : Below base w W2 := HG.out.below hbw fun k hk => HH.out.some_base k hk
    exact h1.trans (hM.below (Nat.le_trans hbw HG.out.size) fun k hk => by unfold Is at hk; omega)
  · exact Nat.le_trans HG.out.size hM.size

set_option maxRecDepth 100000 in
set_option maxHeartbeats 4000000 in
theorem addcopy22 {w : World} {base p : Nat} {A : Option Addr} {c : Nat} {l : List Mi} (h : BD w base p A c l) (hp : base ≤ p) (op d a b imm : Int) (ha : 0 ≤ a ∧ a ≤ 1000000) (hd : 0 ≤ d ∧ d ≤ 1000000) (hm : l.length + 2 ≤ 1000000) :
    Calls Try.prog 42 #[.pointer (some ⟨p, 0, none⟩), .agg #[.int .i64 op, .int .i64 d, .int .i64 a, .int .i64 b, .int .i64 imm]] w fun e w' => e = .returned (.tuple #[]) ∧ (∃ A' c', BD w' base p A' c' (l ++ [ldM 0 a, stM d])) ∧ AK base w w' := by
  have mixed : Try.prog.follows .mixedOrders = true := by kernel_rfl
  have C1 := Lib.hid fun W => load22 0 a 0 W rfl (by omega) ha
  have C2 := Lib.hid fun W => store22 d W hd
  have hbw : base ≤ w.heap.size := Nat.le_trans hp (Nat.le_of_lt h.row.lt)
  have HG0 : Hid (Grew w (w.alloc (.cells #[.int .i64 op, .int .i64 d, .int .i64 a, .int .i64 b, .int .i64 imm] 62))) := (Grew.refl w).alloc _
  have HX := Lib.hid (Row.new w 62 #[.int .i64 op, .int .i64 d, .int .i64 a, .int .i64 b, .int .i64 imm])
  have HH := Lib.hid h
  clear h
  go_enter Try.func42, Try.ntmps42
  go_upto_region 1 with fail
  have HG := Lib.hid ((Grew.refl (w.alloc (.cells #[.int .i64 op, .int .i64 d, .int .i64 a, .int .i64 b, .int .i64 imm] 62))).drew)
  generalize (w.alloc (.cells #[.int .i64 op, .int .i64 d, .int .i64 a, .int .i64 b, .int .i64 imm] 62)) = W0 at *
  generalize w.heap.size = xb at HX ⊢
  go_wp2_with fail
  refine wp_region_held_drew (S := fun w' => w'.cell? ⟨xb, 1, none⟩ = some (.int .i64 d) ∧ w'.cell? ⟨xb, 2, none⟩ = some (.int .i64 a)) (by kernel_rfl) ⟨(HG.out.row HX.out).k1, (HG.out.row HX.out).k2⟩ (fun hHeld => ?_)
  generalize hVV : W0.drew = V at *
  clear hVV
  refine take_at 0 4 (.pointer (some ⟨p, 0, none⟩)) rfl rfl (by kernel_rfl) (by kernel_rfl) (by kernel_rfl) (fun _ _ _ h => h) (Or.inl ⟨by rfl, ?_⟩) hHeld ?_
  · intro w9 hSw
    (try dsimp only at hSw)
    go_simp
  (try simp only [Act.put, List.setIfInBounds_toArray, List.set_cons_zero, List.set_cons_succ])
  refine take_at 1 5 (.pointer (some ⟨xb, 2, none⟩)) rfl rfl (by kernel_rfl) (by kernel_rfl) (by kernel_rfl) (fun _ _ _ h => h) (Or.inl ⟨by rfl, ?_⟩) hHeld ?_
  · intro w9 hSw
    (try dsimp only at hSw)
    go_simp
  (try simp only [Act.put, List.setIfInBounds_toArray, List.set_cons_zero, List.set_cons_succ])
  refine take_at 2 6 (.int .i64 a) rfl rfl (by kernel_rfl) (by kernel_rfl) (by kernel_rfl) (fun _ _ _ h => h) (Or.inl ⟨by rfl, ?_⟩) hHeld ?_
  · intro w9 hSw
    (try dsimp only at hSw)
    go_simp
  (try simp only [Act.put, List.setIfInBounds_toArray, List.set_cons_zero, List.set_cons_succ])
  refine take_at 4 8 (.pointer (some ⟨xb, 1, none⟩)) rfl rfl (by kernel_rfl) (by kernel_rfl) (by kernel_rfl) (fun _ _ _ h => h) (Or.inl ⟨by rfl, ?_⟩) hHeld ?_
  · intro w9 hSw
    (try dsimp only at hSw)
    go_simp
  (try simp only [Act.put, List.setIfInBounds_toArray, List.set_cons_zero, List.set_cons_succ])
  refine take_at 5 9 (.int .i64 d) rfl rfl (by kernel_rfl) (by kernel_rfl) (by kernel_rfl) (fun _ _ _ h => h) (Or.inl ⟨by rfl, ?_⟩) hHeld ?_
  · intro w9 hSw
    (try dsimp only at hSw)
    go_simp
  (try simp only [Act.put, List.setIfInBounds_toArray, List.set_cons_zero, List.set_cons_succ])
  repeat' (first
    | exact AllReadyH.nil
    | (refine AllReadyH.cons (i := 3) rfl (fun K hK => ?_) ?_; focus (go_simp; refine (C1.out _).mono ?_; rintro e V ⟨rfl, hg⟩; (try go_wp2_with fail); replace HG := Lib.hid (HG.out.trans hg); refine hK.out _ _ ⟨(HG.out.row HX.out).k1, (HG.out.row HX.out).k2⟩ (fun hHeld => ?_); clear hK K; clear hg))
    | (refine AllReadyH.cons (i := 6) rfl (fun K hK => ?_) ?_; focus (go_simp; refine (C2.out _).mono ?_; rintro e V ⟨rfl, hg⟩; (try go_wp2_with fail); replace HG := Lib.hid (HG.out.trans hg); refine hK.out _ _ ⟨(HG.out.row HX.out).k1, (HG.out.row HX.out).k2⟩ (fun hHeld => ?_); clear hK K; clear hg))
    | (refine AllReadyH.cons (i := 7) rfl (fun K hK => ?_) ?_; focus (go_simp; have HS := Lib.hid (sees_new V #[.int .i64 18, .int .i64 0, .int .i64 0, .int .i64 0, .int .i64 0, .int .i64 (0), .int .i64 (2 * a + 1), .int .i64 18, .int .i64 0, .int .i64 0, .int .i64 0, .int .i64 0, .int .i64 (2 * d + 1), .int .i64 (0)] 69); replace HG := Lib.hid (HG.out.alloc (.cells #[.int .i64 18, .int .i64 0, .int .i64 0, .int .i64 0, .int .i64 0, .int .i64 (0), .int .i64 (2 * a + 1), .int .i64 18, .int .i64 0, .int .i64 0, .int .i64 0, .int .i64 0, .int .i64 (2 * d + 1), .int .i64 (0)] 69)); refine hK.out _ _ ⟨(HG.out.row HX.out).k1, (HG.out.row HX.out).k2⟩ (fun hHeld => ?_); clear hK K; generalize V.heap.size = g0 at *; generalize V.alloc (.cells #[.int .i64 18, .int .i64 0, .int .i64 0, .int .i64 0, .int .i64 0, .int .i64 (0), .int .i64 (2 * a + 1), .int .i64 18, .int .i64 0, .int .i64 0, .int .i64 0, .int .i64 0, .int .i64 (2 * d + 1), .int .i64 (0)] 69) = V at *))
    | (refine AllReadyH.cons (i := 8) rfl (fun K hK => ?_) ?_; focus (go_simp; refine (add22 (HH.out.grew (HG0.out.trans HG.out)) [ldM 0 a, stM d] 2 HS.out hp hm).mono ?_; rintro e V2 ⟨rfl, ⟨A2, c2, hbd, _⟩, hak⟩; (try go_wp2_with fail); have HB := Lib.hid hbd; have HA := Lib.hid ((AK.grew (HG0.out.trans HG.out) hbw).trans hak); have HXX := Lib.hid (hak.ty xb _ _ (by decide) (by decide) (HG.out.row HX.out)); refine hK.out _ _ ⟨HXX.out.k1, HXX.out.k2⟩ (fun hHeld => ?_); clear hK K hbd hak))
    | refine wpAnyH_ready (rs := [3, 6]) (by decide +kernel) (by simp) ?_
    | refine wpAnyH_ready (rs := [3]) (by decide +kernel) (by simp) ?_
    | refine wpAnyH_ready (rs := [6]) (by decide +kernel) (by simp) ?_
    | refine wpAnyH_ready (rs := [7]) (by decide +kernel) (by simp) ?_
    | refine wpAnyH_ready (rs := [8]) (by decide +kernel) (by simp) ?_
    | (refine wpAnyH_done (by decide +kernel) ?_ _; clear hHeld; go_wp2; first | go_end0 | refine bodyPost_ret (results_none rfl _ _ _) rfl ?_))
  all_goals exact ⟨rfl, ⟨_, _, HB.out⟩, HA.out⟩

/-- What adding an operation carries. -/
structure OB (w : World) (base p xb sb mb : Nat) (xc sc mc : Array Value) (l : List Mi) (W : World) : Prop where
  bd : ∃ A c, BD W base p A c l ∧ ∀ k, (Value.slice A l.length c).ownBlock = some k → k ≠ mb
  x : Row W xb 62 xc
  s : Row W sb 105 sc
  m : Row W mb 69 mc
  mp : mb ≠ p
  ak : AK base w W
  hp : base ≤ p
  mx : xb < mb ∧ sb < mb ∧ base ≤ mb

section
variable {w W W' : World} {base p xb sb mb : Nat} {xc sc mc : Array Value} {l : List Mi}

theorem OB.bw (h : OB w base p xb sb mb xc sc mc l W) : base ≤ W.heap.size := by
  obtain ⟨A, c, h1, _⟩ := h.bd
  exact Nat.le_trans h.hp (Nat.le_of_lt h1.row.lt)

theorem OB.next (h : OB w base p xb sb mb xc sc mc l W) (hb : Below W.heap.size W W') : OB w base p xb sb mb xc sc mc l W' := by
  obtain ⟨A, c, h1, h2⟩ := h.bd
  exact ⟨⟨A, c, h1.next hb, h2⟩, h.x.below hb h.x.lt, h.s.below hb h.s.lt, h.m.below hb h.m.lt, h.mp, h.ak.trans (AK.of_below hb h.bw), h.hp, h.mx⟩

theorem OB.grew (h : OB w base p xb sb mb xc sc mc l W) (hb : Grew W W') : OB w base p xb sb mb xc sc mc l W' := h.next hb.below

theorem OB.alloc (h : OB w base p xb sb mb xc sc mc l W) (o : Obj) : OB w base p xb sb mb xc sc mc l (W.alloc o) := h.grew ((Grew.refl W).alloc o)

theorem OB.put (h : OB w base p xb sb mb xc sc mc l W) (i : Nat) (u : Value) (hw : w.heap.size ≤ mb) : OB w base p xb sb mb xc sc (mc.setIfInBounds i u) l (W.setCell ⟨mb, i, none⟩ u) := by
  obtain ⟨A, c, h1, h2⟩ := h.bd
  have hM : Mods (Is mb) W (W.setCell ⟨mb, i, none⟩ u) := (Mods.refl (Is mb) W).put i u
  have m1 := h.mx
  refine ⟨⟨A, c, ⟨h1.row.mods hM fun e => h.mp e.symm, hM.ownS h1.own fun k hk e => h2 k hk e⟩, h2⟩, h.x.mods hM (fun e => by have : xb = mb := e; omega), h.s.mods hM (fun e => by have : sb = mb := e; omega), h.m.put i u, h.mp, ⟨fun b T cs q1 q2 q3 => ?_, ?_, ?_⟩, h.hp, h.mx⟩
  · have q3' := h.ak.ty b T cs q1 q2 q3
    exact q3'.mods hM (fun e => by have : b = mb := e; have := q3.lt; omega)
  · exact h.ak.old.trans (hM.below h.bw fun k hk => by unfold Is at hk; omega)
  · exact Nat.le_trans h.ak.sz hM.size

end

theorem add_ob {w W : World} {base p xb sb mb : Nat} {xc sc mc : Array Value} {l : List Mi} (h : OB w base p xb sb mb xc sc mc l W) {B : Nat} {A1 : Option Addr} (m : List Mi) (c1 : Nat) (hs : Sees W B A1 (m.flatMap Mi.cells)) (hm : l.length + m.length ≤ 1000000) :
    Calls Try.prog 45 #[.pointer (some ⟨p, 0, none⟩), .slice A1 m.length c1] W fun e w' => e = .returned (.tuple #[]) ∧ OB w base p xb sb mb xc sc mc (l ++ m) w' := by
  obtain ⟨A, c, h1, h2⟩ := h.bd
  refine (add22 h1 m c1 hs h.hp hm).mono ?_
  rintro e w' ⟨rfl, ⟨A', c', g1, g2⟩, hk⟩
  obtain ⟨k1, k2⟩ := g2 mb _ _ h.m h.mp h2
  exact ⟨rfl, ⟨A', c', g1, k2⟩, hk.ty _ _ _ (by decide) (by decide) h.x, hk.ty _ _ _ (by decide) (by decide) h.s, k1, h.mp, h.ak.trans hk, h.hp, h.mx⟩

set_option maxRecDepth 100000 in
set_option maxHeartbeats 4000000 in
theorem addop22_C {w : World} {base p : Nat} {A : Option Addr} {c : Nat} {l : List Mi} (h : BD w base p A c l) (hp : base ≤ p) (op d a b imm : Int) (hd : 0 ≤ d ∧ d ≤ 1000000) (hm : l.length + 4 ≤ 1000000) (hA : uA op = false) (hB : uB op = false) (hD : uD op = true) :
    Calls Try.prog 43 #[.pointer (some ⟨p, 0, none⟩), .agg #[.int .i64 op, .int .i64 d, .int .i64 a, .int .i64 b, .int .i64 imm]] w fun e w' => e = .returned (.tuple #[]) ∧ (∃ A' c', BD w' base p A' c' (l ++ [⟨op, 0, 0, 0, imm, 0, 0⟩, stM d])) ∧ AK base w w' := by
  have CO := Lib.hid fun W => of_any op W
  unfold shp at CO
  rw [hA, hB, hD] at CO
  have CD := Lib.hid fun W => store22 d W hd
  have hbw : base ≤ w.heap.size := Nat.le_trans hp (Nat.le_of_lt h.row.lt)
  have hpw := h.row.lt
  have HG0 : Hid (Grew w (w.alloc (.cells #[.int .i64 op, .int .i64 d, .int .i64 a, .int .i64 b, .int .i64 imm] 62))) := (Grew.refl w).alloc _
  have HX := Lib.hid (Row.new w 62 #[.int .i64 op, .int .i64 d, .int .i64 a, .int .i64 b, .int .i64 imm])
  have HH := Lib.hid h
  have hz0 : w.heap.size < (w.alloc (.cells #[.int .i64 op, .int .i64 d, .int .i64 a, .int .i64 b, .int .i64 imm] 62)).heap.size := by simp
  clear h hA hB hD
  go_enter Try.func43, Try.ntmps43
  go_upto_region 1 with fail
  generalize (w.alloc (.cells #[.int .i64 op, .int .i64 d, .int .i64 a, .int .i64 b, .int .i64 imm] 62)) = W0 at *
  have c0 := HX.out.k0
  go_wp2_with fail
  refine (CO.out _).mono ?_
  rintro e W1 ⟨rfl, hb1⟩
  have hz1 := hb1.size
  have HX1 := Lib.hid (HX.out.below hb1 HX.out.lt)
  have HB1 := Lib.hid ((HH.out.grew HG0.out).next hb1)
  have HA1 := Lib.hid ((AK.grew HG0.out hbw).trans (AK.of_below hb1 (by omega)))
  clear HX HH HG0 CO c0 hb1
  go_upto_region 2 with fail
  have HS1 := Lib.hid (Row.new W1 105 #[.bool true, .bool false, .bool false, .bool (uI op)])
  have HX2 := Lib.hid (HX1.out.alloc (.cells #[.bool true, .bool false, .bool false, .bool (uI op)] 105))
  have hg2 : Grew W1 (W1.alloc (.cells #[.bool true, .bool false, .bool false, .bool (uI op)] 105)) := (Grew.refl _).alloc _
  have HB2 := Lib.hid (HB1.out.grew hg2)
  have HA2 := Lib.hid (HA1.out.trans (AK.grew hg2 (by omega)))
  have hz2 : W1.heap.size < (W1.alloc (.cells #[.bool true, .bool false, .bool false, .bool (uI op)] 105)).heap.size := by simp
  clear HX1 HB1 HA1 hg2
  generalize (W1.alloc (.cells #[.bool true, .bool false, .bool false, .bool (uI op)] 105)) = W2 at *
  have c0 := HX2.out.k0; have c4 := HX2.out.k4
  go_upto_region 3 with fail
  have HO : Hid (OB w base p w.heap.size W1.heap.size W2.heap.size #[.int .i64 op, .int .i64 d, .int .i64 a, .int .i64 b, .int .i64 imm] #[.bool true, .bool false, .bool false, .bool (uI op)] #[.int .i64 op, .int .i64 0, .int .i64 0, .int .i64 0, .int .i64 imm, .int .i64 0, .int .i64 0] l (W2.alloc (.cells #[.int .i64 op, .int .i64 0, .int .i64 0, .int .i64 0, .int .i64 imm, .int .i64 0, .int .i64 0] 69))) :=
    ⟨⟨_, _, HB2.out.grew ((Grew.refl _).alloc _), fun k hk => by have := (ownS_lt HB2.out.own k hk).2; omega⟩, HX2.out.alloc _, HS1.out.alloc _, Row.new _ _ _, by omega, HA2.out.trans (AK.grew ((Grew.refl _).alloc _) (by omega)), hp, by omega⟩
  have hwm : w.heap.size ≤ W2.heap.size := by omega
  clear HX2 HB2 HA2 HS1 c0 c4
  generalize (W2.alloc (.cells #[.int .i64 op, .int .i64 0, .int .i64 0, .int .i64 0, .int .i64 imm, .int .i64 0, .int .i64 0] 69)) = W3 at *
  generalize W2.heap.size = mb at *
  generalize W1.heap.size = sb at *
  generalize hxb : w.heap.size = xb at *
  clear hz0 hz1 hz2
  have s1 := HO.out.s.k1
  have s2 := HO.out.s.k2
  have m0 := HO.out.m.k0; have m1 := HO.out.m.k1; have m2 := HO.out.m.k2; have m3 := HO.out.m.k3; have m4 := HO.out.m.k4; have m5 := HO.out.m.k5; have m6 := HO.out.m.k6
  go_upto_region 8 with fail
  have a3 := True.intro
  have HO3 := HO
  clear HO
  have hs := sees_new W3 #[.int .i64 op, .int .i64 0, .int .i64 0, .int .i64 0, .int .i64 imm, .int .i64 0, .int .i64 0] 69
  have C9 := Lib.hid (add_ob (HO3.out.alloc (.cells #[.int .i64 op, .int .i64 0, .int .i64 0, .int .i64 0, .int .i64 imm, .int .i64 0, .int .i64 0] 69)) [⟨op, 0, 0, 0, imm, 0, 0⟩] 1 hs (by simp only [List.length_append, List.length_cons, List.length_nil]; omega))
  clear hs HO3
  go_wp2_with fail
  refine C9.out.mono ?_
  rintro e W4 ⟨rfl, hob⟩
  have HO := Lib.hid hob
  clear hob C9
  have s0 := HO.out.s.k0
  go_upto_region 10 with fail
  have a4 := HO.out.x.k1
  go_wp2_with fail
  refine (CD.out _).mono ?_
  rintro e V4 ⟨rfl, hg⟩
  have HO4 := Lib.hid (HO.out.grew hg)
  clear HO hg a4
  have hs := sees_new V4 #[.int .i64 18, .int .i64 0, .int .i64 0, .int .i64 0, .int .i64 0, .int .i64 (2 * d + 1), .int .i64 (0)] 69
  have C9 := Lib.hid (add_ob (HO4.out.alloc (.cells #[.int .i64 18, .int .i64 0, .int .i64 0, .int .i64 0, .int .i64 0, .int .i64 (2 * d + 1), .int .i64 (0)] 69)) [stM d] 1 hs (by simp only [List.length_append, List.length_cons, List.length_nil]; omega))
  clear hs HO4
  go_wp2_with fail
  refine C9.out.mono ?_
  rintro e W5 ⟨rfl, hob⟩
  have HO := Lib.hid hob
  clear hob C9
  go_wp2
  first | go_end0 | refine bodyPost_ret (results_none rfl _ _ _) rfl ?_
  obtain ⟨A9, c9, hb9, _⟩ := HO.out.bd
  refine ⟨rfl, ⟨A9, c9, ?_⟩, HO.out.ak⟩
  have e9 : l ++ [⟨op, 0, 0, 0, imm, 0, 0⟩] ++ [stM d] = l ++ [⟨op, 0, 0, 0, imm, 0, 0⟩, stM d] := by simp only [List.append_assoc, List.cons_append, List.nil_append]
  rw [e9] at hb9
  exact hb9

set_option maxRecDepth 100000 in
set_option maxHeartbeats 4000000 in
theorem addop22_U {w : World} {base p : Nat} {A : Option Addr} {c : Nat} {l : List Mi} (h : BD w base p A c l) (hp : base ≤ p) (op d a b imm : Int) (ha : 0 ≤ a ∧ a ≤ 1000000) (hd : 0 ≤ d ∧ d ≤ 1000000) (hm : l.length + 4 ≤ 1000000) (hA : uA op = true) (hB : uB op = false) (hD : uD op = true) :
    Calls Try.prog 43 #[.pointer (some ⟨p, 0, none⟩), .agg #[.int .i64 op, .int .i64 d, .int .i64 a, .int .i64 b, .int .i64 imm]] w fun e w' => e = .returned (.tuple #[]) ∧ (∃ A' c', BD w' base p A' c' (l ++ [ldM 0 a, ⟨op, 0, 0, 0, imm, 0, 0⟩, stM d])) ∧ AK base w w' := by
  have CO := Lib.hid fun W => of_any op W
  unfold shp at CO
  rw [hA, hB, hD] at CO
  have CA := Lib.hid fun W => load22 0 a 0 W rfl (by omega) ha
  have CD := Lib.hid fun W => store22 d W hd
  have hbw : base ≤ w.heap.size := Nat.le_trans hp (Nat.le_of_lt h.row.lt)
  have hpw := h.row.lt
  have HG0 : Hid (Grew w (w.alloc (.cells #[.int .i64 op, .int .i64 d, .int .i64 a, .int .i64 b, .int .i64 imm] 62))) := (Grew.refl w).alloc _
  have HX := Lib.hid (Row.new w 62 #[.int .i64 op, .int .i64 d, .int .i64 a, .int .i64 b, .int .i64 imm])
  have HH := Lib.hid h
  have hz0 : w.heap.size < (w.alloc (.cells #[.int .i64 op, .int .i64 d, .int .i64 a, .int .i64 b, .int .i64 imm] 62)).heap.size := by simp
  clear h hA hB hD
  go_enter Try.func43, Try.ntmps43
  go_upto_region 1 with fail
  generalize (w.alloc (.cells #[.int .i64 op, .int .i64 d, .int .i64 a, .int .i64 b, .int .i64 imm] 62)) = W0 at *
  have c0 := HX.out.k0
  go_wp2_with fail
  refine (CO.out _).mono ?_
  rintro e W1 ⟨rfl, hb1⟩
  have hz1 := hb1.size
  have HX1 := Lib.hid (HX.out.below hb1 HX.out.lt)
  have HB1 := Lib.hid ((HH.out.grew HG0.out).next hb1)
  have HA1 := Lib.hid ((AK.grew HG0.out hbw).trans (AK.of_below hb1 (by omega)))
  clear HX HH HG0 CO c0 hb1
  go_upto_region 2 with fail
  have HS1 := Lib.hid (Row.new W1 105 #[.bool true, .bool true, .bool false, .bool (uI op)])
  have HX2 := Lib.hid (HX1.out.alloc (.cells #[.bool true, .bool true, .bool false, .bool (uI op)] 105))
  have hg2 : Grew W1 (W1.alloc (.cells #[.bool true, .bool true, .bool false, .bool (uI op)] 105)) := (Grew.refl _).alloc _
  have HB2 := Lib.hid (HB1.out.grew hg2)
  have HA2 := Lib.hid (HA1.out.trans (AK.grew hg2 (by omega)))
  have hz2 : W1.heap.size < (W1.alloc (.cells #[.bool true, .bool true, .bool false, .bool (uI op)] 105)).heap.size := by simp
  clear HX1 HB1 HA1 hg2
  generalize (W1.alloc (.cells #[.bool true, .bool true, .bool false, .bool (uI op)] 105)) = W2 at *
  have c0 := HX2.out.k0; have c4 := HX2.out.k4
  go_upto_region 3 with fail
  have HO : Hid (OB w base p w.heap.size W1.heap.size W2.heap.size #[.int .i64 op, .int .i64 d, .int .i64 a, .int .i64 b, .int .i64 imm] #[.bool true, .bool true, .bool false, .bool (uI op)] #[.int .i64 op, .int .i64 0, .int .i64 0, .int .i64 0, .int .i64 imm, .int .i64 0, .int .i64 0] l (W2.alloc (.cells #[.int .i64 op, .int .i64 0, .int .i64 0, .int .i64 0, .int .i64 imm, .int .i64 0, .int .i64 0] 69))) :=
    ⟨⟨_, _, HB2.out.grew ((Grew.refl _).alloc _), fun k hk => by have := (ownS_lt HB2.out.own k hk).2; omega⟩, HX2.out.alloc _, HS1.out.alloc _, Row.new _ _ _, by omega, HA2.out.trans (AK.grew ((Grew.refl _).alloc _) (by omega)), hp, by omega⟩
  have hwm : w.heap.size ≤ W2.heap.size := by omega
  clear HX2 HB2 HA2 HS1 c0 c4
  generalize (W2.alloc (.cells #[.int .i64 op, .int .i64 0, .int .i64 0, .int .i64 0, .int .i64 imm, .int .i64 0, .int .i64 0] 69)) = W3 at *
  generalize W2.heap.size = mb at *
  generalize W1.heap.size = sb at *
  generalize hxb : w.heap.size = xb at *
  clear hz0 hz1 hz2
  have s1 := HO.out.s.k1
  go_upto_region 4 with fail
  have a3 := HO.out.x.k2
  go_wp2_with fail
  refine (CA.out _).mono ?_
  rintro e V3 ⟨rfl, hg⟩
  have HO3 := Lib.hid (HO.out.grew hg)
  clear HO hg a3
  have hs := sees_new V3 #[.int .i64 18, .int .i64 0, .int .i64 0, .int .i64 0, .int .i64 0, .int .i64 (0), .int .i64 (2 * a + 1)] 69
  have C9 := Lib.hid (add_ob (HO3.out.alloc (.cells #[.int .i64 18, .int .i64 0, .int .i64 0, .int .i64 0, .int .i64 0, .int .i64 (0), .int .i64 (2 * a + 1)] 69)) [ldM 0 a] 1 hs (by simp only [List.length_append, List.length_cons, List.length_nil]; omega))
  clear hs HO3
  go_wp2_with fail
  refine C9.out.mono ?_
  rintro e W4 ⟨rfl, hob⟩
  have HO := Lib.hid hob
  clear hob C9
  have s2 := HO.out.s.k2
  have m0 := HO.out.m.k0; have m1 := HO.out.m.k1; have m2 := HO.out.m.k2; have m3 := HO.out.m.k3; have m4 := HO.out.m.k4; have m5 := HO.out.m.k5; have m6 := HO.out.m.k6
  go_upto_region 8 with fail
  have a4 := True.intro
  have HO4 := HO
  clear HO
  have hs := sees_new W4 #[.int .i64 op, .int .i64 0, .int .i64 0, .int .i64 0, .int .i64 imm, .int .i64 0, .int .i64 0] 69
  have C9 := Lib.hid (add_ob (HO4.out.alloc (.cells #[.int .i64 op, .int .i64 0, .int .i64 0, .int .i64 0, .int .i64 imm, .int .i64 0, .int .i64 0] 69)) [⟨op, 0, 0, 0, imm, 0, 0⟩] 1 hs (by simp only [List.length_append, List.length_cons, List.length_nil]; omega))
  clear hs HO4
  go_wp2_with fail
  refine C9.out.mono ?_
  rintro e W5 ⟨rfl, hob⟩
  have HO := Lib.hid hob
  clear hob C9
  have s0 := HO.out.s.k0
  go_upto_region 10 with fail
  have a5 := HO.out.x.k1
  go_wp2_with fail
  refine (CD.out _).mono ?_
  rintro e V5 ⟨rfl, hg⟩
  have HO5 := Lib.hid (HO.out.grew hg)
  clear HO hg a5
  have hs := sees_new V5 #[.int .i64 18, .int .i64 0, .int .i64 0, .int .i64 0, .int .i64 0, .int .i64 (2 * d + 1), .int .i64 (0)] 69
  have C9 := Lib.hid (add_ob (HO5.out.alloc (.cells #[.int .i64 18, .int .i64 0, .int .i64 0, .int .i64 0, .int .i64 0, .int .i64 (2 * d + 1), .int .i64 (0)] 69)) [stM d] 1 hs (by simp only [List.length_append, List.length_cons, List.length_nil]; omega))
  clear hs HO5
  go_wp2_with fail
  refine C9.out.mono ?_
  rintro e W6 ⟨rfl, hob⟩
  have HO := Lib.hid hob
  clear hob C9
  go_wp2
  first | go_end0 | refine bodyPost_ret (results_none rfl _ _ _) rfl ?_
  obtain ⟨A9, c9, hb9, _⟩ := HO.out.bd
  refine ⟨rfl, ⟨A9, c9, ?_⟩, HO.out.ak⟩
  have e9 : l ++ [ldM 0 a] ++ [⟨op, 0, 0, 0, imm, 0, 0⟩] ++ [stM d] = l ++ [ldM 0 a, ⟨op, 0, 0, 0, imm, 0, 0⟩, stM d] := by simp only [List.append_assoc, List.cons_append, List.nil_append]
  rw [e9] at hb9
  exact hb9

set_option maxRecDepth 100000 in
set_option maxHeartbeats 4000000 in
theorem addop22_B {w : World} {base p : Nat} {A : Option Addr} {c : Nat} {l : List Mi} (h : BD w base p A c l) (hp : base ≤ p) (op d a b imm : Int) (ha : 0 ≤ a ∧ a ≤ 1000000) (hb : 0 ≤ b ∧ b ≤ 1000000) (hd : 0 ≤ d ∧ d ≤ 1000000) (hm : l.length + 4 ≤ 1000000) (hA : uA op = true) (hB : uB op = true) (hD : uD op = true) :
    Calls Try.prog 43 #[.pointer (some ⟨p, 0, none⟩), .agg #[.int .i64 op, .int .i64 d, .int .i64 a, .int .i64 b, .int .i64 imm]] w fun e w' => e = .returned (.tuple #[]) ∧ (∃ A' c', BD w' base p A' c' (l ++ [ldM 0 a, ldM 1 b, ⟨op, 0, 0, 1, imm, 0, 0⟩, stM d])) ∧ AK base w w' := by
  have CO := Lib.hid fun W => of_any op W
  unfold shp at CO
  rw [hA, hB, hD] at CO
  have CA := Lib.hid fun W => load22 0 a 0 W rfl (by omega) ha
  have CB := Lib.hid fun W => load22 1 b 2 W rfl (by omega) hb
  have CD := Lib.hid fun W => store22 d W hd
  have hbw : base ≤ w.heap.size := Nat.le_trans hp (Nat.le_of_lt h.row.lt)
  have hpw := h.row.lt
  have HG0 : Hid (Grew w (w.alloc (.cells #[.int .i64 op, .int .i64 d, .int .i64 a, .int .i64 b, .int .i64 imm] 62))) := (Grew.refl w).alloc _
  have HX := Lib.hid (Row.new w 62 #[.int .i64 op, .int .i64 d, .int .i64 a, .int .i64 b, .int .i64 imm])
  have HH := Lib.hid h
  have hz0 : w.heap.size < (w.alloc (.cells #[.int .i64 op, .int .i64 d, .int .i64 a, .int .i64 b, .int .i64 imm] 62)).heap.size := by simp
  clear h hA hB hD
  go_enter Try.func43, Try.ntmps43
  go_upto_region 1 with fail
  generalize (w.alloc (.cells #[.int .i64 op, .int .i64 d, .int .i64 a, .int .i64 b, .int .i64 imm] 62)) = W0 at *
  have c0 := HX.out.k0
  go_wp2_with fail
  refine (CO.out _).mono ?_
  rintro e W1 ⟨rfl, hb1⟩
  have hz1 := hb1.size
  have HX1 := Lib.hid (HX.out.below hb1 HX.out.lt)
  have HB1 := Lib.hid ((HH.out.grew HG0.out).next hb1)
  have HA1 := Lib.hid ((AK.grew HG0.out hbw).trans (AK.of_below hb1 (by omega)))
  clear HX HH HG0 CO c0 hb1
  go_upto_region 2 with fail
  have HS1 := Lib.hid (Row.new W1 105 #[.bool true, .bool true, .bool true, .bool (uI op)])
  have HX2 := Lib.hid (HX1.out.alloc (.cells #[.bool true, .bool true, .bool true, .bool (uI op)] 105))
  have hg2 : Grew W1 (W1.alloc (.cells #[.bool true, .bool true, .bool true, .bool (uI op)] 105)) := (Grew.refl _).alloc _
  have HB2 := Lib.hid (HB1.out.grew hg2)
  have HA2 := Lib.hid (HA1.out.trans (AK.grew hg2 (by omega)))
  have hz2 : W1.heap.size < (W1.alloc (.cells #[.bool true, .bool true, .bool true, .bool (uI op)] 105)).heap.size := by simp
  clear HX1 HB1 HA1 hg2
  generalize (W1.alloc (.cells #[.bool true, .bool true, .bool true, .bool (uI op)] 105)) = W2 at *
  have c0 := HX2.out.k0; have c4 := HX2.out.k4
  go_upto_region 3 with fail
  have HO : Hid (OB w base p w.heap.size W1.heap.size W2.heap.size #[.int .i64 op, .int .i64 d, .int .i64 a, .int .i64 b, .int .i64 imm] #[.bool true, .bool true, .bool true, .bool (uI op)] #[.int .i64 op, .int .i64 0, .int .i64 0, .int .i64 0, .int .i64 imm, .int .i64 0, .int .i64 0] l (W2.alloc (.cells #[.int .i64 op, .int .i64 0, .int .i64 0, .int .i64 0, .int .i64 imm, .int .i64 0, .int .i64 0] 69))) :=
    ⟨⟨_, _, HB2.out.grew ((Grew.refl _).alloc _), fun k hk => by have := (ownS_lt HB2.out.own k hk).2; omega⟩, HX2.out.alloc _, HS1.out.alloc _, Row.new _ _ _, by omega, HA2.out.trans (AK.grew ((Grew.refl _).alloc _) (by omega)), hp, by omega⟩
  have hwm : w.heap.size ≤ W2.heap.size := by omega
  clear HX2 HB2 HA2 HS1 c0 c4
  generalize (W2.alloc (.cells #[.int .i64 op, .int .i64 0, .int .i64 0, .int .i64 0, .int .i64 imm, .int .i64 0, .int .i64 0] 69)) = W3 at *
  generalize W2.heap.size = mb at *
  generalize W1.heap.size = sb at *
  generalize hxb : w.heap.size = xb at *
  clear hz0 hz1 hz2
  have s1 := HO.out.s.k1
  go_upto_region 4 with fail
  have a3 := HO.out.x.k2
  go_wp2_with fail
  refine (CA.out _).mono ?_
  rintro e V3 ⟨rfl, hg⟩
  have HO3 := Lib.hid (HO.out.grew hg)
  clear HO hg a3
  have hs := sees_new V3 #[.int .i64 18, .int .i64 0, .int .i64 0, .int .i64 0, .int .i64 0, .int .i64 (0), .int .i64 (2 * a + 1)] 69
  have C9 := Lib.hid (add_ob (HO3.out.alloc (.cells #[.int .i64 18, .int .i64 0, .int .i64 0, .int .i64 0, .int .i64 0, .int .i64 (0), .int .i64 (2 * a + 1)] 69)) [ldM 0 a] 1 hs (by simp only [List.length_append, List.length_cons, List.length_nil]; omega))
  clear hs HO3
  go_wp2_with fail
  refine C9.out.mono ?_
  rintro e W4 ⟨rfl, hob⟩
  have HO := Lib.hid hob
  clear hob C9
  have s2 := HO.out.s.k2
  go_upto_region 6 with fail
  have m3 := HO.out.m.k3; have f3 := HO.out.m.frozen 3
  go_upto_region 7 with fail
  have HOP := Lib.hid (HO.out.put 3 (.int .i64 1) (by omega))
  clear HO m3 f3
  have HO := HOP
  clear HOP
  generalize (World.setCell _ ⟨mb, 3, none⟩ (.int .i64 1)) = W5 at *
  have a5 := HO.out.x.k3
  go_wp2_with fail
  refine (CB.out _).mono ?_
  rintro e V5 ⟨rfl, hg⟩
  have HO5 := Lib.hid (HO.out.grew hg)
  clear HO hg a5
  have hs := sees_new V5 #[.int .i64 18, .int .i64 0, .int .i64 0, .int .i64 0, .int .i64 0, .int .i64 (2), .int .i64 (2 * b + 1)] 69
  have C9 := Lib.hid (add_ob (HO5.out.alloc (.cells #[.int .i64 18, .int .i64 0, .int .i64 0, .int .i64 0, .int .i64 0, .int .i64 (2), .int .i64 (2 * b + 1)] 69)) [ldM 1 b] 1 hs (by simp only [List.length_append, List.length_cons, List.length_nil]; omega))
  clear hs HO5
  go_wp2_with fail
  refine C9.out.mono ?_
  rintro e W6 ⟨rfl, hob⟩
  have HO := Lib.hid hob
  clear hob C9
  have m0 := HO.out.m.k0; have m1 := HO.out.m.k1; have m2 := HO.out.m.k2; have m3 := HO.out.m.k3; have m4 := HO.out.m.k4; have m5 := HO.out.m.k5; have m6 := HO.out.m.k6
  go_upto_region 8 with fail
  have a6 := True.intro
  have HO6 := HO
  clear HO
  have hs := sees_new W6 #[.int .i64 op, .int .i64 0, .int .i64 0, .int .i64 1, .int .i64 imm, .int .i64 0, .int .i64 0] 69
  have C9 := Lib.hid (add_ob (HO6.out.alloc (.cells #[.int .i64 op, .int .i64 0, .int .i64 0, .int .i64 1, .int .i64 imm, .int .i64 0, .int .i64 0] 69)) [⟨op, 0, 0, 1, imm, 0, 0⟩] 1 hs (by simp only [List.length_append, List.length_cons, List.length_nil]; omega))
  clear hs HO6
  go_wp2_with fail
  refine C9.out.mono ?_
  rintro e W7 ⟨rfl, hob⟩
  have HO := Lib.hid hob
  clear hob C9
  have s0 := HO.out.s.k0
  go_upto_region 10 with fail
  have a7 := HO.out.x.k1
  go_wp2_with fail
  refine (CD.out _).mono ?_
  rintro e V7 ⟨rfl, hg⟩
  have HO7 := Lib.hid (HO.out.grew hg)
  clear HO hg a7
  have hs := sees_new V7 #[.int .i64 18, .int .i64 0, .int .i64 0, .int .i64 0, .int .i64 0, .int .i64 (2 * d + 1), .int .i64 (0)] 69
  have C9 := Lib.hid (add_ob (HO7.out.alloc (.cells #[.int .i64 18, .int .i64 0, .int .i64 0, .int .i64 0, .int .i64 0, .int .i64 (2 * d + 1), .int .i64 (0)] 69)) [stM d] 1 hs (by simp only [List.length_append, List.length_cons, List.length_nil]; omega))
  clear hs HO7
  go_wp2_with fail
  refine C9.out.mono ?_
  rintro e W8 ⟨rfl, hob⟩
  have HO := Lib.hid hob
  clear hob C9
  go_wp2
  first | go_end0 | refine bodyPost_ret (results_none rfl _ _ _) rfl ?_
  obtain ⟨A9, c9, hb9, _⟩ := HO.out.bd
  refine ⟨rfl, ⟨A9, c9, ?_⟩, HO.out.ak⟩
  have e9 : l ++ [ldM 0 a] ++ [ldM 1 b] ++ [⟨op, 0, 0, 1, imm, 0, 0⟩] ++ [stM d] = l ++ [ldM 0 a, ldM 1 b, ⟨op, 0, 0, 1, imm, 0, 0⟩, stM d] := by simp only [List.append_assoc, List.cons_append, List.nil_append]
  rw [e9] at hb9
  exact hb9

set_option maxRecDepth 100000 in
set_option maxHeartbeats 4000000 in
theorem addop22_E {w : World} {base p : Nat} {A : Option Addr} {c : Nat} {l : List Mi} (h : BD w base p A c l) (hp : base ≤ p) (op d a b imm : Int) (ha : 0 ≤ a ∧ a ≤ 1000000) (hm : l.length + 4 ≤ 1000000) (hA : uA op = true) (hB : uB op = false) (hD : uD op = false) :
    Calls Try.prog 43 #[.pointer (some ⟨p, 0, none⟩), .agg #[.int .i64 op, .int .i64 d, .int .i64 a, .int .i64 b, .int .i64 imm]] w fun e w' => e = .returned (.tuple #[]) ∧ (∃ A' c', BD w' base p A' c' (l ++ [ldM 0 a, ⟨op, 0, 0, 0, imm, 0, 0⟩])) ∧ AK base w w' := by
  have CO := Lib.hid fun W => of_any op W
  unfold shp at CO
  rw [hA, hB, hD] at CO
  have CA := Lib.hid fun W => load22 0 a 0 W rfl (by omega) ha
  have hbw : base ≤ w.heap.size := Nat.le_trans hp (Nat.le_of_lt h.row.lt)
  have hpw := h.row.lt
  have HG0 : Hid (Grew w (w.alloc (.cells #[.int .i64 op, .int .i64 d, .int .i64 a, .int .i64 b, .int .i64 imm] 62))) := (Grew.refl w).alloc _
  have HX := Lib.hid (Row.new w 62 #[.int .i64 op, .int .i64 d, .int .i64 a, .int .i64 b, .int .i64 imm])
  have HH := Lib.hid h
  have hz0 : w.heap.size < (w.alloc (.cells #[.int .i64 op, .int .i64 d, .int .i64 a, .int .i64 b, .int .i64 imm] 62)).heap.size := by simp
  clear h hA hB hD
  go_enter Try.func43, Try.ntmps43
  go_upto_region 1 with fail
  generalize (w.alloc (.cells #[.int .i64 op, .int .i64 d, .int .i64 a, .int .i64 b, .int .i64 imm] 62)) = W0 at *
  have c0 := HX.out.k0
  go_wp2_with fail
  refine (CO.out _).mono ?_
  rintro e W1 ⟨rfl, hb1⟩
  have hz1 := hb1.size
  have HX1 := Lib.hid (HX.out.below hb1 HX.out.lt)
  have HB1 := Lib.hid ((HH.out.grew HG0.out).next hb1)
  have HA1 := Lib.hid ((AK.grew HG0.out hbw).trans (AK.of_below hb1 (by omega)))
  clear HX HH HG0 CO c0 hb1
  go_upto_region 2 with fail
  have HS1 := Lib.hid (Row.new W1 105 #[.bool false, .bool true, .bool false, .bool (uI op)])
  have HX2 := Lib.hid (HX1.out.alloc (.cells #[.bool false, .bool true, .bool false, .bool (uI op)] 105))
  have hg2 : Grew W1 (W1.alloc (.cells #[.bool false, .bool true, .bool false, .bool (uI op)] 105)) := (Grew.refl _).alloc _
  have HB2 := Lib.hid (HB1.out.grew hg2)
  have HA2 := Lib.hid (HA1.out.trans (AK.grew hg2 (by omega)))
  have hz2 : W1.heap.size < (W1.alloc (.cells #[.bool false, .bool true, .bool false, .bool (uI op)] 105)).heap.size := by simp
  clear HX1 HB1 HA1 hg2
  generalize (W1.alloc (.cells #[.bool false, .bool true, .bool false, .bool (uI op)] 105)) = W2 at *
  have c0 := HX2.out.k0; have c4 := HX2.out.k4
  go_upto_region 3 with fail
  have HO : Hid (OB w base p w.heap.size W1.heap.size W2.heap.size #[.int .i64 op, .int .i64 d, .int .i64 a, .int .i64 b, .int .i64 imm] #[.bool false, .bool true, .bool false, .bool (uI op)] #[.int .i64 op, .int .i64 0, .int .i64 0, .int .i64 0, .int .i64 imm, .int .i64 0, .int .i64 0] l (W2.alloc (.cells #[.int .i64 op, .int .i64 0, .int .i64 0, .int .i64 0, .int .i64 imm, .int .i64 0, .int .i64 0] 69))) :=
    ⟨⟨_, _, HB2.out.grew ((Grew.refl _).alloc _), fun k hk => by have := (ownS_lt HB2.out.own k hk).2; omega⟩, HX2.out.alloc _, HS1.out.alloc _, Row.new _ _ _, by omega, HA2.out.trans (AK.grew ((Grew.refl _).alloc _) (by omega)), hp, by omega⟩
  have hwm : w.heap.size ≤ W2.heap.size := by omega
  clear HX2 HB2 HA2 HS1 c0 c4
  generalize (W2.alloc (.cells #[.int .i64 op, .int .i64 0, .int .i64 0, .int .i64 0, .int .i64 imm, .int .i64 0, .int .i64 0] 69)) = W3 at *
  generalize W2.heap.size = mb at *
  generalize W1.heap.size = sb at *
  generalize hxb : w.heap.size = xb at *
  clear hz0 hz1 hz2
  have s1 := HO.out.s.k1
  go_upto_region 4 with fail
  have a3 := HO.out.x.k2
  go_wp2_with fail
  refine (CA.out _).mono ?_
  rintro e V3 ⟨rfl, hg⟩
  have HO3 := Lib.hid (HO.out.grew hg)
  clear HO hg a3
  have hs := sees_new V3 #[.int .i64 18, .int .i64 0, .int .i64 0, .int .i64 0, .int .i64 0, .int .i64 (0), .int .i64 (2 * a + 1)] 69
  have C9 := Lib.hid (add_ob (HO3.out.alloc (.cells #[.int .i64 18, .int .i64 0, .int .i64 0, .int .i64 0, .int .i64 0, .int .i64 (0), .int .i64 (2 * a + 1)] 69)) [ldM 0 a] 1 hs (by simp only [List.length_append, List.length_cons, List.length_nil]; omega))
  clear hs HO3
  go_wp2_with fail
  refine C9.out.mono ?_
  rintro e W4 ⟨rfl, hob⟩
  have HO := Lib.hid hob
  clear hob C9
  have s2 := HO.out.s.k2
  have m0 := HO.out.m.k0; have m1 := HO.out.m.k1; have m2 := HO.out.m.k2; have m3 := HO.out.m.k3; have m4 := HO.out.m.k4; have m5 := HO.out.m.k5; have m6 := HO.out.m.k6
  go_upto_region 8 with fail
  have a4 := True.intro
  have HO4 := HO
  clear HO
  have hs := sees_new W4 #[.int .i64 op, .int .i64 0, .int .i64 0, .int .i64 0, .int .i64 imm, .int .i64 0, .int .i64 0] 69
  have C9 := Lib.hid (add_ob (HO4.out.alloc (.cells #[.int .i64 op, .int .i64 0, .int .i64 0, .int .i64 0, .int .i64 imm, .int .i64 0, .int .i64 0] 69)) [⟨op, 0, 0, 0, imm, 0, 0⟩] 1 hs (by simp only [List.length_append, List.length_cons, List.length_nil]; omega))
  clear hs HO4
  go_wp2_with fail
  refine C9.out.mono ?_
  rintro e W5 ⟨rfl, hob⟩
  have HO := Lib.hid hob
  clear hob C9
  have s0 := HO.out.s.k0
  go_wp2
  first | go_end0 | refine bodyPost_ret (results_none rfl _ _ _) rfl ?_
  obtain ⟨A9, c9, hb9, _⟩ := HO.out.bd
  refine ⟨rfl, ⟨A9, c9, ?_⟩, HO.out.ak⟩
  have e9 : l ++ [ldM 0 a] ++ [⟨op, 0, 0, 0, imm, 0, 0⟩] = l ++ [ldM 0 a, ⟨op, 0, 0, 0, imm, 0, 0⟩] := by simp only [List.append_assoc, List.cons_append, List.nil_append]
  rw [e9] at hb9
  exact hb9

end Go.Proofs.Ytcoehkphdfejjaa

/-
  Spilled blocks: sizes, Block.
-/
namespace Go.Proofs.Ytcoehkphdfejjaa
open Go.RowKit
set_option linter.unusedVariables false
set_option linter.unusedSimpArgs false

/-- What valid instructions and terminators are, with numbers that fit. -/
def In22 (x : In) : Prop := (1 ≤ x.op ∧ x.op ≤ 17) ∧ (uA x.op = true → 0 ≤ x.a ∧ x.a ≤ 1000000) ∧ (uB x.op = true → 0 ≤ x.b ∧ x.b ≤ 1000000) ∧ (uD x.op = true → 0 ≤ x.d ∧ x.d ≤ 1000000)

def Tm22 (t : Tm) : Prop := t.kind = 1 ∨ ((t.kind = 2 ∨ t.kind = 3) ∧ 0 ≤ t.a ∧ t.a ≤ 1000000)

theorem in22_of {x : In} {r : Int} (h : eI x r = 0) (hr : r ≤ 1000000) : In22 x := by
  obtain ⟨h1, h2, h3, h4, _⟩ := eI_of h
  exact ⟨h1, fun k => by have := h3 k; omega, fun k => by have := h4 k; omega, fun k => by have := h2 k; omega⟩

theorem tm22_of {t : Tm} {r n : Int} (h : eT t r n = 0) (hr : r ≤ 1000000) : Tm22 t := by
  rcases eT_of h with ⟨h1, _⟩ | ⟨h1, h2, h3⟩
  · exact .inl h1
  · exact .inr ⟨h1, h2, by omega⟩

theorem addop22 {w : World} {base p : Nat} {A : Option Addr} {c : Nat} {l : List Mi} (h : BD w base p A c l) (hp : base ≤ p) (op d a b imm : Int) (hx : In22 ⟨op, d, a, b, imm⟩) (h2 : op ≠ 2) (hm : l.length + 4 ≤ 1000000) :
    Calls Try.prog 43 #[.pointer (some ⟨p, 0, none⟩), .agg #[.int .i64 op, .int .i64 d, .int .i64 a, .int .i64 b, .int .i64 imm]] w fun e w' => e = .returned (.tuple #[]) ∧ (∃ A' c', BD w' base p A' c' (l ++ spO ⟨op, d, a, b, imm⟩)) ∧ AK base w w' := by
  obtain ⟨ho, ha, hb, hd⟩ := hx
  dsimp only at ho ha hb hd
  have tr : ∀ {p : Prop} [Decidable p], p → decide p = true := fun h => decide_eq_true h
  have fl : ∀ {p : Prop} [Decidable p], ¬ p → decide p = false := fun h => decide_eq_false h
  rcases (by omega : op = 1 ∨ (3 ≤ op ∧ op ≤ 4) ∨ (5 ≤ op ∧ op ≤ 16) ∨ op = 17) with q | q | q | q
  · have eA : uA op = false := fl (by omega)
    have eB : uB op = false := fl (by omega)
    have eD : uD op = true := tr (by omega)
    have e : spO ⟨op, d, a, b, imm⟩ = [⟨op, 0, 0, 0, imm, 0, 0⟩, stM d] := by unfold spO spA spBb spD opM; dsimp only; rw [eA, eB, eD]; rfl
    rw [e]
    exact addop22_C h hp op d a b imm (hd eD) hm eA eB eD
  · have eA : uA op = true := tr (by omega)
    have eB : uB op = false := fl (by omega)
    have eD : uD op = true := tr (by omega)
    have e : spO ⟨op, d, a, b, imm⟩ = [ldM 0 a, ⟨op, 0, 0, 0, imm, 0, 0⟩, stM d] := by unfold spO spA spBb spD opM; dsimp only; rw [eA, eB, eD]; rfl
    rw [e]
    exact addop22_U h hp op d a b imm (ha eA) (hd eD) hm eA eB eD
  · have eA : uA op = true := tr (by omega)
    have eB : uB op = true := tr (by omega)
    have eD : uD op = true := tr (by omega)
    have e : spO ⟨op, d, a, b, imm⟩ = [ldM 0 a, ldM 1 b, ⟨op, 0, 0, 1, imm, 0, 0⟩, stM d] := by unfold spO spA spBb spD opM; dsimp only; rw [eA, eB, eD]; rfl
    rw [e]
    exact addop22_B h hp op d a b imm (ha eA) (hb eB) (hd eD) hm eA eB eD
  · have eA : uA op = true := tr (by omega)
    have eB : uB op = false := fl (by omega)
    have eD : uD op = false := fl (by omega)
    have e : spO ⟨op, d, a, b, imm⟩ = [ldM 0 a, ⟨op, 0, 0, 0, imm, 0, 0⟩] := by unfold spO spA spBb spD opM; dsimp only; rw [eA, eB, eD]; rfl
    rw [e]
    exact addop22_E h hp op d a b imm (ha eA) hm eA eB eD

set_option maxRecDepth 100000 in
set_option maxHeartbeats 1000000 in
theorem usesa22 (k a tt el : Int) (w : World) :
    Calls Try.prog 44 #[.agg #[.int .i64 k, .int .i64 a, .int .i64 tt, .int .i64 el]] w fun e w' => e = .returned (.bool (k == 2 || k == 3)) ∧ Grew w w' := by
  have HX := Lib.hid (Row.new w 43 #[.int .i64 k, .int .i64 a, .int .i64 tt, .int .i64 el])
  have HG : Hid (Grew w (w.alloc (.cells #[.int .i64 k, .int .i64 a, .int .i64 tt, .int .i64 el] 43))) := (Grew.refl w).alloc _
  cases h2 : (k == 2)
  · cases h3 : (k == 3)
    all_goals
      go_enter Try.func44, Try.ntmps44
      go_upto_region 1 with fail
      generalize (w.alloc (.cells #[.int .i64 k, .int .i64 a, .int .i64 tt, .int .i64 el] 43)) = W0 at *
      have c0 := HX.out.k0
      go_wp2
      go_ret
      exact ⟨rfl, HG.out⟩
  · go_enter Try.func44, Try.ntmps44
    go_upto_region 1 with fail
    generalize (w.alloc (.cells #[.int .i64 k, .int .i64 a, .int .i64 tt, .int .i64 el] 43)) = W0 at *
    have c0 := HX.out.k0
    go_wp2
    go_ret
    exact ⟨rfl, HG.out⟩

set_option maxRecDepth 100000 in
set_option maxHeartbeats 1000000 in
theorem isize22 (op d a b imm : Int) (w : World) :
    Calls Try.prog 57 #[.agg #[.int .i64 op, .int .i64 d, .int .i64 a, .int .i64 b, .int .i64 imm]] w fun e w' => (∃ n : Nat, n ≤ 4 ∧ e = .returned (.int .i64 (n : Int))) ∧ Below w.heap.size w w' := by
  have HX := Lib.hid (Row.new w 62 #[.int .i64 op, .int .i64 d, .int .i64 a, .int .i64 b, .int .i64 imm])
  have HG : Hid (Grew w (w.alloc (.cells #[.int .i64 op, .int .i64 d, .int .i64 a, .int .i64 b, .int .i64 imm] 62))) := (Grew.refl w).alloc _
  by_cases h2 : op = 2
  · have e2 : (op == 2) = true := by rw [h2]; rfl
    clear h2
    go_enter Try.func57, Try.ntmps57
    go_upto_region 1 with fail
    generalize (w.alloc (.cells #[.int .i64 op, .int .i64 d, .int .i64 a, .int .i64 b, .int .i64 imm] 62)) = W0 at *
    have c0 := HX.out.k0
    go_wp2
    go_ret
    exact ⟨⟨2, by omega, rfl⟩, HG.out.below⟩
  · have e2 : (op == 2) = false := by simp [h2]
    obtain ⟨q, hq⟩ : ∃ q, opn op = q := ⟨_, rfl⟩
    have hq2 : q ≤ 2 := by rw [← hq]; unfold opn; split <;> split <;> omega
    have CP := Lib.hid fun W => operands_any op W
    rw [hq] at CP
    clear h2 hq
    cases hu : uD op
    all_goals
      have CO := Lib.hid fun W => of_any op W
      unfold shp at CO
      rw [hu] at CO
      clear hu
      go_enter Try.func57, Try.ntmps57
      go_upto_region 1 with fail
      generalize (w.alloc (.cells #[.int .i64 op, .int .i64 d, .int .i64 a, .int .i64 b, .int .i64 imm] 62)) = W0 at *
      have c0 := HX.out.k0
      go_upto_region 3 with fail
      go_wp2_with fail
      refine (CP.out _).mono ?_
      rintro e W1 ⟨rfl, hb1⟩
      have HX1 := Lib.hid (HX.out.below hb1 HX.out.lt)
      have HB1 := Lib.hid (HG.out.below.trans (hb1.mono HG.out.below.size))
      clear hb1 c0 CP
      have c0 := HX1.out.k0
      go_wp2_with fail
      refine (CO.out _).mono ?_
      rintro e W2 ⟨rfl, hb2⟩
      have HB2 := Lib.hid (HB1.out.trans (hb2.mono HB1.out.size))
      clear hb2 c0 CO
      go_wp2
      go_ret
      first | exact ⟨⟨1 + q, by omega, by go_num⟩, HB2.out.trans (((Grew.refl W2).alloc _).below.mono HB2.out.size)⟩ | exact ⟨⟨1 + q + 1, by omega, by go_num⟩, HB2.out.trans (((Grew.refl W2).alloc _).below.mono HB2.out.size)⟩

set_option maxRecDepth 100000 in
set_option maxHeartbeats 2000000 in
theorem size22 (A : Option Addr) (x : Blk) (c : Nat) (w : World) (hs : InsAt w w.heap.size A x.code) (hm : x.code.length ≤ 1000) (ht : Tm22 x.term) :
    Calls Try.prog 41 #[.agg #[.slice A x.code.length c, .int .i64 x.term.kind, .int .i64 x.term.a, .int .i64 x.term.to, .int .i64 x.term.el]] w fun e w' => (∃ n : Nat, n ≤ 4 * x.code.length + 1 ∧ e = .returned (.int .i64 (n : Int))) ∧ Below w.heap.size w w' := by
  obtain ⟨xs, ⟨k, ta, tt, el⟩⟩ := x
  dsimp only at *
  have HX := Lib.hid (Row.new w 45 #[.slice A xs.length c, .int .i64 k, .int .i64 ta, .int .i64 tt, .int .i64 el])
  have HG : Hid (Grew w (w.alloc (.cells #[.slice A xs.length c, .int .i64 k, .int .i64 ta, .int .i64 tt, .int .i64 el] 45))) := (Grew.refl w).alloc _
  have CU := Lib.hid fun W => usesa22 k ta tt el W
  clear ht
  go_enter Try.func41, Try.ntmps41
  go_upto_region 1 with fail
  have hw0 : w.heap.size < (w.alloc (.cells #[.slice A xs.length c, .int .i64 k, .int .i64 ta, .int .i64 tt, .int .i64 el] 45)).heap.size := by simp
  generalize (w.alloc (.cells #[.slice A xs.length c, .int .i64 k, .int .i64 ta, .int .i64 tt, .int .i64 el] 45)) = W0 at *
  have c0 := HX.out.k0
  go_upto_region 3 with fail
  go_loopg [3, 9] xs.length (fun g v3 v9 wr => ∃ i n : Nat, i + g = xs.length ∧ v9 = .int .i64 (i : Int) ∧ v3 = .int .i64 (n : Int) ∧ n ≤ 4 * i ∧ Hid (Below W0.heap.size W0 wr))
  case atStart => exact ⟨0, 0, by omega, by go_num, by go_num, by omega, Below.refl _ _⟩
  case round =>
    obtain ⟨i, n, hg, rfl, rfl, hn, HB⟩ := hrel
    clear c0
    by_cases hlt : i < xs.length
    · obtain ⟨b', o, rfl, hb, hx⟩ := hs.at_ hlt
      have hbb : ∀ q, wr.cell? ⟨b', q, none⟩ = w.cell? ⟨b', q, none⟩ := fun q => (HB.out.cell (p := ⟨b', q, none⟩) (show b' < _ by omega)).trans (HG.out.below.cell (p := ⟨b', q, none⟩) hb)
      generalize xs[i] = x at *
      obtain ⟨op, d, a, b, imm⟩ := x
      have f0 := (hbb _).trans hx.c0; have f1 := (hbb _).trans hx.c1; have f2 := (hbb _).trans hx.c2; have f3 := (hbb _).trans hx.c3; have f4 := (hbb _).trans hx.c4
      dsimp only at f0 f1 f2 f3 f4
      clear hbb hx
      have hkz : (i : Int) < (xs.length : Int) := by omega
      go_upto_region 5 with fail
      have HX5 := Lib.hid (Row.new wr 62 #[.int .i64 op, .int .i64 d, .int .i64 a, .int .i64 b, .int .i64 imm])
      have HB5 : Hid (Below W0.heap.size W0 (wr.alloc (.cells #[.int .i64 op, .int .i64 d, .int .i64 a, .int .i64 b, .int .i64 imm] 62))) := HB.out.alloc HB.out.size _
      clear f0 f1 f2 f3 f4 HB
      generalize (wr.alloc (.cells #[.int .i64 op, .int .i64 d, .int .i64 a, .int .i64 b, .int .i64 imm] 62)) = W5 at *
      generalize wr.heap.size = xb at *
      have f0 := HX5.out.k0; have f1 := HX5.out.k1; have f2 := HX5.out.k2; have f3 := HX5.out.k3; have f4 := HX5.out.k4
      go_wp2_with fail
      refine (isize22 op d a b imm _).mono ?_
      rintro e W6 ⟨⟨m, hm4, rfl⟩, hb6⟩
      have HB6 := Lib.hid (HB5.out.trans (hb6.mono HB5.out.size))
      clear hb6 HB5 f0 f1 f2 f3 f4 HX5
      go_wp2
      go_roundg (xs.length - (i + 1))
      case measure => omega
      case rel => exact ⟨i + 1, n + m, by omega, by go_num, by go_num, by omega, HB6.out⟩
    · have hkz : ¬ (i : Int) < (xs.length : Int) := by omega
      have HX1 := Lib.hid (HX.out.below HB.out hw0)
      have HB1 := Lib.hid (HG.out.below.trans (HB.out.mono (Nat.le_of_lt hw0)))
      clear HB
      have c1 := HX1.out.k1; have c2 := HX1.out.k2; have c3 := HX1.out.k3; have c4 := HX1.out.k4
      go_upto_region 7 with fail
      go_wp2_with fail
      refine (CU.out _).mono ?_
      rintro e W6 ⟨rfl, hg6⟩
      have HB6 := Lib.hid (HB1.out.trans (hg6.below.mono HB1.out.size))
      clear hg6 HB1 CU
      cases hu : (k == 2 || k == 3)
      all_goals
        go_wp2
        go_ret
        first | exact ⟨⟨n, by omega, by go_num⟩, HB6.out⟩ | exact ⟨⟨n + 1, by omega, by go_num⟩, HB6.out⟩

end Go.Proofs.Ytcoehkphdfejjaa

/-
  Spilled blocks: Block, the longest run of moves.
-/
namespace Go.Proofs.Ytcoehkphdfejjaa
open Go.RowKit
set_option linter.unusedVariables false
set_option linter.unusedSimpArgs false

/-- What Block carries. -/
structure BL (w : World) (p b1 b2 : Nat) (r1 r2 : Array Value) (l : List Mi) (W : World) : Prop where
  bd : ∃ A c, BD W w.heap.size p A c l
  x1 : Row W b1 45 r1
  x2 : Row W b2 49 r2
  ak : AK w.heap.size w W
  hp : w.heap.size ≤ p

section
variable {w W W' : World} {p b1 b2 : Nat} {r1 r2 : Array Value} {l l' : List Mi}

theorem BL.step (h : BL w p b1 b2 r1 r2 l W) (hb : ∃ A c, BD W' w.heap.size p A c l') (hk : AK w.heap.size W W') : BL w p b1 b2 r1 r2 l' W' :=
  ⟨hb, hk.ty _ _ _ (by decide) (by decide) h.x1, hk.ty _ _ _ (by decide) (by decide) h.x2, h.ak.trans hk, h.hp⟩

theorem BL.next (h : BL w p b1 b2 r1 r2 l W) (hb : Below W.heap.size W W') : BL w p b1 b2 r1 r2 l W' := by
  obtain ⟨A, c, h1⟩ := h.bd
  exact h.step ⟨A, c, h1.next hb⟩ (AK.of_below hb h.ak.old.size)

theorem BL.grew (h : BL w p b1 b2 r1 r2 l W) (hb : Grew W W') : BL w p b1 b2 r1 r2 l W' := h.next hb.below

theorem BL.alloc (h : BL w p b1 b2 r1 r2 l W) (o : Obj) : BL w p b1 b2 r1 r2 l (W.alloc o) := h.grew ((Grew.refl W).alloc o)

end

theorem make_mi22 (n : Nat) (hn : n ≤ 1048576) : ∃ Z : Array Value, Z.size = n * 7 ∧ ∀ w, (Instr.makeSlice 47 (.int .i64 0) (.int .i64 (n : Int))).run Try.prog w = .ok (.slice (some ⟨w.heap.size, 0, none⟩) 0 n) (w.alloc (.cells Z 69)) := by
  obtain ⟨i, hi, hz, hs, hb⟩ := info_parts infoMi
  refine ⟨madeCells (Value.agg #[.int .i64 0, .int .i64 0, .int .i64 0, .int .i64 0, .int .i64 0, .int .i64 0, .int .i64 0]).cells (n * i.size), ?_, fun w => ?_⟩
  · rw [size_madeCells, hs]
  · have := run_make (P := Try.prog) w _ _ i _ Try.underlying47 hi hz .i64 .i64 0 n (by decide) (by omega) (by rw [hb]; omega) (by omega)
    simpa using this

theorem BL.new {w W : World} {b1 b2 : Nat} {r1 r2 : Array Value} (x1 : Row W b1 45 r1) (x2 : Row W b2 49 r2) (hb : Below w.heap.size w W) (n : Nat) (Z : Array Value) (hZ : Z.size = n * 7) (hn : n ≤ 1048576) :
    BL w (W.alloc (.cells Z 69)).heap.size b1 b2 r1 r2 [] ((W.alloc (.cells Z 69)).alloc (.cells #[.slice (some ⟨W.heap.size, 0, none⟩) 0 n] 86)) := by
  have hs := hb.size
  refine ⟨⟨some ⟨W.heap.size, 0, none⟩, n, Row.new _ _ _, ?_⟩, (x1.alloc _).alloc _, (x2.alloc _).alloc _, ?_, by simp; omega⟩
  · refine (Mods.of_below (S := No) ((Below.refl _ _).alloc (Nat.le_refl _) _)).ownS (w := W.alloc (.cells Z 69)) ?_ fun _ _ h => h
    exact ⟨by simp, .inr ⟨W.heap.size, n, Z, rfl, hs, heap_alloc_new W _, Nat.zero_le _, by unfold maxLen; omega, hZ, by simp⟩⟩
  · exact AK.of_below ((hb.alloc hs _).alloc (by simp; omega) _) (Nat.le_refl _)

set_option maxRecDepth 100000 in
set_option maxHeartbeats 4000000 in
theorem block22 (A : Option Addr) (x : Blk) (c : Nat) (w : World) (hs : InsAt w w.heap.size A x.code) (hm : x.code.length ≤ 1000) (ht : Tm22 x.term) (hx : ∀ i ∈ x.code, In22 i) :
    Calls Try.prog 21 #[.agg #[.slice A x.code.length c, .int .i64 x.term.kind, .int .i64 x.term.a, .int .i64 x.term.to, .int .i64 x.term.el]] w fun e w' => ∃ A' c', e = .returned (.agg #[.slice A' (spB x).code.length c', .int .i64 x.term.kind, .int .i64 0, .int .i64 x.term.to, .int .i64 x.term.el]) ∧
      w'.ownsRow w.heap.size 69 7 (.slice A' (spB x).code.length c') (spB x).code.length ((spB x).code.flatMap Mi.cells) ∧ Below w.heap.size w w' := by
  have CS := Lib.hid fun W (hb : Below w.heap.size w W) => size22 A x c W ((hs.below hb).more hb.size) hm ht
  have HSP : Hid (spB x = ⟨x.code.flatMap spI ++ spT x.term, { x.term with a := 0 }⟩) := rfl
  generalize spB x = sp at *
  obtain ⟨xs, ⟨k, ta, tt, el⟩⟩ := x
  have e1 := HSP.out
  subst e1
  clear HSP
  dsimp only at *
  have HX := Lib.hid ((Row.new w 45 #[.slice A xs.length c, .int .i64 k, .int .i64 ta, .int .i64 tt, .int .i64 el]).alloc (.cells #[.slice none 0 0, .int .i64 0, .int .i64 0, .int .i64 0, .int .i64 0] 49))
  have HY := Row.new (w.alloc (.cells #[.slice A xs.length c, .int .i64 k, .int .i64 ta, .int .i64 tt, .int .i64 el] 45)) 49 #[.slice none 0 0, .int .i64 0, .int .i64 0, .int .i64 0, .int .i64 0]
  rw [show (w.alloc (.cells #[.slice A xs.length c, .int .i64 k, .int .i64 ta, .int .i64 tt, .int .i64 el] 45)).heap.size = w.heap.size + 1 by simp] at HY
  have HY := Lib.hid HY
  have HG : Hid (Grew w ((w.alloc (.cells #[.slice A xs.length c, .int .i64 k, .int .i64 ta, .int .i64 tt, .int .i64 el] 45)).alloc (.cells #[.slice none 0 0, .int .i64 0, .int .i64 0, .int .i64 0, .int .i64 0] 49))) := ((Grew.refl w).alloc _).alloc _
  have CU := Lib.hid fun W => usesa22 k ta tt el W
  have HXS := Lib.hid hx
  have HTM := Lib.hid ht
  clear hx ht
  go_enter Try.func21, Try.ntmps21
  go_upto_region 1 with fail
  generalize ((w.alloc (.cells #[.slice A xs.length c, .int .i64 k, .int .i64 ta, .int .i64 tt, .int .i64 el] 45)).alloc (.cells #[.slice none 0 0, .int .i64 0, .int .i64 0, .int .i64 0, .int .i64 0] 49)) = W0 at *
  obtain ⟨b1, hb1⟩ : ∃ z, w.heap.size = z := ⟨_, rfl⟩
  obtain ⟨b2, hb2⟩ : ∃ z, w.heap.size + 1 = z := ⟨_, rfl⟩
  have h12 : b1 < b2 := by omega
  rw [hb1] at HX
  rw [hb2] at HY
  rw [hb2, hb1]
  have c0 := HX.out.k0; have c1 := HX.out.k1; have c2 := HX.out.k2; have c3 := HX.out.k3; have c4 := HX.out.k4
  go_wp2_with fail
  refine (CS.out _ HG.out.below).mono ?_
  rintro e W1 ⟨⟨n, hn, rfl⟩, hb⟩
  obtain ⟨Z, hZ, hmk⟩ := make_mi22 n (by omega)
  have HN := BL.new (HX.out.below hb HX.out.lt) (HY.out.below hb HY.out.lt) (HG.out.below.trans (hb.mono HG.out.below.size)) n Z hZ (by omega)
  have HBL := Lib.hid HN
  have hpz : (W1.alloc (.cells Z 69)).heap.size = W1.heap.size + 1 := by simp
  rw [hpz] at HBL
  clear HN hZ hb c0 c1 c2 c3 c4 HX HY HG CS
  go_upto_region 2 with fail
  clear hmk hpz
  generalize ((W1.alloc (.cells Z 69)).alloc (.cells #[.slice (some ⟨W1.heap.size, 0, none⟩) 0 n] 86)) = W2 at *
  generalize W1.heap.size + 1 = p at *
  have c0 := HBL.out.x1.k0
  go_upto_region 3 with fail
  go_loopg [14] xs.length (fun g v14 wr => ∃ i : Nat, i + g = xs.length ∧ v14 = .int .i64 (i : Int) ∧ Hid (BL w p b1 b2 #[.slice A xs.length c, .int .i64 k, .int .i64 ta, .int .i64 tt, .int .i64 el] #[.slice none 0 0, .int .i64 0, .int .i64 0, .int .i64 0, .int .i64 0] ((xs.take i).flatMap spI) wr))
  case atStart => exact ⟨0, by omega, by go_num, HBL.out⟩
  case round =>
    obtain ⟨i, hg, rfl, HB⟩ := hrel
    clear c0 HBL
    have hpl : ((xs.take i).flatMap spI).length ≤ 4000 := by
      have := spIs_len (xs.take i)
      rw [List.length_take] at this
      omega
    by_cases hlt : i < xs.length
    · obtain ⟨b', o, rfl, hb, hx⟩ := hs.at_ hlt
      have hin := HXS.out _ (List.getElem_mem hlt)
      have HT := Lib.hid (show xs.take (i + 1) = xs.take i ++ [xs[i]] from List.take_succ_eq_append_getElem hlt)
      have hbb : ∀ q, wr.cell? ⟨b', q, none⟩ = w.cell? ⟨b', q, none⟩ := fun q => HB.out.ak.old.cell (p := ⟨b', q, none⟩) hb
      generalize xs[i] = x at *
      generalize xs.take i = pre at *
      obtain ⟨op, d, a, b, imm⟩ := x
      have f0 := (hbb _).trans hx.c0; have f1 := (hbb _).trans hx.c1; have f2 := (hbb _).trans hx.c2; have f3 := (hbb _).trans hx.c3; have f4 := (hbb _).trans hx.c4
      dsimp only at f0 f1 f2 f3 f4
      clear hbb hx
      have hkz : (i : Int) < (xs.length : Int) := by omega
      go_upto_region 5 with fail
      have HX5 := Lib.hid (Row.new wr 62 #[.int .i64 op, .int .i64 d, .int .i64 a, .int .i64 b, .int .i64 imm])
      have HB5 := Lib.hid (HB.out.alloc (.cells #[.int .i64 op, .int .i64 d, .int .i64 a, .int .i64 b, .int .i64 imm] 62))
      clear f0 f1 f2 f3 f4 HB
      generalize (wr.alloc (.cells #[.int .i64 op, .int .i64 d, .int .i64 a, .int .i64 b, .int .i64 imm] 62)) = W5 at *
      generalize wr.heap.size = xb at *
      have f0 := HX5.out.k0; have f1 := HX5.out.k1; have f2 := HX5.out.k2; have f3 := HX5.out.k3; have f4 := HX5.out.k4
      obtain ⟨A5, c5, hbd⟩ := HB5.out.bd
      have HBD := Lib.hid hbd
      have HIN := Lib.hid hin
      clear hbd hin
      by_cases h2 : op = 2
      · have e2 : (op == 2) = true := by rw [h2]; rfl
        have C := Lib.hid (addcopy22 HBD.out HB5.out.hp op d a b imm (HIN.out.2.1 (by rw [h2]; rfl)) (HIN.out.2.2.2 (by rw [h2]; rfl)) (by omega))
        have HE := Lib.hid (show spI ⟨op, d, a, b, imm⟩ = [ldM 0 a, stM d] by unfold spI; rw [if_pos h2])
        clear h2
        go_upto_region 6 with fail
        go_wp2_with fail
        refine C.out.mono ?_
        rintro e W6 ⟨rfl, hbd, hak⟩
        have HB6 := Lib.hid (HB5.out.step hbd hak)
        clear hbd hak C HB5 HBD f0 f1 f2 f3 f4 HX5
        go_wp2
        go_roundg (xs.length - (i + 1))
        case measure => omega
        case rel => exact ⟨i + 1, by omega, by go_num, by
          show BL w p b1 b2 _ _ _ _
          rw [HT.out, List.flatMap_append, List.flatMap_cons, List.flatMap_nil, List.append_nil, HE.out]
          exact HB6.out⟩
      · have e2 : (op == 2) = false := by simp [h2]
        have C := Lib.hid (addop22 HBD.out HB5.out.hp op d a b imm HIN.out h2 (by omega))
        have HE := Lib.hid (show spI ⟨op, d, a, b, imm⟩ = spO ⟨op, d, a, b, imm⟩ by unfold spI; rw [if_neg h2])
        clear h2
        go_upto_region 7 with fail
        go_wp2_with fail
        refine C.out.mono ?_
        rintro e W6 ⟨rfl, hbd, hak⟩
        have HB6 := Lib.hid (HB5.out.step hbd hak)
        clear hbd hak C HB5 HBD f0 f1 f2 f3 f4 HX5
        go_wp2
        go_roundg (xs.length - (i + 1))
        case measure => omega
        case rel => exact ⟨i + 1, by omega, by go_num, by
          show BL w p b1 b2 _ _ _ _
          rw [HT.out, List.flatMap_append, List.flatMap_cons, List.flatMap_nil, List.append_nil, HE.out]
          exact HB6.out⟩
    · have hkz : ¬ (i : Int) < (xs.length : Int) := by omega
      have hk2 : xs.take i = xs := List.take_of_length_le (by omega)
      rw [hk2] at HB hpl
      have c0 := HB.out.x1.k0; have c1 := HB.out.x1.k1; have c2 := HB.out.x1.k2; have c3 := HB.out.x1.k3; have c4 := HB.out.x1.k4
      clear hk2
      go_upto_region 9 with fail
      go_wp2_with fail
      refine (CU.out _).mono ?_
      rintro e W3 ⟨rfl, hg3⟩
      have HB3 := Lib.hid (HB.out.grew hg3)
      clear hg3 HB CU c0 c1 c2 c3 c4 hs
      obtain ⟨ys, hys⟩ : ∃ z, xs.flatMap spI = z := ⟨_, rfl⟩
      rw [hys] at HB3 hpl
      have HYS := Lib.hid hys
      clear hys
      have c0 := HB3.out.x1.k0; have c1 := HB3.out.x1.k1; have c2 := HB3.out.x1.k2; have c3 := HB3.out.x1.k3; have c4 := HB3.out.x1.k4
      by_cases hk1 : k = 1
      · have hu : (k == 2 || k == 3) = false := by rw [hk1]; rfl
        have HE := Lib.hid (show xs.flatMap spI ++ spT ⟨k, ta, tt, el⟩ = ys by rw [HYS.out]; unfold spT; rw [if_pos hk1, List.append_nil])
        clear hk1
        simp only [hu]
        go_upto_region 11 with fail
        go_upto_region 13 with fail
        have H8 := Lib.hid (HB3.out.alloc (.cells #[.int .i64 k, .int .i64 0, .int .i64 tt, .int .i64 el] 43))
        have HT8 := Lib.hid (Row.new W3 43 #[.int .i64 k, .int .i64 0, .int .i64 tt, .int .i64 el])
        clear HB3 c0 c1 c2 c3 c4
        generalize (W3.alloc (.cells #[.int .i64 k, .int .i64 0, .int .i64 tt, .int .i64 el] 43)) = W8 at *
        generalize W3.heap.size = tb at *
        have t0 := HT8.out.k0; have t1 := HT8.out.k1; have t2 := HT8.out.k2; have t3 := HT8.out.k3
        obtain ⟨A7, c7, hbd7⟩ := H8.out.bd
        have p0 : W8.cell? ⟨p, 0, none⟩ = some (.slice A7 ys.length c7) := hbd7.row.cell 0
        have z0 := H8.out.x2.k0; have z1 := H8.out.x2.k1; have z2 := H8.out.x2.k2; have z3 := H8.out.x2.k3; have z4 := H8.out.x2.k4
        have f0 := H8.out.x2.frozen 0; have f1 := H8.out.x2.frozen 1; have f2 := H8.out.x2.frozen 2; have f3 := H8.out.x2.frozen 3; have f4 := H8.out.x2.frozen 4
        have HB7 := Lib.hid hbd7
        clear hbd7
        go_wp2
        refine bodyPost_ret (v := .agg #[.slice A7 ys.length c7, .int .i64 k, .int .i64 0, .int .i64 tt, .int .i64 el]) ?_ rfl ?_
        · exact results_cell_row rfl _ _ b2 49 #[.slice A7 ys.length c7, .int .i64 k, .int .i64 0, .int .i64 tt, .int .i64 el] (0, 0) _ rfl (Row.put5 H8.out.x2 _ _ _ _ _) Try.underlying49 rfl (by kernel_rfl)
        · have hM := mods5 W8 b2 (.slice A7 ys.length c7) (.int .i64 k) (.int .i64 0) (.int .i64 tt) (.int .i64 el)
          rw [HE.out]
          refine ⟨A7, c7, rfl, hM.ownS HB7.out.own (fun q hq e => own_row_neS HB7.out.own H8.out.x2 (by decide) q hq e), H8.out.ak.old.trans (hM.below H8.out.ak.old.size fun q hq => by unfold Is at hq; omega)⟩
      · have hu : (k == 2 || k == 3) = true := by
          rcases HTM.out with h | ⟨h | h, _⟩
          · exact absurd h hk1
          · have h : k = 2 := h
            rw [h]; rfl
          · have h : k = 3 := h
            rw [h]; rfl
        have hta : 0 ≤ ta ∧ ta ≤ 1000000 := by
          rcases HTM.out with h | ⟨_, h⟩
          · exact absurd h hk1
          · exact h
        have HE := Lib.hid (show xs.flatMap spI ++ spT ⟨k, ta, tt, el⟩ = ys ++ [ldM 0 ta] by rw [HYS.out]; unfold spT; rw [if_neg hk1])
        have CL := Lib.hid (load22 0 ta 0 W3 rfl (by omega) hta)
        clear hk1
        simp only [hu]
        go_upto_region 10 with fail
        go_wp2_with fail
        refine CL.out.mono ?_
        rintro e W4 ⟨rfl, hg4⟩
        have HB4 := Lib.hid (HB3.out.grew hg4)
        clear HB3 hg4 CL c0 c1 c2 c3 c4
        have hse := sees_new W4 #[.int .i64 18, .int .i64 0, .int .i64 0, .int .i64 0, .int .i64 0, .int .i64 0, .int .i64 (2 * ta + 1)] 69
        obtain ⟨A4, c4, hbd⟩ := (HB4.out.alloc (.cells #[.int .i64 18, .int .i64 0, .int .i64 0, .int .i64 0, .int .i64 0, .int .i64 0, .int .i64 (2 * ta + 1)] 69)).bd
        have C := Lib.hid (add22 hbd [ldM 0 ta] 1 hse HB4.out.hp (by simp only [List.length_cons, List.length_nil]; omega))
        clear hbd hse
        go_wp2_with fail
        refine C.out.mono ?_
        rintro e W6 ⟨rfl, ⟨A6, c6, hbd, _⟩, hak⟩
        have HB3 := Lib.hid ((HB4.out.alloc (.cells #[.int .i64 18, .int .i64 0, .int .i64 0, .int .i64 0, .int .i64 0, .int .i64 0, .int .i64 (2 * ta + 1)] 69)).step ⟨A6, c6, hbd⟩ hak)
        clear hbd hak C HB4
        obtain ⟨ys2, hy2⟩ : ∃ z, ys ++ [ldM 0 ta] = z := ⟨_, rfl⟩
        rw [hy2] at HB3 HE
        clear hy2
        have c0 := HB3.out.x1.k0; have c1 := HB3.out.x1.k1; have c2 := HB3.out.x1.k2; have c3 := HB3.out.x1.k3; have c4 := HB3.out.x1.k4
        go_upto_region 11 with fail
        go_upto_region 13 with fail
        have H8 := Lib.hid (HB3.out.alloc (.cells #[.int .i64 k, .int .i64 0, .int .i64 tt, .int .i64 el] 43))
        have HT8 := Lib.hid (Row.new W6 43 #[.int .i64 k, .int .i64 0, .int .i64 tt, .int .i64 el])
        clear HB3 c0 c1 c2 c3 c4
        generalize (W6.alloc (.cells #[.int .i64 k, .int .i64 0, .int .i64 tt, .int .i64 el] 43)) = W8 at *
        generalize W6.heap.size = tb at *
        have t0 := HT8.out.k0; have t1 := HT8.out.k1; have t2 := HT8.out.k2; have t3 := HT8.out.k3
        obtain ⟨A7, c7, hbd7⟩ := H8.out.bd
        have p0 : W8.cell? ⟨p, 0, none⟩ = some (.slice A7 ys2.length c7) := hbd7.row.cell 0
        have z0 := H8.out.x2.k0; have z1 := H8.out.x2.k1; have z2 := H8.out.x2.k2; have z3 := H8.out.x2.k3; have z4 := H8.out.x2.k4
        have f0 := H8.out.x2.frozen 0; have f1 := H8.out.x2.frozen 1; have f2 := H8.out.x2.frozen 2; have f3 := H8.out.x2.frozen 3; have f4 := H8.out.x2.frozen 4
        have HB7 := Lib.hid hbd7
        clear hbd7
        go_wp2
        refine bodyPost_ret (v := .agg #[.slice A7 ys2.length c7, .int .i64 k, .int .i64 0, .int .i64 tt, .int .i64 el]) ?_ rfl ?_
        · exact results_cell_row rfl _ _ b2 49 #[.slice A7 ys2.length c7, .int .i64 k, .int .i64 0, .int .i64 tt, .int .i64 el] (0, 0) _ rfl (Row.put5 H8.out.x2 _ _ _ _ _) Try.underlying49 rfl (by kernel_rfl)
        · have hM := mods5 W8 b2 (.slice A7 ys2.length c7) (.int .i64 k) (.int .i64 0) (.int .i64 tt) (.int .i64 el)
          rw [HE.out]
          refine ⟨A7, c7, rfl, hM.ownS HB7.out.own (fun q hq e => own_row_neS HB7.out.own H8.out.x2 (by decide) q hq e), H8.out.ak.old.trans (hM.below H8.out.ak.old.size fun q hq => by unfold Is at hq; omega)⟩

end Go.Proofs.Ytcoehkphdfejjaa
