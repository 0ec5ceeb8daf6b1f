/-
  The reference of layer 17: Number; results that are a number and a struct.
-/
import Derived.Test.YtacmgfndmolnfaaPk1
import Derived.Deep.WholeRow
import Derived.BigRegion
import Derived.Deep.Cut
import Derived.Deep.CutRange
namespace Go.Proofs.Ytacmgfndmolnfaa
open Go.RowKit
set_option linter.unusedVariables false
set_option linter.unusedSimpArgs false

theorem results_tmp_row {P : Program} {fn : Func} {t p : Tmp} {ty : TypeId} (h : fn.results = #[.tmp t, .cell p ty]) (tmps : Array Value) (w : World) (g : Nat) (T : TypeId) (cs : Array Value) (fr : Nat × Nat) (d : TypeDesc) {v : Value} (hv : tmps.getD t undef = v)
    (hp : tmps.getD p undef = .pointer (some ⟨g, 0, none⟩)) (hg : w.heap[g]? = some (.cells cs T fr))
    (hu : P.underlying ty = some d) (hd : (match d with | .struct _ | .array _ _ => true | _ => false) = true) (hi : (P.info? ty).map (·.size) = some cs.size) :
    (results fn tmps).run P w = .ok (.tuple #[v, .agg cs]) w := by
  subst hv
  have hp' : tmps[p]?.getD undef = .pointer (some ⟨g, 0, none⟩) := by simpa using hp
  simp [results, h, hp', asAddr, run_loadVar_row w g T ty cs fr d hg hu hd hi, Sem.run_bind, Result.andThen]
theorem results_row_row {P : Program} {fn : Func} {q p : Tmp} {ty ty' : TypeId} (h : fn.results = #[.cell q ty', .cell p ty]) (tmps : Array Value) (w : World) (g g' : Nat) (T T' : TypeId) (cs cs' : Array Value) (fr fr' : Nat × Nat) (d d' : TypeDesc)
    (hp : tmps.getD p undef = .pointer (some ⟨g, 0, none⟩)) (hg : w.heap[g]? = some (.cells cs T fr))
    (hu : P.underlying ty = some d) (hd : (match d with | .struct _ | .array _ _ => true | _ => false) = true) (hi : (P.info? ty).map (·.size) = some cs.size)
    (hp2 : tmps.getD q undef = .pointer (some ⟨g', 0, none⟩)) (hg2 : w.heap[g']? = some (.cells cs' T' fr'))
    (hu2 : P.underlying ty' = some d') (hd2 : (match d' with | .struct _ | .array _ _ => true | _ => false) = true) (hi2 : (P.info? ty').map (·.size) = some cs'.size) :
    (results fn tmps).run P w = .ok (.tuple #[.agg cs', .agg cs]) w := by
  have hp' : tmps[p]?.getD undef = .pointer (some ⟨g, 0, none⟩) := by simpa using hp
  have hp2' : tmps[q]?.getD undef = .pointer (some ⟨g', 0, none⟩) := by simpa using hp2
  simp [results, h, hp', hp2', asAddr, run_loadVar_row w g T ty cs fr d hg hu hd hi, run_loadVar_row w g' T' ty' cs' fr' d' hg2 hu2 hd2 hi2, Sem.run_bind, Result.andThen]

/-- An input as a value: what memory shows of it. -/
structure IpV (w : World) (B : Nat) (A : Option Addr) (c : Nat) (s : Ip) : Prop where
  see : Sees w B A (bts s.rest)
  le : s.rest.length ≤ c
  cm : c ≤ maxLen
  byt : Byt s.rest
  sm : s.rest.length ≤ 100000
section
variable {w w' : World} {B : Nat} {A : Option Addr} {c : Nat} {s : Ip}
theorem IpV.below (h : IpV w B A c s) (hb : Below B w w') : IpV w' B A c s := ⟨h.see.below hb, h.le, h.cm, h.byt, h.sm⟩
theorem IpV.nil (w : World) (B : Nat) (e : Int) : IpV w B none 0 ⟨[], e⟩ := ⟨fun h => absurd rfl h, Nat.le_refl _, Nat.zero_le _, fun x hx => by simp at hx, Nat.zero_le _⟩
theorem IpV.drop (h : IpV w B A c s) {n : Nat} (hn : n ≤ s.rest.length) (e : Int) : ∃ A', (∀ (b o : Nat), A = some ⟨b, o, none⟩ → A' = (if c = n then A else some ⟨b, o + n, none⟩)) ∧ (A = none → A' = none) ∧ IpV w B A' (c - n) ⟨s.rest.drop n, e⟩ := by
  have hl : (s.rest.drop n).length = s.rest.length - n := List.length_drop ..
  have h1 := h.le
  have h2 := h.cm
  have h3 := h.sm
  by_cases he : s.rest.drop n = []
  · rcases A with _ | ⟨b, o, sp⟩
    · exact ⟨none, fun b o e => (by cases e), fun _ => rfl, by rw [he]; exact fun h => absurd rfl h, by show _ ≤ _; rw [hl]; omega, by omega, fun x hx => h.byt x (List.mem_of_mem_drop hx), by show _ ≤ _; rw [hl]; omega⟩
    · refine ⟨if c = n then some ⟨b, o, sp⟩ else some ⟨b, o + n, none⟩, fun b' o' e => ?_, fun e => (by cases e), by rw [he]; exact fun h => absurd rfl h, by show _ ≤ _; rw [hl]; omega, by omega, fun x hx => h.byt x (List.mem_of_mem_drop hx), by show _ ≤ _; rw [hl]; omega⟩
      injection e with e
      injection e with e1 e2 e3
      subst e1 e2 e3
      rfl
  · have hne : n < s.rest.length := by
      rcases Nat.lt_or_ge n s.rest.length with h9 | h9
      · exact h9
      · exact absurd (List.drop_eq_nil_of_le h9) he
    obtain ⟨b, o, rfl, hb, hc⟩ := h.see (by intro e; have := congrArg List.length e; simp [bts] at this; rw [this] at hne; simp at hne)
    refine ⟨if c = n then some ⟨b, o, none⟩ else some ⟨b, o + n, none⟩, fun b' o' e => ?_, fun e => (by cases e), ?_, by show _ ≤ _; rw [hl]; omega, by omega, fun x hx => h.byt x (List.mem_of_mem_drop hx), by show _ ≤ _; rw [hl]; omega⟩
    · injection e with e
      injection e with e1 e2
      subst e1 e2
      rfl
    · rw [if_neg (by omega)]
      intro _
      refine ⟨b, o + n, rfl, hb, fun i u hu => ?_⟩
      rw [Nat.add_assoc]
      refine hc (n + i) u ?_
      simp only [bts, List.getElem?_map] at hu ⊢
      rw [List.getElem?_drop] at hu
      exact hu
end
/-- The facts on Get's answer. -/
theorem get_facts {l : List Nat} (hb : Byt l) : ((getS l).2.2 = 0 → 1 ≤ (getS l).2.1 ∧ (getS l).2.1 ≤ l.length) ∧ (getS l).1 ≤ 18446744073709551615 := by
  refine ⟨fun he => ?_, ?_⟩
  · obtain ⟨k1, k2, _⟩ := getS_canon (x := (getS l).1) (n := (getS l).2.1) hb (by rw [← he])
    exact ⟨k1, k2⟩
  · rcases getS_kinds l with ⟨x, n, e⟩ | e | e
    · have := getS_lt hb e; rw [e]; dsimp only; omega
    · rw [e]; decide
    · rw [e]; decide
/-- What a reading function of the reference returns. -/
def RQ (w : World) (B : Nat) (x : Int) (t : Ip) (e : Ending) (w' : World) : Prop :=
  ∃ A' c', e = .returned (.tuple #[.int .i64 x, .agg #[.slice A' t.rest.length c', .int .i64 t.err]]) ∧ IpV w' B A' c' t ∧ Below w.heap.size w w'

set_option maxRecDepth 100000 in
set_option maxHeartbeats 4000000 in
theorem rnum_any {w : World} {B : Nat} {A : Option Addr} {c : Nat} {s : Ip} (bd why : Int) (h : IpV w B A c s) (hB : B ≤ w.heap.size) (h0 : 0 ≤ bd) (h1 : bd ≤ 4611686018427387904) (hw : why ≠ 0) :
    Calls Try.prog 49 #[.agg #[.slice A s.rest.length c, .int .i64 s.err], .int .i64 bd, .int .i64 why] w (RQ w B (numE bd why s).1 (numE bd why s).2) := by
  have hb1 := (Below.refl w.heap.size w).alloc (Nat.le_refl _) (.cells #[.slice A s.rest.length c, .int .i64 s.err] 28)
  have HB2 := Lib.hid (hb1.alloc hb1.size (.cells #[.slice none 0 0, .int .i64 0] 28))
  have hr1 := (Row.new w 28 #[.slice A s.rest.length c, .int .i64 s.err]).alloc (.cells #[.slice none 0 0, .int .i64 0] 28)
  have hr2 := Row.new (w.alloc (.cells #[.slice A s.rest.length c, .int .i64 s.err] 28)) 28 #[.slice none 0 0, .int .i64 0]
  simp only [World.size_alloc] at hr2
  have HI := Lib.hid h
  have HBB := Lib.hid hB
  have hmx : s.rest.length ≤ 9223372036854775807 := by have := h.sm; omega
  obtain ⟨y, hy⟩ : ∃ z, z = numE bd why s := ⟨_, rfl⟩
  rw [← hy]
  have HY := Lib.hid hy
  have C1 := Lib.hid fun W (hW : Below w.heap.size w W) => rget_any W.heap.size A s.rest c W (((h.see.more hB).below hW).more hW.size) h.byt (by have := h.sm; unfold maxLen; omega)
  have HGD : Hid ((getS s.rest).2.2 = 0 → (getS s.rest).2.1 ≤ s.rest.length) := fun he => (getS_canon (x := (getS s.rest).1) (n := (getS s.rest).2.1) h.byt (by rw [← he])).2.1
  have HG1 : Hid ((getS s.rest).2.2 = 0 → 1 ≤ (getS s.rest).2.1) := fun he => (getS_canon (x := (getS s.rest).1) (n := (getS s.rest).2.1) h.byt (by rw [← he])).1
  have HG64 : Hid ((getS s.rest).1 ≤ 18446744073709551615) := by
    rcases getS_kinds s.rest with ⟨x, n, e⟩ | e | e
    · have := getS_lt h.byt e; show _ ≤ _; rw [e]; dsimp only; omega
    · show _ ≤ _; rw [e]; decide
    · show _ ≤ _; rw [e]; decide
  obtain ⟨gv, hgv⟩ : ∃ z, z = (getS s.rest).1 := ⟨_, rfl⟩
  obtain ⟨gn, hgn⟩ : ∃ z, z = (getS s.rest).2.1 := ⟨_, rfl⟩
  obtain ⟨ge, hge⟩ : ∃ z, z = (getS s.rest).2.2 := ⟨_, rfl⟩
  have HNE : Hid (numE bd why s = if s.err ≠ 0 then (0, s) else if ge ≠ 0 then (0, ⟨[], (ge : Int)⟩) else if bd ≤ (gv : Int) then (0, ⟨[], why⟩) else ((gv : Int), ⟨s.rest.drop gn, 0⟩)) := by rw [hgv, hgn, hge]; rfl
  rw [← hgv, ← hgn, ← hge] at C1
  rw [← hgn, ← hge] at HGD HG1
  rw [← hgv] at HG64
  have hg64 := HG64.out
  clear h hB hy hgv hgn hge hb1 HG64
  go_enter Try.func49, Try.ntmps49
  go_upto_region 1 with fail
  generalize ((w.alloc (.cells #[.slice A s.rest.length c, .int .i64 s.err] 28)).alloc (.cells #[.slice none 0 0, .int .i64 0] 28)) = W0 at *
  have HR2 := Lib.hid hr2
  have p0 := hr1.cell 0; have p1 := hr1.cell 1
  have pf0 := hr1.frozen 0; have pf1 := hr1.frozen 1
  simp only [List.getElem?_toArray, List.getElem?_cons_zero, List.getElem?_cons_succ] at p0 p1
  have q0 := hr2.cell 0; have q1 := hr2.cell 1
  have qf0 := hr2.frozen 0; have qf1 := hr2.frozen 1
  simp only [List.getElem?_toArray, List.getElem?_cons_zero, List.getElem?_cons_succ] at q0 q1
  clear hr1 hr2
  by_cases he : s.err ≠ 0
  · have d0 : (s.err != 0) = true := by simp [he]
    have HE : Hid (y = (0, s)) := by show _ = _; rw [HY.out, HNE.out, if_pos he]
    clear he HNE HY C1 HGD
    go_wp2_with fail
    go_region
    go_wp2
    have hb := ((HB2.out.setCell (p := ⟨w.heap.size + 1, 0, none⟩) (by show _ ≤ w.heap.size + 1; omega) (.slice A s.rest.length c)).setCell (p := ⟨w.heap.size + 1, 1, none⟩) (by show _ ≤ w.heap.size + 1; omega) (.int .i64 s.err)).drew
    (try simp only [Exit.inBlock, Exit.then])
    refine bodyPost_ret (v := .tuple #[.int .i64 0, .agg #[.slice A s.rest.length c, .int .i64 s.err]]) ?_ rfl ⟨A, c, ?_, ?_, ?_⟩
    · exact results_tmp_row rfl _ _ (w.heap.size + 1) 28 #[.slice A s.rest.length c, .int .i64 s.err] (0, 0) _ rfl rfl (((HR2.out.put 0 (.slice A s.rest.length c)).put 1 (.int .i64 s.err)).drew) Try.underlying28 rfl (by kernel_rfl)
    · rw [HE.out]
    · rw [HE.out]; exact HI.out.below (hb.mono HBB.out)
    · exact hb
  · have d0 : (s.err != 0) = false := by simpa using he
    have HNF : Hid (numE bd why s = if ge ≠ 0 then (0, ⟨[], (ge : Int)⟩) else if bd ≤ (gv : Int) then (0, ⟨[], why⟩) else ((gv : Int), ⟨s.rest.drop gn, 0⟩)) := by show _ = _; rw [HNE.out, if_neg he]
    clear he HNE
    go_wp2_with fail
    refine (C1.out _ HB2.out).mono ?_
    rintro e W1 ⟨rfl, rfl⟩
    clear C1
    by_cases hge : ge = 0
    · subst hge
      have HGN := Lib.hid (HGD.out rfl)
      by_cases hlt : bd ≤ (gv : Int)
      · have HE : Hid (y = (0, ⟨[], why⟩)) := by show _ = _; rw [HY.out, HNF.out, if_neg (by omega), if_pos hlt]
        have dw : (why != 0) = true := by simp [hw]
        clear HNF HY HGD hw
        go_wp2
        have hb := ((HB2.out.setCell (p := ⟨w.heap.size + 1, 0, none⟩) (by show _ ≤ w.heap.size + 1; omega) (.slice none 0 0)).setCell (p := ⟨w.heap.size + 1, 1, none⟩) (by show _ ≤ w.heap.size + 1; omega) (.int .i64 why))
        (try simp only [Exit.inBlock, Exit.then])
        refine bodyPost_ret (v := .tuple #[.int .i64 0, .agg #[.slice none (⟨[], why⟩ : Ip).rest.length 0, .int .i64 (⟨[], why⟩ : Ip).err]]) ?_ rfl ⟨none, 0, ?_, ?_, ?_⟩
        · exact results_tmp_row rfl _ _ (w.heap.size + 1) 28 #[.slice none (⟨[], why⟩ : Ip).rest.length 0, .int .i64 (⟨[], why⟩ : Ip).err] (0, 0) _ rfl rfl ((HR2.out.put 0 (.slice none 0 0)).put 1 (.int .i64 why)) Try.underlying28 rfl (by kernel_rfl)
        · rw [HE.out]
        · rw [HE.out]; exact IpV.nil _ _ _
        · exact hb
      · have HE : Hid (y = ((gv : Int), ⟨s.rest.drop gn, 0⟩)) := by show _ = _; rw [HY.out, HNF.out, if_neg (by omega), if_neg hlt]
        obtain ⟨A2, hA2, hA3, hI2⟩ := HI.out.drop HGN.out 0
        have hgl := HGN.out
        have hg1 := HG1.out rfl
        have hle := HI.out.le
        have hcm := HI.out.cm
        have hlen : (s.rest.drop gn).length = s.rest.length - gn := List.length_drop ..
        obtain ⟨b, o, rfl, _, _⟩ := HI.out.see (by intro e; have := congrArg List.length e; simp [bts] at this; rw [this] at hgl; simp at hgl; omega)
        have hite : (if c = gn then some ⟨b, o, none⟩ else some (⟨b, o + gn, none⟩ : Addr)) = A2 := (hA2 b o rfl).symm
        obtain ⟨n, hn⟩ : ∃ z, z = s.rest.length := ⟨_, rfl⟩
        rw [← hn] at p0 hgl hle hlen
        obtain ⟨k, rfl⟩ : ∃ k, n = gn + k := ⟨n - gn, by omega⟩
        have hlen : (s.rest.drop gn).length = k := by omega
        have HL := Lib.hid hlen
        clear HNF HY HGD hA2 hA3 hn hlen
        unfold maxLen at hcm
        go_wp2_with fail
        go_region
        go_wp2
        obtain rfl : k = (s.rest.drop gn).length := HL.out.symm
        have hb := ((HB2.out.setCell (p := ⟨w.heap.size + 1, 0, none⟩) (by show _ ≤ w.heap.size + 1; omega) (.slice A2 (s.rest.drop gn).length (c - gn))).setCell (p := ⟨w.heap.size + 1, 1, none⟩) (by show _ ≤ w.heap.size + 1; omega) (.int .i64 0)).drew
        (try simp only [Exit.inBlock, Exit.then])
        refine bodyPost_ret (v := .tuple #[.int .i64 (gv : Int), .agg #[.slice A2 (⟨s.rest.drop gn, 0⟩ : Ip).rest.length (c - gn), .int .i64 (⟨s.rest.drop gn, 0⟩ : Ip).err]]) ?_ rfl ⟨A2, (c - gn), ?_, ?_, ?_⟩
        · exact results_tmp_row rfl _ _ (w.heap.size + 1) 28 #[.slice A2 (⟨s.rest.drop gn, 0⟩ : Ip).rest.length (c - gn), .int .i64 (⟨s.rest.drop gn, 0⟩ : Ip).err] (0, 0) _ rfl rfl (((HR2.out.put 0 (.slice A2 (s.rest.drop gn).length (c - gn))).put 1 (.int .i64 0)).drew) Try.underlying28 rfl (by kernel_rfl)
        · rw [HE.out]
        · rw [HE.out]; exact hI2.below (hb.mono HBB.out)
        · exact hb
    · have d1 : ((ge : Int) == 0) = false := by simp; omega
      have d2 : ((ge : Int) != 0) = true := by simp; omega
      have HE : Hid (y = (0, ⟨[], (ge : Int)⟩)) := by show _ = _; rw [HY.out, HNF.out, if_pos hge]
      clear HNF HY HGD hge
      go_wp2
      have hb := ((HB2.out.setCell (p := ⟨w.heap.size + 1, 0, none⟩) (by show _ ≤ w.heap.size + 1; omega) (.slice none 0 0)).setCell (p := ⟨w.heap.size + 1, 1, none⟩) (by show _ ≤ w.heap.size + 1; omega) (.int .i64 (ge : Int)))
      (try simp only [Exit.inBlock, Exit.then])
      refine bodyPost_ret (v := .tuple #[.int .i64 0, .agg #[.slice none (⟨[], (ge : Int)⟩ : Ip).rest.length 0, .int .i64 (⟨[], (ge : Int)⟩ : Ip).err]]) ?_ rfl ⟨none, 0, ?_, ?_, ?_⟩
      · exact results_tmp_row rfl _ _ (w.heap.size + 1) 28 #[.slice none (⟨[], (ge : Int)⟩ : Ip).rest.length 0, .int .i64 (⟨[], (ge : Int)⟩ : Ip).err] (0, 0) _ rfl rfl ((HR2.out.put 0 (.slice none 0 0)).put 1 (.int .i64 (ge : Int))) Try.underlying28 rfl (by kernel_rfl)
      · rw [HE.out]
      · rw [HE.out]; exact IpV.nil _ _ _
      · exact hb

end Go.Proofs.Ytacmgfndmolnfaa
