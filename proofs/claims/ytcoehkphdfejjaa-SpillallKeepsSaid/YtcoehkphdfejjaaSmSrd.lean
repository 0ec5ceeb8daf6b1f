/-
  The reference's Same of layer 7, of any functions: whether they are equal.
-/
import Derived.Test.YtcoehkphdfejjaaSmSrc
namespace Go.Proofs.Ytcoehkphdfejjaa
open Go.RowKit
set_option linter.unusedVariables false
set_option linter.unusedSimpArgs false

theorem neq_tmG0 (a b : Tm) (w : World) : ∃ r : Bool, (binOp .neq 43 (.agg #[.int .i64 a.kind, .int .i64 a.a, .int .i64 a.to, .int .i64 a.el]) (.agg #[.int .i64 b.kind, .int .i64 b.a, .int .i64 b.to, .int .i64 b.el])).run Try.prog w = .ok (.bool r) w ∧ (r = false ↔ a = b) := by
  have u3 := Try.underlying3
  have a3 := Try.isAgg3
  have z3 := Try.sizeOf3
  have hS : Try.prog.underlying 43 = some (.struct (Try.prog.fieldsOf 43)) := by kernel_rfl
  have hp : Try.prog.stoodInHeld 43 = false := by kernel_rfl
  rw [run_neq_struct, show (10000 : Nat) = 9999 + 1 from rfl, run_equalIn_agg w 9999 43 _ _ hS hp]
  simp only [Program.fieldsOf, Try.underlying43]
  go_simp
  by_cases e : a = b
  · left
    subst e
    exact ⟨by simp, rfl⟩
  · right
    refine ⟨fun h1 h2 h3 h4 => e ?_, e⟩
    rcases a with ⟨a1, a2, a3, a4⟩
    rcases b with ⟨b1, b2, b3, b4⟩
    dsimp only at h1 h2 h3 h4
    rw [h1, h2, h3, h4]

theorem neq_inG0 (a b : In) (w : World) : ∃ r : Bool, (binOp .neq 62 (.agg #[.int .i64 a.op, .int .i64 a.d, .int .i64 a.a, .int .i64 a.b, .int .i64 a.imm]) (.agg #[.int .i64 b.op, .int .i64 b.d, .int .i64 b.a, .int .i64 b.b, .int .i64 b.imm])).run Try.prog w = .ok (.bool r) w ∧ (r = false ↔ a = b) := by
  have u3 := Try.underlying3
  have a3 := Try.isAgg3
  have z3 := Try.sizeOf3
  have u4 := Try.underlying2
  have a4 := Try.isAgg2
  have z4 := Try.sizeOf2
  have hS : Try.prog.underlying 62 = some (.struct (Try.prog.fieldsOf 62)) := by kernel_rfl
  have hp : Try.prog.stoodInHeld 62 = false := by kernel_rfl
  rw [run_neq_struct, show (10000 : Nat) = 9999 + 1 from rfl, run_equalIn_agg w 9999 62 _ _ hS hp]
  simp only [Program.fieldsOf, Try.underlying62]
  go_simp
  by_cases e : a = b
  · left
    subst e
    exact ⟨by simp, rfl⟩
  · right
    refine ⟨fun h1 h2 h3 h4 h5 => e ?_, e⟩
    rcases a with ⟨a1, a2, a3, a4, a5⟩
    rcases b with ⟨b1, b2, b3, b4, b5⟩
    dsimp only at h1 h2 h3 h4 h5
    rw [h1, h2, h3, h4, h5]

theorem neq_tmG (a b : Tm) : ∃ r : Bool, (r = false ↔ a = b) ∧ ∀ w, (binOp .neq 43 (.agg #[.int .i64 a.kind, .int .i64 a.a, .int .i64 a.to, .int .i64 a.el]) (.agg #[.int .i64 b.kind, .int .i64 b.a, .int .i64 b.to, .int .i64 b.el])).run Try.prog w = .ok (.bool r) w := by
  by_cases e : a = b
  · refine ⟨false, by simp [e], fun w => ?_⟩
    obtain ⟨r, h1, h2⟩ := neq_tmG0 a b w
    rw [h1, h2.2 e]
  · refine ⟨true, by simp [e], fun w => ?_⟩
    obtain ⟨r, h1, h2⟩ := neq_tmG0 a b w
    rw [h1]
    cases r
    · exact absurd (h2.1 rfl) e
    · rfl

theorem neq_inG (a b : In) : ∃ r : Bool, (r = false ↔ a = b) ∧ ∀ w, (binOp .neq 62 (.agg #[.int .i64 a.op, .int .i64 a.d, .int .i64 a.a, .int .i64 a.b, .int .i64 a.imm]) (.agg #[.int .i64 b.op, .int .i64 b.d, .int .i64 b.a, .int .i64 b.b, .int .i64 b.imm])).run Try.prog w = .ok (.bool r) w := by
  by_cases e : a = b
  · refine ⟨false, by simp [e], fun w => ?_⟩
    obtain ⟨r, h1, h2⟩ := neq_inG0 a b w
    rw [h1, h2.2 e]
  · refine ⟨true, by simp [e], fun w => ?_⟩
    obtain ⟨r, h1, h2⟩ := neq_inG0 a b w
    rw [h1]
    cases r
    · exact absurd (h2.1 rfl) e
    · rfl

/-- What the walk carries: two functions in boxes. -/
structure SmD (w : World) (args regs args' regs' : Int) (A A' : Option Addr) (bs bs' : List Blk) (c c' : Nat) (W : World) : Prop where
  blw : Below w.heap.size w W
  a : Row W w.heap.size 24 #[.int .i64 args, .int .i64 regs, .slice A bs.length c]
  b : Row W (w.heap.size + 1) 24 #[.int .i64 args', .int .i64 regs', .slice A' bs'.length c']
  s : BlksAt W w.heap.size A bs
  s' : BlksAt W w.heap.size A' bs'

theorem SmD.next {w W W' : World} {args regs args' regs' : Int} {A A' : Option Addr} {bs bs' : List Blk} {c c' : Nat} (h : SmD w args regs args' regs' A A' bs bs' c c' W) (hb : Below W.heap.size W W') : SmD w args regs args' regs' A A' bs bs' c c' W' :=
  ⟨h.blw.trans (hb.mono h.blw.size), h.a.below hb h.a.lt, h.b.below hb h.b.lt, h.s.below (hb.mono h.blw.size), h.s'.below (hb.mono h.blw.size)⟩

theorem SmD.drewN {w W : World} {args regs args' regs' : Int} {A A' : Option Addr} {bs bs' : List Blk} {c c' : Nat} (h : SmD w args regs args' regs' A A' bs bs' c c' W) (n : Nat) : SmD w args regs args' regs' A A' bs bs' c c' (W.drewN n) :=
  h.next (Grew.drewN (Grew.refl W) n).below

set_option maxRecDepth 100000 in
set_option maxHeartbeats 16000000 in
theorem rsame7_all (B : Nat) (A A' : Option Addr) (bs bs' : List Blk) (c c' : Nat) (args regs args' regs' : Int) (w : World) (hs : BlksAt w B A bs) (hs' : BlksAt w B A' bs') (hB : B ≤ w.heap.size) (hm : bs.length ≤ 1000000) (hm' : bs'.length ≤ 1000000) (hn : codeN bs ≤ 1000000) (hn' : codeN bs' ≤ 1000000) (bb : Bool) (hbb : bb = true ↔ args = args' ∧ regs = regs' ∧ bs = bs') :
    Calls Try.prog 20 #[.agg #[.int .i64 args, .int .i64 regs, .slice A bs.length c], .agg #[.int .i64 args', .int .i64 regs', .slice A' bs'.length c']] w fun e w' => e = .returned (.bool bb) ∧ Below w.heap.size w w' := by
  have hb0 := ((Below.refl w.heap.size w).alloc (Nat.le_refl _) (.cells #[.int .i64 args, .int .i64 regs, .slice A bs.length c] 24)).alloc (by simp) (.cells #[.int .i64 args', .int .i64 regs', .slice A' bs'.length c'] 24)
  have HS : Hid (SmD w args regs args' regs' A A' bs bs' c c' ((w.alloc (.cells #[.int .i64 args, .int .i64 regs, .slice A bs.length c] 24)).alloc (.cells #[.int .i64 args', .int .i64 regs', .slice A' bs'.length c'] 24))) := by
    refine ⟨hb0, (Row.new w _ _).alloc _, ?_, (hs.more hB).below hb0, (hs'.more hB).below hb0⟩
    have := Row.new (w.alloc (.cells #[.int .i64 args, .int .i64 regs, .slice A bs.length c] 24)) 24 #[.int .i64 args', .int .i64 regs', .slice A' bs'.length c']
    rw [World.size_alloc] at this
    exact this
  have HN := Lib.hid hn
  have HN' := Lib.hid hn'
  have HBB := Lib.hid hbb
  clear hb0 hs hs' hn hn' hbb
  by_cases hall : args = args' ∧ regs = regs' ∧ bs.length = bs'.length
  · obtain ⟨h1, h2, h3⟩ := hall
    subst h1 h2
    have HLE := Lib.hid h3
    have e1 : ((bs.length : Int) != (bs'.length : Int)) = false := by simp [h3]
    have hle2 : bs.length ≤ bs'.length := by omega
    clear h3
    go_enter Try.func20, Try.ntmps20
    go_upto_region 1 with fail
    generalize ((w.alloc (.cells #[.int .i64 args, .int .i64 regs, .slice A bs.length c] 24)).alloc (.cells #[.int .i64 args, .int .i64 regs, .slice A' bs'.length c'] 24)) = W0 at *
    have a0 := HS.out.a.cell 0; have a1 := HS.out.a.cell 1; have a2 := HS.out.a.cell 2
    have b0 := HS.out.b.cell 0; have b1 := HS.out.b.cell 1; have b2 := HS.out.b.cell 2
    simp only [List.getElem?_toArray, List.getElem?_cons_zero, List.getElem?_cons_succ] at a0 a1 a2 b0 b1 b2
    go_upto_region 3 with fail
    clear a0 a1 a2 b0 b1 b2
    go_wp2
    go_loopg [5] bs.length (fun g s5 wr => ∃ k : Nat, k + g = bs.length ∧ s5 = .int .i64 (k : Int) ∧ Hid (bs.take k = bs'.take k) ∧ Hid (SmD w args regs args regs A A' bs bs' c c' wr))
    case atStart => exact ⟨0, by omega, by go_num, rfl, HS.out⟩
    case round =>
      clear HS
      obtain ⟨k, hgk, rfl, HT, HS⟩ := hrel
      have a2 := HS.out.a.cell 2
      have b2 := HS.out.b.cell 2
      simp only [List.getElem?_toArray, List.getElem?_cons_zero, List.getElem?_cons_succ] at a2 b2
      by_cases hk : k < bs.length
      · have hkz : (k : Int) < (bs.length : Int) := by omega
        have hk' : k < bs'.length := by omega
        have hkz' : (k : Int) < (bs'.length : Int) := by omega
        obtain ⟨p1, o1, rfl, hp1, h1⟩ := HS.out.s.at_ hk
        obtain ⟨p2, o2, rfl, hp2, h2⟩ := HS.out.s'.at_ hk'
        obtain ⟨Ac, cc1, q10, q11, q12, q13⟩ := h1.code
        obtain ⟨Ad, cc2, q20, q21, q22, q23⟩ := h2.code
        have hcl := codeN_mem bs k hk
        have hcl' := codeN_mem bs' k hk'
        have HC1 := Lib.hid q13
        have HC2 := Lib.hid q23
        have t0 := h1.t0; have t1 := h1.t1; have t2 := h1.t2; have t3 := h1.t3
        have u0 := h2.t0; have u1 := h2.t1; have u2 := h2.t2; have u3 := h2.t3
        have hN := HN.out
        have hN' := HN'.out
        obtain ⟨rt, hrt, hne⟩ := neq_tmG bs[k].term bs'[k].term
        have HOK : Hid (bs[k].term = bs'[k].term → bs[k].code = bs'[k].code → bs.take (k + 1) = bs'.take (k + 1)) := fun e1 e2 => by
          rw [List.take_succ_eq_append_getElem hk, List.take_succ_eq_append_getElem hk', HT.out]
          have : bs[k] = bs'[k] := by
            generalize bs[k] = x at *
            generalize bs'[k] = y at *
            obtain ⟨x1, x2⟩ := x
            obtain ⟨y1, y2⟩ := y
            dsimp only at e1 e2
            rw [e1, e2]
          rw [this]
        have HNO : Hid (¬ (bs[k].term = bs'[k].term ∧ bs[k].code = bs'[k].code) → bb = false) := fun h9 => by
          cases hq : bb with
          | false => rfl
          | true =>
            obtain ⟨_, _, e⟩ := HBB.out.1 hq
            subst e
            exact absurd ⟨rfl, rfl⟩ h9
        generalize bs[k].term = t at *
        generalize bs[k].code = cd at *
        generalize bs'[k].term = t' at *
        generalize bs'[k].code = cd' at *
        have hcd : cd.length ≤ 1000000 := by omega
        have hcd' : cd'.length ≤ 1000000 := by omega
        have HRT := Lib.hid hrt
        clear h1 h2 q13 q23 hcl hN hcl' hN' hrt
        cases rt with
        | true =>
          have HB0 : Hid (bb = false) := HNO.out fun h9 => by have := HRT.out.2 h9.1; cases this
          go_upto_region 6 with fail
          go_quiet (fail)
          have HS6 := Lib.hid (HS.out.drewN nq)
          go_wp2
          go_ret
          exact ⟨by rw [HB0.out]; rfl, HS6.out.blw⟩
        | false =>
          have htt := HRT.out.1 rfl
          have HTT := Lib.hid htt
          clear htt
          by_cases hl : cd.length = cd'.length
          · have e2 : ((cd.length : Int) != (cd'.length : Int)) = false := by simp [hl]
            have hl2 : cd.length ≤ cd'.length := by omega
            have HLC := Lib.hid hl
            clear hl
            go_upto_region 6 with fail
            go_quiet (fail)
            have HS6 := Lib.hid (HS.out.drewN nq)
            have HC6 : Hid (InsAt (wr.drewN nq) w.heap.size Ac cd) := HC1.out.keep fun _ _ => rfl
            have HC7 : Hid (InsAt (wr.drewN nq) w.heap.size Ad cd') := HC2.out.keep fun _ _ => rfl
            have q10 : (wr.drewN nq).cell? ⟨p1, o1 + k * 5, none⟩ = some (.slice Ac cd.length cc1) := q10
            have q20 : (wr.drewN nq).cell? ⟨p2, o2 + k * 5, none⟩ = some (.slice Ad cd'.length cc2) := q20
            have a2 : (wr.drewN nq).cell? ⟨w.heap.size, 2, none⟩ = some (.slice (some ⟨p1, o1, none⟩) bs.length c) := a2
            have b2 : (wr.drewN nq).cell? ⟨w.heap.size + 1, 2, none⟩ = some (.slice (some ⟨p2, o2, none⟩) bs'.length c') := b2
            generalize wr.drewN nq = W6 at *
            clear HS HC1 HC2 t0 t1 t2 t3 u0 u1 u2 u3 hne
            go_wp2
            go_loopg [6] cd.length (fun g s6 wr => ∃ (j q : Nat), j + g = cd.length ∧ s6 = .int .i64 (j : Int) ∧ Hid (cd.take j = cd'.take j) ∧ wr = W6.drewN q)
            case atStart => exact ⟨0, 0, by omega, by go_num, rfl, rfl⟩
            case round =>
              obtain ⟨j, q, hgj, rfl, HTJ, rfl⟩ := hrel
              by_cases hj : j < cd.length
              · have hjz : (j : Int) < (cd.length : Int) := by omega
                have hj' : j < cd'.length := by omega
                have hjz' : (j : Int) < (cd'.length : Int) := by omega
                obtain ⟨e1', f1, rfl, he1, g1⟩ := HC6.out.at_ hj
                obtain ⟨e2', f2, rfl, he2, g2⟩ := HC7.out.at_ hj'
                obtain ⟨rn, hrn, hne⟩ := neq_inG cd[j] cd'[j]
                have HJT : Hid (cd[j] = cd'[j] → cd.take (j + 1) = cd'.take (j + 1)) := fun e => by
                  rw [List.take_succ_eq_append_getElem hj, List.take_succ_eq_append_getElem hj', HTJ.out, e]
                have HJN : Hid (¬ cd[j] = cd'[j] → bb = false) := fun e => HNO.out fun h9 => e (by
                  have h8 := h9.2
                  subst h8
                  rfl)
                generalize cd[j] = y at *
                generalize cd'[j] = z at *
                have x0 : W6.cell? ⟨e1', f1 + j * 5, none⟩ = some (.int .i64 y.op) := g1.c0
                have x1 : W6.cell? ⟨e1', f1 + j * 5 + 1, none⟩ = some (.int .i64 y.d) := g1.c1
                have x2 : W6.cell? ⟨e1', f1 + j * 5 + 2, none⟩ = some (.int .i64 y.a) := g1.c2
                have x3 : W6.cell? ⟨e1', f1 + j * 5 + 3, none⟩ = some (.int .i64 y.b) := g1.c3
                have x4 : W6.cell? ⟨e1', f1 + j * 5 + 4, none⟩ = some (.int .i64 y.imm) := g1.c4
                have y0 : W6.cell? ⟨e2', f2 + j * 5, none⟩ = some (.int .i64 z.op) := g2.c0
                have y1 : W6.cell? ⟨e2', f2 + j * 5 + 1, none⟩ = some (.int .i64 z.d) := g2.c1
                have y2 : W6.cell? ⟨e2', f2 + j * 5 + 2, none⟩ = some (.int .i64 z.a) := g2.c2
                have y3 : W6.cell? ⟨e2', f2 + j * 5 + 3, none⟩ = some (.int .i64 z.b) := g2.c3
                have y4 : W6.cell? ⟨e2', f2 + j * 5 + 4, none⟩ = some (.int .i64 z.imm) := g2.c4
                have HRN := Lib.hid hrn
                clear g1 g2 hrn
                go_upto_region 11 with fail
                go_quiet (fail)
                clear x0 x1 x2 x3 x4 y0 y1 y2 y3 y4 hne
                cases rn with
                | true =>
                  have HB0 : Hid (bb = false) := HJN.out fun h9 => by have := HRN.out.2 h9; cases this
                  have HS9 := Lib.hid (HS6.out.drewN (q + nq))
                  go_wp2
                  go_ret
                  exact ⟨by rw [HB0.out]; rfl, by have := HS9.out.blw; rw [← World.drewN_drewN] at this; exact this⟩
                | false =>
                  have HT1 := Lib.hid (HJT.out (HRN.out.1 rfl))
                  go_wp2
                  go_roundg (cd.length - (j + 1))
                  case measure => omega
                  case rel => exact ⟨j + 1, q + nq, by omega, by go_num, HT1.out, by simp [World.drewN_drewN]⟩
              · have hjz : ¬ (j : Int) < (cd.length : Int) := by omega
                have HS9 := Lib.hid (HS6.out.drewN q)
                have HT2 : Hid (bs.take (k + 1) = bs'.take (k + 1)) := by
                  have h9 := HTJ.out
                  have h8 := HLC.out
                  rw [List.take_of_length_le (by omega), List.take_of_length_le (by omega)] at h9
                  exact HOK.out HTT.out h9
                clear HS6
                go_wp2
                go_roundg (bs.length - (k + 1))
                case measure => omega
                case rel => exact ⟨k + 1, by omega, by go_num, HT2.out, HS9.out⟩
          · have e2 : ((cd.length : Int) != (cd'.length : Int)) = true := by rw [bne_iff_ne]; omega
            have HB0 : Hid (bb = false) := HNO.out fun h9 => hl (by rw [h9.2])
            clear hl
            go_upto_region 6 with fail
            go_quiet (fail)
            have HS6 := Lib.hid (HS.out.drewN nq)
            go_wp2
            go_ret
            exact ⟨by rw [HB0.out]; rfl, HS6.out.blw⟩
      · have hkz : ¬ (k : Int) < (bs.length : Int) := by omega
        have HB1 : Hid (bb = true) := by
          have h9 := HT.out
          have h8 := HLE.out
          rw [List.take_of_length_le (by omega), List.take_of_length_le (by omega)] at h9
          exact HBB.out.2 (by refine ⟨?_, ?_, h9⟩ <;> first | rfl | trivial)
        go_wp2
        go_ret
        exact ⟨by rw [HB1.out]; rfl, HS.out.blw⟩
  · have HB0 : Hid (bb = false) := by
      show _ = _
      cases hq : bb with
      | false => rfl
      | true =>
        obtain ⟨e1, e2, e3⟩ := HBB.out.1 hq
        exact absurd ⟨e1, e2, by rw [e3]⟩ hall
    by_cases h1 : args = args'
    · subst h1
      by_cases h2 : regs = regs'
      · subst h2
        have e1 : ((bs.length : Int) != (bs'.length : Int)) = true := by
          rw [bne_iff_ne]
          intro e
          exact hall ⟨rfl, rfl, by omega⟩
        clear hall HBB
        go_enter Try.func20, Try.ntmps20
        go_upto_region 1 with fail
        generalize ((w.alloc (.cells #[.int .i64 args, .int .i64 regs, .slice A bs.length c] 24)).alloc (.cells #[.int .i64 args, .int .i64 regs, .slice A' bs'.length c'] 24)) = W0 at *
        have a0 := HS.out.a.cell 0; have a1 := HS.out.a.cell 1; have a2 := HS.out.a.cell 2
        have b0 := HS.out.b.cell 0; have b1 := HS.out.b.cell 1; have b2 := HS.out.b.cell 2
        simp only [List.getElem?_toArray, List.getElem?_cons_zero, List.getElem?_cons_succ] at a0 a1 a2 b0 b1 b2
        go_wp2
        go_ret
        exact ⟨by rw [HB0.out]; rfl, HS.out.blw⟩
      · have e1 : (regs != regs') = true := by simp [h2]
        clear hall HBB h2
        go_enter Try.func20, Try.ntmps20
        go_upto_region 1 with fail
        generalize ((w.alloc (.cells #[.int .i64 args, .int .i64 regs, .slice A bs.length c] 24)).alloc (.cells #[.int .i64 args, .int .i64 regs', .slice A' bs'.length c'] 24)) = W0 at *
        have a0 := HS.out.a.cell 0; have a1 := HS.out.a.cell 1; have a2 := HS.out.a.cell 2
        have b0 := HS.out.b.cell 0; have b1 := HS.out.b.cell 1; have b2 := HS.out.b.cell 2
        simp only [List.getElem?_toArray, List.getElem?_cons_zero, List.getElem?_cons_succ] at a0 a1 a2 b0 b1 b2
        go_wp2
        go_ret
        exact ⟨by rw [HB0.out]; rfl, HS.out.blw⟩
    · have e1 : (args != args') = true := by simp [h1]
      clear hall HBB h1
      go_enter Try.func20, Try.ntmps20
      go_upto_region 1 with fail
      generalize ((w.alloc (.cells #[.int .i64 args, .int .i64 regs, .slice A bs.length c] 24)).alloc (.cells #[.int .i64 args', .int .i64 regs', .slice A' bs'.length c'] 24)) = W0 at *
      have a0 := HS.out.a.cell 0; have a1 := HS.out.a.cell 1; have a2 := HS.out.a.cell 2
      have b0 := HS.out.b.cell 0; have b1 := HS.out.b.cell 1; have b2 := HS.out.b.cell 2
      simp only [List.getElem?_toArray, List.getElem?_cons_zero, List.getElem?_cons_succ] at a0 a1 a2 b0 b1 b2
      go_wp2
      go_ret
      exact ⟨by rw [HB0.out]; rfl, HS.out.blw⟩

end Go.Proofs.Ytcoehkphdfejjaa
