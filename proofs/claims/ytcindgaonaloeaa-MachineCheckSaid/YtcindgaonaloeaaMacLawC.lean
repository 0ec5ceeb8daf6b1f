/-
  The walk of the statement that an allocated function is accepted exactly if its parts are valid.
-/
import Derived.Test.YtcindgaonaloeaaMacAwake
import Derived.Test.YtcindgaonaloeaaMacFew
import Derived.Test.YtcindgaonaloeaaMacIn
import Derived.Test.YtcindgaonaloeaaSrcRterm
import Derived.Deep.LoopGhost
import Derived.Deep.Cut
import Derived.Deep.CutRange
import Derived.Deep.QuietTactic
import Derived.BigQuiet
namespace Go.Proofs.Ytcindgaonaloeaa
open Go.RowKit
set_option linter.unusedVariables false

def vM (regs slots : Int) (x : Mi) : Bool := eM x regs slots == 0
def vMB (regs slots n : Int) (x : MBlk) : Bool := x.code.all (vM regs slots) && (decide (mvs x.code ≤ 64) && eT x.term regs n == 0)
theorem eMB_all (regs slots n : Int) (x : MBlk) : (eMB x regs slots n == 0) = vMB regs slots n x := by
  have h := eCd_ok regs slots x.code 0 (by omega)
  have hl := lead_mvs x.code
  unfold eMB vMB
  by_cases h1 : eCd regs slots 0 x.code = 0
  · rw [if_pos h1]
    obtain ⟨a, b, c⟩ := h.1 h1
    rw [List.all_eq_true.2 fun y hy => by rw [vM, a y hy]; rfl, decide_eq_true c]
    rfl
  · rw [if_neg h1]
    rw [beq_eq_false_iff_ne.2 h1]
    symm
    cases h2 : x.code.all (vM regs slots)
    · rfl
    · rw [Bool.true_and]
      have : ¬ mvs x.code ≤ 64 := fun h3 => h1 (h.2 ⟨fun y hy => by
        have := List.all_eq_true.1 h2 y hy
        simpa [vM] using this, by omega, h3⟩)
      rw [decide_eq_false this, Bool.false_and]
theorem eMBs_all (regs slots n : Int) : ∀ l : List MBlk, (eMBs regs slots n l == 0) = l.all (vMB regs slots n)
  | [] => rfl
  | x :: r => by
    rw [List.all_cons, ← eMB_all, ← eMBs_all regs slots n r, eMBs]
    by_cases h : eMB x regs slots n = 0
    · rw [if_pos h, h]; rfl
    · rw [if_neg h, beq_eq_false_iff_ne.2 h]; rfl
theorem eMF_all (args regs slots : Int) (bs : List MBlk) (hf : FewM regs slots bs) : (eMF args regs slots bs == 0) = (decide (0 ≤ args) && decide (args ≤ slots) && decide (0 ≤ regs) && decide ((0 : Int) < bs.length) && bs.all (vMB regs slots bs.length)) := by
  obtain ⟨h1, h2, h2', h3⟩ := hf
  have h4 := eMBs_all regs slots bs.length bs
  rcases msizes_ways args regs slots bs (by omega) (by omega) with ⟨a1, he⟩ | ⟨a1, a2, he⟩ | ⟨a1, a2, ⟨a0, he⟩ | ⟨a0, ⟨a3, he⟩ | ⟨a3, ⟨a5, he⟩ | ⟨a5, ⟨a4, he⟩ | ⟨a4, he⟩⟩⟩⟩⟩
  · rw [eMF, he, decide_eq_false (by omega : ¬ 0 ≤ args)]; rfl
  · rw [eMF, he, decide_eq_false (by omega : ¬ args ≤ slots), Bool.and_false]; rfl
  · rw [eMF, he, decide_eq_false (by omega : ¬ 0 ≤ regs), Bool.and_false]; rfl
  · omega
  · omega
  · rw [eMF, he, decide_eq_false (by omega : ¬ (0 : Int) < bs.length), Bool.and_false]; rfl
  · rw [eMF, he, decide_eq_true a1, decide_eq_true a2, decide_eq_true a0, decide_eq_true (by omega : (0 : Int) < bs.length), ← h4]; rfl
theorem all_step {α : Type} (p : α → Bool) (l : List α) (k : Nat) (h : k < l.length) : (l.take (k + 1)).all p = ((l.take k).all p && p l[k]) := by
  rw [List.take_succ_eq_append_getElem h, List.all_append]
  simp

/-- Taking an operation first, its slot written out. -/
theorem take_at {P : Program} {md : Region.Mode} {ops : Array Oper} {Q : Exit → Act → World → Prop} {S : World → Prop} (i d : Nat) {oi : Oper} (v : Value) {fuel : Nat} {listed : Array Bool} {a : Act} {w : World} (hi : ops[i]? = some oi) (hd : oi.dst = some d)
    (hs : Region.noSelect ops = true) (hf : Region.free md ops listed i = true) (hr : (Region.ready md ops listed).contains i = true)
    (hQ : ∀ c a w, Q (.panic c) (a.put oi.dst v) w → Q (.panic c) a w) (hy : YieldsIf P ops S oi v a) (hS : S w)
    (h : wpAnyH P md ops Q S fuel (listed.setIfInBounds i true) (a.put (some d) v) w) : wpAnyH P md ops Q S (fuel + 1) listed a w :=
  wpAnyH_take hi hs hf hr hQ hy hS (by rw [hd]; exact h)

/-- What the loops carry: the function's box. -/
structure GC (w : World) (args regs slots : Int) (A : Option Addr) (n c : Nat) (W : World) : Prop where
  below : Below w.heap.size w W
  b : Row W w.heap.size 24 #[.int .i64 args, .int .i64 regs, .int .i64 slots, .slice A n c]
section
variable {w W W' : World} {args regs slots : Int} {A : Option Addr} {n c : Nat}
theorem GC.next (h : GC w args regs slots A n c W) (hb : Below W.heap.size W W') : GC w args regs slots A n c W' := ⟨h.below.trans (hb.mono h.below.size), h.b.below hb h.b.lt⟩
theorem GC.drewN (h : GC w args regs slots A n c W) (k : Nat) : GC w args regs slots A n c (W.drewN k) := h.next (blw_drew W k)
theorem GC.drew (h : GC w args regs slots A n c W) : GC w args regs slots A n c W.drew := h.drewN 1
theorem GC.cells10 (h : GC w args regs slots A n c W) {b q n1 c1 b1 q1 : Nat} {A1 : Option Addr} {x : Mi} (hb : b < w.heap.size) (h0 : w.cell? ⟨b, q, none⟩ = some (.slice A1 n1 c1)) (hb1 : b1 < w.heap.size) (hx : x.At w b1 q1) :
    GC w args regs slots A n c W ∧ W.cell? ⟨w.heap.size, 1, none⟩ = some (.int .i64 regs) ∧ W.cell? ⟨w.heap.size, 2, none⟩ = some (.int .i64 slots) ∧ W.cell? ⟨w.heap.size, 3, none⟩ = some (.slice A n c) ∧ W.cell? ⟨b, q, none⟩ = some (.slice A1 n1 c1) ∧
    W.cell? ⟨b1, q1, none⟩ = some (.int .i64 x.op) ∧ W.cell? ⟨b1, q1 + 1, none⟩ = some (.int .i64 x.d) ∧ W.cell? ⟨b1, q1 + 2, none⟩ = some (.int .i64 x.a) ∧ W.cell? ⟨b1, q1 + 3, none⟩ = some (.int .i64 x.b) ∧ W.cell? ⟨b1, q1 + 4, none⟩ = some (.int .i64 x.imm) ∧ W.cell? ⟨b1, q1 + 5, none⟩ = some (.int .i64 x.dst) ∧ W.cell? ⟨b1, q1 + 6, none⟩ = some (.int .i64 x.src) := by
  have g := hx.keep (w' := W) hb1 fun p hp => h.below.cell hp
  exact ⟨h, h.b.cell 1, h.b.cell 2, h.b.cell 3, (h.below.cell (p := ⟨b, q, none⟩) hb).trans h0, g.c0, g.c1, g.c2, g.c3, g.c4, g.c5, g.c6⟩
theorem GC.cells11 (h : GC w args regs slots A n c W) {b q n1 c1 : Nat} {A1 : Option Addr} {t : Tm} (hb : b < w.heap.size) (h0 : w.cell? ⟨b, q, none⟩ = some (.slice A1 n1 c1)) (h1 : w.cell? ⟨b, q + 1, none⟩ = some (.int .i64 t.kind)) (h2 : w.cell? ⟨b, q + 2, none⟩ = some (.int .i64 t.a)) (h3 : w.cell? ⟨b, q + 3, none⟩ = some (.int .i64 t.to)) (h4 : w.cell? ⟨b, q + 4, none⟩ = some (.int .i64 t.el)) :
    GC w args regs slots A n c W ∧ W.cell? ⟨w.heap.size, 1, none⟩ = some (.int .i64 regs) ∧ W.cell? ⟨w.heap.size, 3, none⟩ = some (.slice A n c) ∧ W.cell? ⟨b, q, none⟩ = some (.slice A1 n1 c1) ∧
    W.cell? ⟨b, q + 1, none⟩ = some (.int .i64 t.kind) ∧ W.cell? ⟨b, q + 2, none⟩ = some (.int .i64 t.a) ∧ W.cell? ⟨b, q + 3, none⟩ = some (.int .i64 t.to) ∧ W.cell? ⟨b, q + 4, none⟩ = some (.int .i64 t.el) :=
  ⟨h, h.b.cell 1, h.b.cell 3, (h.below.cell (p := ⟨b, q, none⟩) hb).trans h0, (h.below.cell (p := ⟨b, q + 1, none⟩) hb).trans h1, (h.below.cell (p := ⟨b, q + 2, none⟩) hb).trans h2, (h.below.cell (p := ⟨b, q + 3, none⟩) hb).trans h3, (h.below.cell (p := ⟨b, q + 4, none⟩) hb).trans h4⟩
end

set_option maxRecDepth 100000 in
set_option maxHeartbeats 4000000 in
theorem MachineCheck_walk (a0 : Array Value) (w : World) (w0 : IsMFn w a0) :
    Calls Try.prog 4 #[.agg a0] w fun e w' => e = .returned (.bool true) ∧ Below w.heap.size w w' := by
  obtain ⟨args, regs, slots, A, bs, c, rfl, _, _, _, hbl, hbm, hs, _⟩ := w0
  have hG0 : GC w args regs slots A bs.length c (w.alloc (.cells #[.int .i64 args, .int .i64 regs, .int .i64 slots, .slice A bs.length c] 24)) := ⟨(Below.refl w.heap.size w).alloc (Nat.le_refl _) _, Row.new w _ _⟩
  have HG0 := Lib.hid hG0
  have hbl2 : bs.length ≤ maxLen := Nat.le_trans hbl hbm
  have HS := Lib.hid hs
  clear hG0 hs
  go_enter Try.func4, Try.ntmps4
  go_wp2_with fail
  refine (awake_any _).mono ?_
  rintro e W1 ⟨rfl, hb⟩
  have HG1 := Lib.hid (HG0.out.next hb)
  clear hb HG0 hbl hbm
  have d0 := HG1.out.b.cell 0; have d1 := HG1.out.b.cell 1; have d2 := HG1.out.b.cell 2; have d3 := HG1.out.b.cell 3
  simp only [List.getElem?_toArray, List.getElem?_cons_zero, List.getElem?_cons_succ] at d0 d1 d2 d3
  go_wp2_with fail
  refine (rmfew_any w.heap.size A bs c args regs slots _ (HS.out.below HG1.out.below) HG1.out.below.size hbl2).mono ?_
  rintro e W2 ⟨⟨b, rfl, hf⟩, hb⟩
  have HG2 := Lib.hid (HG1.out.next hb)
  clear hb HG1 d0 d1 d2 d3 hbl2
  cases b
  · clear hf
    go_wp2_with fail
    refine (awake_any _).mono ?_
    rintro e W3 ⟨rfl, hb⟩
    have HG3 := Lib.hid (HG2.out.next hb)
    clear hb
    go_wp2
    go_ret
    exact ⟨rfl, HG3.out.below⟩
  · have HF := Lib.hid (hf rfl)
    clear hf
    have d0 := HG2.out.b.cell 0; have d1 := HG2.out.b.cell 1; have d2 := HG2.out.b.cell 2; have d3 := HG2.out.b.cell 3
    simp only [List.getElem?_toArray, List.getElem?_cons_zero, List.getElem?_cons_succ] at d0 d1 d2 d3
    have h40 : bs.length ≤ 40 := HF.out.1
    obtain ⟨ok, hok⟩ : ∃ z, z = (decide (0 ≤ args) && decide (args ≤ slots) && decide (0 ≤ regs) && decide ((0 : Int) < bs.length)) := ⟨_, rfl⟩
    have HE := Lib.hid (eMF_all args regs slots bs HF.out)
    rw [← hok] at HE
    have HOK := Lib.hid hok
    clear hok
    go_upto_region 3 with fail
    go_cut [3] from 14 (fun s3 wx => s3 = .bool ok ∧ wx = W2)
    case first =>
      by_cases h1 : 0 ≤ args
      · by_cases h2 : args ≤ slots
        · by_cases h3 : 0 ≤ regs
          · have e1 : ok = decide ((0 : Int) < bs.length) := by rw [HOK.out, decide_eq_true h1, decide_eq_true h2, decide_eq_true h3]; rfl
            have E1 := Lib.hid e1
            clear e1
            go_wp2
            go_meet
            case rel => exact ⟨by rw [E1.out]; congr 1; exact decide_eq_decide.2 (by omega), rfl⟩
          · have e1 : ok = false := by rw [HOK.out, decide_eq_false h3, Bool.and_false]; rfl
            have E1 := Lib.hid e1
            clear e1
            go_wp2
            go_meet
            case rel => exact ⟨by rw [E1.out], rfl⟩
        · have e1 : ok = false := by rw [HOK.out, decide_eq_false h2, Bool.and_false]; rfl
          have E1 := Lib.hid e1
          clear e1
          go_wp2
          go_meet
          case rel => exact ⟨by rw [E1.out], rfl⟩
      · have e1 : ok = false := by rw [HOK.out, decide_eq_false h1]; rfl
        have E1 := Lib.hid e1
        clear e1
        go_wp2
        go_meet
        case rel => exact ⟨by rw [E1.out], rfl⟩
    case rest =>
      obtain ⟨rfl, rfl⟩ := hcut
      clear HOK
      go_wp2
      clear d0 d1 d2 d3
      go_loopg [3, 4] bs.length (fun g s3 i wr => ∃ (k : Nat) (v : Bool), k + g = bs.length ∧ i = .int .i64 k ∧ s3 = .bool v ∧ Hid (v = (ok && (bs.take k).all (vMB regs slots bs.length))) ∧ Hid (GC w args regs slots A bs.length c wr))
      case atStart => exact ⟨0, ok, by omega, rfl, rfl, by simp [Hid], HG2.out⟩
      case round =>
        obtain ⟨k, v, hkg, rfl, rfl, HT, HG⟩ := hrel
        clear HG2
        have d0 := HG.out.b.cell 0; have d1 := HG.out.b.cell 1; have d2 := HG.out.b.cell 2; have d3 := HG.out.b.cell 3
        have hlz : w.heap.size < wr.heap.size := HG.out.b.lt
        simp only [List.getElem?_toArray, List.getElem?_cons_zero, List.getElem?_cons_succ] at d0 d1 d2 d3
        cases gk with
        | zero =>
          obtain rfl : k = bs.length := by omega
          rw [List.take_length] at HT
          have HC := Lib.hid (mcheck_any w.heap.size A bs c args regs slots wr (HS.out.below HG.out.below) HG.out.below.size (by omega) (by have := HF.out.2.2.2; omega))
          have HV : Hid (v = (eMF args regs slots bs == 0)) := by rw [Hid, HE.out, HT.out]
          obtain ⟨z, hz⟩ : ∃ z, z = eMF args regs slots bs := ⟨_, rfl⟩
          rw [← hz] at HC HV
          clear HT HE hz
          go_wp2_with fail
          refine HC.out.mono ?_
          rintro e W3 ⟨rfl, hb⟩
          have HG3 := Lib.hid (HG.out.next hb)
          clear hb HC
          have hv := HV.out
          clear HV
          subst hv
          go_wp2
          go_ret
          exact ⟨by simp, HG3.out.below⟩
        | succ g =>
          have hlt : k < bs.length := by omega
          obtain ⟨b, o, rfl, hb, hat⟩ := HS.out.at_ hlt
          have HAT := Lib.hid hat
          have HST : Hid ((bs.take (k + 1)).all (vMB regs slots bs.length) = ((bs.take k).all (vMB regs slots bs.length) && (bs[k].code.all (vM regs slots) && (decide (mvs bs[k].code ≤ 64) && eT bs[k].term regs bs.length == 0)))) := all_step (vMB regs slots bs.length) bs k hlt
          have hyl : bs[k].code.length ≤ 900 := by have := mcodeN_mem bs k hlt; have := HF.out.2.2.2; omega
          clear hat
          generalize bs[k] = y at *
          obtain ⟨A1, c1, hw0, hl1, hl2, hin⟩ := HAT.out.code
          have HW0 := Lib.hid hw0
          have HIN := Lib.hid hin
          have hc0 := (HG.out.below.cell (p := ⟨b, o + k * 5, none⟩) hb).trans hw0
          clear hw0 hin
          go_wp2
          clear hc0 d0 d1 d2 d3
          go_loopg [3, 5] y.code.length (fun g2 s3 j wx => ∃ (m : Nat) (v2 : Bool), m + g2 = y.code.length ∧ j = .int .i64 m ∧ s3 = .bool v2 ∧ Hid (v2 = (v && (y.code.take m).all (vM regs slots))) ∧ Hid (GC w args regs slots (some ⟨b, o, none⟩) bs.length c wx))
          case atStart => exact ⟨0, v, by omega, rfl, rfl, by simp [Hid], HG.out⟩
          case round =>
            obtain ⟨m, v2, hmg, rfl, rfl, HI, HGx⟩ := hrel
            clear HG
            have d1 := HGx.out.b.cell 1; have d2 := HGx.out.b.cell 2; have d3 := HGx.out.b.cell 3
            simp only [List.getElem?_toArray, List.getElem?_cons_zero, List.getElem?_cons_succ] at d1 d2 d3
            have hc0 := (HGx.out.below.cell (p := ⟨b, o + k * 5, none⟩) hb).trans HW0.out
            cases gk with
            | zero =>
              obtain rfl : m = y.code.length := by omega
              rw [List.take_length] at HI
              cases v2
              · have HN : Hid (false = (ok && (bs.take (k + 1)).all (vMB regs slots bs.length))) := by
                  rw [Hid, HST.out, ← Bool.and_assoc, ← Bool.and_assoc, ← HT.out, ← HI.out]; rfl
                go_wp2_with fail
                go_quiet (fail)
                go_wp2
                go_roundg g
                case measure => omega
                case rel => exact ⟨k + 1, false, by omega, by go_num, rfl, HN.out, HGx.out.drewN _⟩
              · have HN0 : Hid ((decide (mvs y.code ≤ 64) && eT y.term regs bs.length == 0) = (ok && (bs.take (k + 1)).all (vMB regs slots bs.length))) := by
                  rw [Hid, HST.out, ← Bool.and_assoc, ← Bool.and_assoc, ← HT.out, ← HI.out]; rfl
                have C1 := Lib.hid fun W (h : GC w args regs slots (some ⟨b, o, none⟩) bs.length c W) => (moves_any w.heap.size A1 y.code c1 W (HIN.out.below h.below) h.below.size (by omega)).mono fun e w' ⟨he, hb⟩ => (⟨he, h.next hb⟩ : e = _ ∧ GC w args regs slots (some ⟨b, o, none⟩) bs.length c w')
                have C2 := Lib.hid fun W (h : GC w args regs slots (some ⟨b, o, none⟩) bs.length c W) => (rterm_any y.term regs bs.length W).mono fun e w' ⟨he, hb⟩ => (⟨he, h.next hb⟩ : e = _ ∧ GC w args regs slots (some ⟨b, o, none⟩) bs.length c w')
                have HCL := Lib.hid fun W (h : GC w args regs slots (some ⟨b, o, none⟩) bs.length c W) => h.cells11 (t := y.term) hb HW0.out HAT.out.t0 HAT.out.t1 HAT.out.t2 HAT.out.t3
                have hq : mvs y.code ≤ 900 := by have := mvs_le y.code; omega
                obtain ⟨q, hqe⟩ : ∃ z, z = mvs y.code := ⟨_, rfl⟩
                obtain ⟨z, hze⟩ : ∃ z, z = eT y.term regs bs.length := ⟨_, rfl⟩
                rw [← hqe] at hq
                rw [← hqe, ← hze] at HN0
                simp only [← hqe] at C1
                simp only [← hze] at C2
                clear hqe hze
                have hG := HGx.out
                by_cases h64 : q ≤ 64
                · have h64' : (q : Int) ≤ 64 := by omega
                  have HN : Hid ((z == 0) = (ok && (bs.take (k + 1)).all (vMB regs slots bs.length))) := by rw [Hid, ← HN0.out, decide_eq_true h64]; rfl
                  clear HN0
                  go_wp2_with fail
                  go_region_held3 (fun w' => GC w args regs slots (some ⟨b, o, none⟩) bs.length c w' ∧ w'.cell? ⟨w.heap.size, 1, none⟩ = some (.int .i64 regs) ∧ w'.cell? ⟨w.heap.size, 3, none⟩ = some (.slice (some ⟨b, o, none⟩) bs.length c) ∧ w'.cell? ⟨b, o + k * 5, none⟩ = some (.slice A1 y.code.length c1) ∧ w'.cell? ⟨b, o + k * 5 + 1, none⟩ = some (.int .i64 y.term.kind) ∧ w'.cell? ⟨b, o + k * 5 + 2, none⟩ = some (.int .i64 y.term.a) ∧ w'.cell? ⟨b, o + k * 5 + 3, none⟩ = some (.int .i64 y.term.to) ∧ w'.cell? ⟨b, o + k * 5 + 4, none⟩ = some (.int .i64 y.term.el)) (first | exact HCL.out _ hG | exact HCL.out _ hG.drew | exact HCL.out _ (hG.drewN _)) (first
                    | (go_at_call 9; go_must ((with_reducible refine (C1.out _ (by first | exact hG | exact hG.drew | exact hG.drewN _)).mono ?_); rintro e W3 ⟨rfl, hG⟩))
                    | (go_at_call 17; go_must ((with_reducible refine (C2.out _ (by first | exact hG | exact hG.drew | exact hG.drewN _)).mono ?_); rintro e W3 ⟨rfl, hG⟩))
                    )
                  have HG3 := Lib.hid hG
                  clear hG HGx C1 C2 HCL d1 d2 d3 hc0
                  go_wp2
                  go_roundg g
                  case measure => omega
                  case rel => exact ⟨k + 1, _, by omega, by go_num, rfl, HN.out, HG3.out⟩
                · have h64' : decide ((q : Int) ≤ 64) = false := decide_eq_false (by omega)
                  have HN : Hid (false = (ok && (bs.take (k + 1)).all (vMB regs slots bs.length))) := by rw [Hid, ← HN0.out, decide_eq_false h64]; rfl
                  clear HN0
                  go_wp2_with fail
                  refine wp_region_held_drew (S := (fun w' => GC w args regs slots (some ⟨b, o, none⟩) bs.length c w' ∧ w'.cell? ⟨w.heap.size, 3, none⟩ = some (.slice (some ⟨b, o, none⟩) bs.length c) ∧ w'.cell? ⟨b, o + k * 5, none⟩ = some (.slice A1 y.code.length c1))) (by kernel_rfl) ⟨hG.drew, (HCL.out _ hG.drew).2.2.1, (HCL.out _ hG.drew).2.2.2.1⟩ (fun hHeld => ?_)
                  refine take_at 0 71 (.bool true) rfl rfl (by kernel_rfl) (by kernel_rfl) (by kernel_rfl) (fun _ _ _ h => h) (Or.inl ⟨by rfl, ?_⟩) hHeld ?_
                  · intro w9 hSw
                    (try dsimp only at hSw)
                    go_simp
                  (try simp only [Act.put, List.setIfInBounds_toArray, List.set_cons_zero, List.set_cons_succ])
                  refine take_at 1 72 (.bool true) rfl rfl (by kernel_rfl) (by kernel_rfl) (by kernel_rfl) (fun _ _ _ h => h) (Or.inl ⟨by rfl, ?_⟩) hHeld ?_
                  · intro w9 hSw
                    (try dsimp only at hSw)
                    go_simp
                  (try simp only [Act.put, List.setIfInBounds_toArray, List.set_cons_zero, List.set_cons_succ])
                  refine take_at 2 73 (.pointer (some ⟨w.heap.size, 3, none⟩)) rfl rfl (by kernel_rfl) (by kernel_rfl) (by kernel_rfl) (fun _ _ _ h => h) (Or.inl ⟨by rfl, ?_⟩) hHeld ?_
                  · intro w9 hSw
                    (try dsimp only at hSw)
                    go_simp
                  (try simp only [Act.put, List.setIfInBounds_toArray, List.set_cons_zero, List.set_cons_succ])
                  refine take_at 3 74 (.slice (some ⟨b, o, none⟩) bs.length c) rfl rfl (by kernel_rfl) (by kernel_rfl) (by kernel_rfl) (fun _ _ _ h => h) (Or.inl ⟨by rfl, ?_⟩) hHeld ?_
                  · intro w9 hSw
                    (try dsimp only at hSw)
                    go_simp
                  (try simp only [Act.put, List.setIfInBounds_toArray, List.set_cons_zero, List.set_cons_succ])
                  refine take_at 4 75 (.int .i64 k) rfl rfl (by kernel_rfl) (by kernel_rfl) (by kernel_rfl) (fun _ _ _ h => h) (Or.inl ⟨by rfl, ?_⟩) hHeld ?_
                  · intro w9 hSw
                    (try dsimp only at hSw)
                    go_simp
                  (try simp only [Act.put, List.setIfInBounds_toArray, List.set_cons_zero, List.set_cons_succ])
                  refine take_at 5 76 (.pointer (some ⟨b, o + k * 5, none⟩)) rfl rfl (by kernel_rfl) (by kernel_rfl) (by kernel_rfl) (fun _ _ _ h => h) (Or.inl ⟨by rfl, ?_⟩) hHeld ?_
                  · intro w9 hSw
                    (try dsimp only at hSw)
                    go_simp
                  (try simp only [Act.put, List.setIfInBounds_toArray, List.set_cons_zero, List.set_cons_succ])
                  refine take_at 6 77 (.pointer (some ⟨b, o + k * 5, none⟩)) rfl rfl (by kernel_rfl) (by kernel_rfl) (by kernel_rfl) (fun _ _ _ h => h) (Or.inl ⟨by rfl, ?_⟩) hHeld ?_
                  · intro w9 hSw
                    (try dsimp only at hSw)
                    go_simp
                  (try simp only [Act.put, List.setIfInBounds_toArray, List.set_cons_zero, List.set_cons_succ])
                  refine take_at 7 78 (.slice A1 y.code.length c1) rfl rfl (by kernel_rfl) (by kernel_rfl) (by kernel_rfl) (fun _ _ _ h => h) (Or.inl ⟨by rfl, ?_⟩) hHeld ?_
                  · intro w9 hSw
                    (try dsimp only at hSw)
                    go_simp
                  (try simp only [Act.put, List.setIfInBounds_toArray, List.set_cons_zero, List.set_cons_succ])
                  refine wpAnyH_ready (rs := [8]) (by kernel_rfl) (by simp) ?_
                  refine AllReadyH.cons rfl (fun K hK => ?_) AllReadyH.nil
                  go_simp
                  refine (C1.out _ (by first | exact hG | exact hG.drew)).mono ?_
                  rintro e W3 ⟨rfl, hG⟩
                  (try go_wp2_with fail)
                  refine hK.out _ _ ⟨hG, (HCL.out _ hG).2.2.1, (HCL.out _ hG).2.2.2.1⟩ (fun hHeld => ?_)
                  clear hK K
                  refine take_at 9 80 (.bool false) rfl rfl (by kernel_rfl) (by kernel_rfl) (by kernel_rfl) (fun _ _ _ h => h) (Or.inl ⟨by rfl, ?_⟩) hHeld ?_
                  · intro w9 hSw
                    (try dsimp only at hSw)
                    go_simp
                  (try simp only [Act.put, List.setIfInBounds_toArray, List.set_cons_zero, List.set_cons_succ])
                  refine take_at 10 81 (.bool false) rfl rfl (by kernel_rfl) (by kernel_rfl) (by kernel_rfl) (fun _ _ _ h => h) (Or.inl ⟨by rfl, ?_⟩) hHeld ?_
                  · intro w9 hSw
                    (try dsimp only at hSw)
                    go_simp
                  (try simp only [Act.put, List.setIfInBounds_toArray, List.set_cons_zero, List.set_cons_succ])
                  refine take_at 11 82 (.bool false) rfl rfl (by kernel_rfl) (by kernel_rfl) (by kernel_rfl) (fun _ _ _ h => h) (Or.inl ⟨by rfl, ?_⟩) hHeld ?_
                  · intro w9 hSw
                    (try dsimp only at hSw)
                    go_simp
                  (try simp only [Act.put, List.setIfInBounds_toArray, List.set_cons_zero, List.set_cons_succ])
                  refine take_at 12 83 undef rfl rfl (by kernel_rfl) (by kernel_rfl) (by kernel_rfl) (fun _ _ _ h => h) (Or.inr ⟨by rfl, rfl⟩) hHeld ?_
                  (try simp only [Act.put, List.setIfInBounds_toArray, List.set_cons_zero, List.set_cons_succ])
                  refine take_at 13 84 undef rfl rfl (by kernel_rfl) (by kernel_rfl) (by kernel_rfl) (fun _ _ _ h => h) (Or.inr ⟨by rfl, rfl⟩) hHeld ?_
                  (try simp only [Act.put, List.setIfInBounds_toArray, List.set_cons_zero, List.set_cons_succ])
                  refine take_at 14 85 undef rfl rfl (by kernel_rfl) (by kernel_rfl) (by kernel_rfl) (fun _ _ _ h => h) (Or.inr ⟨by rfl, rfl⟩) hHeld ?_
                  (try simp only [Act.put, List.setIfInBounds_toArray, List.set_cons_zero, List.set_cons_succ])
                  refine take_at 15 86 undef rfl rfl (by kernel_rfl) (by kernel_rfl) (by kernel_rfl) (fun _ _ _ h => h) (Or.inr ⟨by rfl, rfl⟩) hHeld ?_
                  (try simp only [Act.put, List.setIfInBounds_toArray, List.set_cons_zero, List.set_cons_succ])
                  refine take_at 16 87 undef rfl rfl (by kernel_rfl) (by kernel_rfl) (by kernel_rfl) (fun _ _ _ h => h) (Or.inr ⟨by rfl, rfl⟩) hHeld ?_
                  (try simp only [Act.put, List.setIfInBounds_toArray, List.set_cons_zero, List.set_cons_succ])
                  refine take_at 17 88 undef rfl rfl (by kernel_rfl) (by kernel_rfl) (by kernel_rfl) (fun _ _ _ h => h) (Or.inr ⟨by rfl, rfl⟩) hHeld ?_
                  (try simp only [Act.put, List.setIfInBounds_toArray, List.set_cons_zero, List.set_cons_succ])
                  refine take_at 18 89 undef rfl rfl (by kernel_rfl) (by kernel_rfl) (by kernel_rfl) (fun _ _ _ h => h) (Or.inr ⟨by rfl, rfl⟩) hHeld ?_
                  (try simp only [Act.put, List.setIfInBounds_toArray, List.set_cons_zero, List.set_cons_succ])
                  refine take_at 19 90 undef rfl rfl (by kernel_rfl) (by kernel_rfl) (by kernel_rfl) (fun _ _ _ h => h) (Or.inr ⟨by rfl, rfl⟩) hHeld ?_
                  (try simp only [Act.put, List.setIfInBounds_toArray, List.set_cons_zero, List.set_cons_succ])
                  refine take_at 20 91 undef rfl rfl (by kernel_rfl) (by kernel_rfl) (by kernel_rfl) (fun _ _ _ h => h) (Or.inr ⟨by rfl, rfl⟩) hHeld ?_
                  (try simp only [Act.put, List.setIfInBounds_toArray, List.set_cons_zero, List.set_cons_succ])
                  refine take_at 21 92 undef rfl rfl (by kernel_rfl) (by kernel_rfl) (by kernel_rfl) (fun _ _ _ h => h) (Or.inr ⟨by rfl, rfl⟩) hHeld ?_
                  (try simp only [Act.put, List.setIfInBounds_toArray, List.set_cons_zero, List.set_cons_succ])
                  refine take_at 22 93 undef rfl rfl (by kernel_rfl) (by kernel_rfl) (by kernel_rfl) (fun _ _ _ h => h) (Or.inr ⟨by rfl, rfl⟩) hHeld ?_
                  (try simp only [Act.put, List.setIfInBounds_toArray, List.set_cons_zero, List.set_cons_succ])
                  refine take_at 23 94 undef rfl rfl (by kernel_rfl) (by kernel_rfl) (by kernel_rfl) (fun _ _ _ h => h) (Or.inr ⟨by rfl, rfl⟩) hHeld ?_
                  (try simp only [Act.put, List.setIfInBounds_toArray, List.set_cons_zero, List.set_cons_succ])
                  refine take_at 24 95 undef rfl rfl (by kernel_rfl) (by kernel_rfl) (by kernel_rfl) (fun _ _ _ h => h) (Or.inr ⟨by rfl, rfl⟩) hHeld ?_
                  (try simp only [Act.put, List.setIfInBounds_toArray, List.set_cons_zero, List.set_cons_succ])
                  refine take_at 25 96 (.bool false) rfl rfl (by kernel_rfl) (by kernel_rfl) (by kernel_rfl) (fun _ _ _ h => h) (Or.inl ⟨by rfl, ?_⟩) hHeld ?_
                  · intro w9 hSw
                    (try dsimp only at hSw)
                    go_simp
                  (try simp only [Act.put, List.setIfInBounds_toArray, List.set_cons_zero, List.set_cons_succ])
                  refine wpAnyH_ready (rs := [26]) (by kernel_rfl) (by simp) ?_
                  refine AllReadyH.cons rfl (fun K hK => ?_) AllReadyH.nil
                  go_simp
                  refine hK.out _ _ ⟨hG, (HCL.out _ hG).2.2.1, (HCL.out _ hG).2.2.2.1⟩ (fun hHeld => ?_)
                  clear hK K
                  refine wpAnyH_done (by kernel_rfl) ?_ _
                  have HG3 := Lib.hid hG
                  clear hHeld hG HGx C1 C2 HCL d1 d2 d3 hc0
                  go_wp2
                  go_roundg g
                  case measure => omega
                  case rel => exact ⟨k + 1, false, by omega, by go_num, rfl, HN.out, HG3.out⟩
            | succ g2 =>
              have hlm : m < y.code.length := by omega
              obtain ⟨b1, o1, rfl, hb1, hxat⟩ := HIN.out.at_ hlm
              have HJ : Hid ((y.code.take (m + 1)).all (vM regs slots) = ((y.code.take m).all (vM regs slots) && eM y.code[m] regs slots == 0)) := all_step (vM regs slots) y.code m hlm
              have C1 := Lib.hid fun W (h : GC w args regs slots (some ⟨b, o, none⟩) bs.length c W) => (minstr_any y.code[m] regs slots W hxat.ok).mono fun e w' ⟨he, hb⟩ => (⟨he, h.next hb⟩ : e = _ ∧ GC w args regs slots (some ⟨b, o, none⟩) bs.length c w')
              have HCL := Lib.hid fun W (h : GC w args regs slots (some ⟨b, o, none⟩) bs.length c W) => h.cells10 hb HW0.out hb1 hxat
              have HX := Lib.hid (hxat.keep (w' := wr) hb1 fun p hp => HGx.out.below.cell hp)
              clear hxat
              generalize y.code[m] = x at *
              obtain ⟨z, hz⟩ : ∃ z, z = eM x regs slots := ⟨_, rfl⟩
              rw [← hz] at HJ
              simp only [← hz] at C1
              clear hz
              cases v2
              · have HN : Hid (false = (v && (y.code.take (m + 1)).all (vM regs slots))) := by
                  rw [Hid, HJ.out, ← Bool.and_assoc, ← HI.out]; rfl
                go_wp2_with fail
                go_quiet (fail)
                go_wp2
                go_roundg g2
                case measure => omega
                case rel => exact ⟨m + 1, false, by omega, by go_num, rfl, HN.out, HGx.out.drewN _⟩
              · have HN : Hid ((z == 0) = (v && (y.code.take (m + 1)).all (vM regs slots))) := by
                  rw [Hid, HJ.out, ← Bool.and_assoc, ← HI.out]; rfl
                have hG := HGx.out
                go_wp2_with fail
                go_region_held3 (fun w' => GC w args regs slots (some ⟨b, o, none⟩) bs.length c w' ∧ w'.cell? ⟨w.heap.size, 1, none⟩ = some (.int .i64 regs) ∧ w'.cell? ⟨w.heap.size, 2, none⟩ = some (.int .i64 slots) ∧ w'.cell? ⟨w.heap.size, 3, none⟩ = some (.slice (some ⟨b, o, none⟩) bs.length c) ∧ w'.cell? ⟨b, o + k * 5, none⟩ = some (.slice (some ⟨b1, o1, none⟩) y.code.length c1) ∧ w'.cell? ⟨b1, o1 + m * 7, none⟩ = some (.int .i64 x.op) ∧ w'.cell? ⟨b1, o1 + m * 7 + 1, none⟩ = some (.int .i64 x.d) ∧ w'.cell? ⟨b1, o1 + m * 7 + 2, none⟩ = some (.int .i64 x.a) ∧ w'.cell? ⟨b1, o1 + m * 7 + 3, none⟩ = some (.int .i64 x.b) ∧ w'.cell? ⟨b1, o1 + m * 7 + 4, none⟩ = some (.int .i64 x.imm) ∧ w'.cell? ⟨b1, o1 + m * 7 + 5, none⟩ = some (.int .i64 x.dst) ∧ w'.cell? ⟨b1, o1 + m * 7 + 6, none⟩ = some (.int .i64 x.src)) (first | exact HCL.out _ hG | exact HCL.out _ hG.drew | exact HCL.out _ (hG.drewN _)) (first
                  | (go_at_call 13; go_must ((with_reducible refine (C1.out _ (by first | exact hG | exact hG.drew | exact hG.drewN _)).mono ?_); rintro e W3 ⟨rfl, hG⟩))
                  )
                have HG3 := Lib.hid hG
                clear hG HGx C1 HCL d1 d2 d3 hc0
                go_wp2
                go_roundg g2
                case measure => omega
                case rel => exact ⟨m + 1, _, by omega, by go_num, rfl, HN.out, HG3.out⟩

end Go.Proofs.Ytcindgaonaloeaa
