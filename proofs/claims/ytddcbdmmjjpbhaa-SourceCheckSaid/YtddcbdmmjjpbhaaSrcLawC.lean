/-
  The walk of the statement on Check of layer 7.
-/
import Derived.Test.YtddcbdmmjjpbhaaSrcAwake
import Derived.Test.YtddcbdmmjjpbhaaSrcFew
import Derived.Test.YtddcbdmmjjpbhaaSrcIn
import Derived.Deep.LoopGhost
import Derived.Deep.Cut
import Derived.Deep.CutRange
import Derived.Deep.RegionWith
import Derived.Deep.RegionHeld3
import Derived.Deep.DeepMust
import Derived.Deep.QuietTactic
import Derived.BigQuiet
namespace Go.Proofs.Ytddcbdmmjjpbhaa
open Go.RowKit
set_option linter.unusedVariables false

/-- Whether all instructions, a block, all blocks are valid. -/
def vI (regs : Int) (x : In) : Bool := eI x regs == 0
def vB (regs n : Int) (x : Blk) : Bool := x.code.all (vI regs) && eT x.term regs n == 0
theorem eIs_all (regs : Int) : ∀ l : List In, (eIs regs l == 0) = l.all (vI regs)
  | [] => rfl
  | x :: r => by
    have ih := eIs_all regs r
    rw [eIs, List.all_cons, vI]
    split
    · next h => rw [ih, h]; rfl
    · next h => rw [show (eI x regs == 0) = false from beq_eq_false_iff_ne.2 h]; rfl
theorem eB_all (regs n : Int) (x : Blk) : (eB x regs n == 0) = vB regs n x := by
  have h1 := eIs_all regs x.code
  rw [eB, vB, ← h1]
  split
  · next h => rw [h]; rfl
  · next h => rw [show (eIs regs x.code == 0) = false from beq_eq_false_iff_ne.2 h]; rfl
theorem eBs_all (regs n : Int) : ∀ l : List Blk, (eBs regs n l == 0) = l.all (vB regs n)
  | [] => rfl
  | x :: r => by
    have ih := eBs_all regs n r
    have h1 := eB_all regs n x
    rw [eBs, List.all_cons, ← h1]
    split
    · next h => rw [ih, h]; rfl
    · next h => rw [show (eB x regs n == 0) = false from beq_eq_false_iff_ne.2 h]; rfl
theorem eF_all (args regs : Int) (bs : List Blk) (hf : FewF regs bs) : (eF args regs bs == 0) = (decide (0 ≤ args) && decide (args ≤ regs) && decide ((0 : Int) < bs.length) && bs.all (vB regs bs.length)) := by
  obtain ⟨h1, h2, h3⟩ := hf
  have h4 := eBs_all regs bs.length bs
  rcases sizes_ways args regs bs (by omega) (by omega) with ⟨a1, he⟩ | ⟨a1, a2, he⟩ | ⟨a1, a2, ⟨a3, he⟩ | ⟨a3, ⟨a4, he⟩ | ⟨a4, he⟩⟩⟩
  · rw [eF, he, decide_eq_false (by omega : ¬ 0 ≤ args)]; rfl
  · rw [eF, he, decide_eq_false (by omega : ¬ args ≤ regs), Bool.and_false]; rfl
  · omega
  · rw [eF, he, decide_eq_false (by omega : ¬ (0 : Int) < bs.length), Bool.and_false]; rfl
  · rw [eF, he, decide_eq_true a1, decide_eq_true a2, decide_eq_true (by omega : (0 : Int) < bs.length), ← h4]; rfl
theorem all_step {α : Type} (p : α → Bool) (l : List α) (k : Nat) (h : k < l.length) : (l.take (k + 1)).all p = ((l.take k).all p && p l[k]) := by
  rw [List.take_succ_eq_append_getElem h, List.all_append]
  simp

set_option maxRecDepth 100000 in
set_option maxHeartbeats 4000000 in
theorem SourceCheck_walk (a0 : Array Value) (w : World) (w0 : IsFn w a0) :
    Calls Try.prog 4 #[.agg a0] w fun e w' => e = .returned (.bool true) ∧ Below w.heap.size w w' := by
  obtain ⟨args, regs, A, bs, c, rfl, _, _, hbl, hbm, hs, _⟩ := w0
  have HB0 := Lib.hid ((Below.refl w.heap.size w).alloc (Nat.le_refl _) (.cells #[.int .i64 args, .int .i64 regs, .slice A bs.length c] 24))
  have HX0 := Lib.hid (Row.new w 24 #[.int .i64 args, .int .i64 regs, .slice A bs.length c])
  have hbl2 : bs.length ≤ maxLen := Nat.le_trans hbl hbm
  go_enter Try.func4, Try.ntmps4
  go_wp2_with fail
  refine (awake_any _).mono ?_
  rintro e W1 ⟨rfl, hb⟩
  have HB1 := Lib.hid (HB0.out.trans (hb.mono HB0.out.size))
  have HX1 := Lib.hid (HX0.out.below hb HX0.out.lt)
  have HS := Lib.hid hs
  clear hb HB0 HX0 hbl hbm hs
  have d0 := HX1.out.cell 0; have d1 := HX1.out.cell 1; have d2 := HX1.out.cell 2
  simp only [List.getElem?_toArray, List.getElem?_cons_zero, List.getElem?_cons_succ] at d0 d1 d2
  go_wp2_with fail
  refine (rfew_any w.heap.size A bs c args regs _ (HS.out.below HB1.out) HB1.out.size hbl2).mono ?_
  rintro e W2 ⟨⟨b, rfl, hf⟩, hb⟩
  have HB2 := Lib.hid (HB1.out.trans (hb.mono HB1.out.size))
  have HX2 := Lib.hid (HX1.out.below hb HX1.out.lt)
  clear hb HB1 HX1 d0 d1 d2 hbl2
  cases b
  · clear hf
    go_wp2_with fail
    refine (awake_any _).mono ?_
    rintro e W3 ⟨rfl, hb⟩
    have HB3 := Lib.hid (HB2.out.trans (hb.mono HB2.out.size))
    clear hb
    go_wp2
    go_ret
    exact ⟨rfl, HB3.out⟩
  · have HF := Lib.hid (hf rfl)
    clear hf
    have d0 := HX2.out.cell 0; have d1 := HX2.out.cell 1; have d2 := HX2.out.cell 2
    simp only [List.getElem?_toArray, List.getElem?_cons_zero, List.getElem?_cons_succ] at d0 d1 d2
    have h40 : bs.length ≤ 40 := HF.out.1
    obtain ⟨ok, hok⟩ : ∃ z, z = (decide (0 ≤ args) && decide (args ≤ regs) && decide ((0 : Int) < bs.length)) := ⟨_, rfl⟩
    have HE := Lib.hid (eF_all args regs bs HF.out)
    rw [← hok] at HE
    have HOK := Lib.hid hok
    clear hok
    go_upto_region 3 with fail
    go_cut [3] from 14 (fun s3 wx => s3 = .bool ok ∧ wx = W2)
    case first =>
      by_cases h1 : 0 ≤ args
      · by_cases h2 : args ≤ regs
        · have e1 : ok = decide ((0 : Int) < bs.length) := by rw [HOK.out, decide_eq_true h1, decide_eq_true h2]; rfl
          have E1 := Lib.hid e1
          clear e1
          go_wp2
          go_meet
          case rel => exact ⟨by rw [E1.out]; congr 1; exact decide_eq_decide.2 (by omega), rfl⟩
        · have e1 : ok = false := by rw [HOK.out, decide_eq_false h2, Bool.and_false]; rfl
          have E1 := Lib.hid e1
          clear e1
          go_wp2
          go_meet
          case rel => exact ⟨by rw [E1.out], rfl⟩
      · have e1 : ok = false := by rw [HOK.out, decide_eq_false h1]; rfl
        have E1 := Lib.hid e1
        clear e1
        go_wp2
        go_meet
        case rel => exact ⟨by rw [E1.out], rfl⟩
    case rest =>
      obtain ⟨rfl, rfl⟩ := hcut
      clear HOK
      go_wp2
      clear d0 d1 d2
      go_loopg [3, 4] bs.length (fun g s3 i wr => ∃ (k : Nat) (v : Bool), k + g = bs.length ∧ i = .int .i64 k ∧ s3 = .bool v ∧ Hid (v = (ok && (bs.take k).all (vB regs bs.length))) ∧ Hid (Below w.heap.size w wr) ∧ Hid (Row wr w.heap.size 24 #[.int .i64 args, .int .i64 regs, .slice A bs.length c]))
      case atStart => exact ⟨0, ok, by omega, rfl, rfl, by simp [Hid], HB2.out, HX2.out⟩
      case round =>
        obtain ⟨k, v, hkg, rfl, rfl, HT, HB, HR⟩ := hrel
        clear HB2 HX2
        have d0 := HR.out.cell 0; have d1 := HR.out.cell 1; have d2 := HR.out.cell 2
        have hlz : w.heap.size < wr.heap.size := HR.out.lt
        simp only [List.getElem?_toArray, List.getElem?_cons_zero, List.getElem?_cons_succ] at d0 d1 d2
        cases gk with
        | zero =>
          obtain rfl : k = bs.length := by omega
          rw [List.take_length] at HT
          have HC := Lib.hid (check_any w.heap.size A bs c args regs wr (HS.out.below HB.out) HB.out.size (by omega) (by have := HF.out.2.2; omega))
          have HV : Hid (v = (eF args regs bs == 0)) := by rw [Hid, HE.out, HT.out]
          obtain ⟨z, hz⟩ : ∃ z, z = eF args regs bs := ⟨_, rfl⟩
          rw [← hz] at HC HV
          clear HT HE hz
          go_wp2_with fail
          refine HC.out.mono ?_
          rintro e W3 ⟨rfl, hb⟩
          have HB3 := Lib.hid (HB.out.trans (hb.mono HB.out.size))
          clear hb HC
          have hv := HV.out
          clear HV
          subst hv
          go_wp2
          go_ret
          exact ⟨by simp, HB3.out⟩
        | succ g =>
          have hlt : k < bs.length := by omega
          obtain ⟨b, o, rfl, hb, hat⟩ := HS.out.at_ hlt
          have HAT := Lib.hid hat
          have HST : Hid ((bs.take (k + 1)).all (vB regs bs.length) = ((bs.take k).all (vB regs bs.length) && (bs[k].code.all (vI regs) && eT bs[k].term regs bs.length == 0))) := all_step (vB regs bs.length) bs k hlt
          have hyl : bs[k].code.length ≤ 300 := by have := codeN_mem bs k hlt; have := HF.out.2.2; omega
          clear hat
          generalize bs[k] = y at *
          obtain ⟨A1, c1, hc0, hl1, hl2, _⟩ := (HAT.out.keep hb fun p hp => HB.out.cell hp).code
          go_wp2
          clear hc0 d0 d1 d2
          go_loopg [3, 5] y.code.length (fun g2 s3 j wx => ∃ (m : Nat) (v2 : Bool), m + g2 = y.code.length ∧ j = .int .i64 m ∧ s3 = .bool v2 ∧ Hid (v2 = (v && (y.code.take m).all (vI regs))) ∧ Hid (Below w.heap.size w wx) ∧ Hid (Row wx w.heap.size 24 #[.int .i64 args, .int .i64 regs, .slice (some ⟨b, o, none⟩) bs.length c]))
          case atStart => exact ⟨0, v, by omega, rfl, rfl, by simp [Hid], HB.out, HR.out⟩
          case round =>
            obtain ⟨m, v2, hmg, rfl, rfl, HI, HBx, HRx⟩ := hrel
            clear HB HR
            have d1 := HRx.out.cell 1; have d2 := HRx.out.cell 2
            have hzo : w.heap.size < wr.heap.size := HRx.out.lt
            have hzx := HBx.out.size
            simp only [List.getElem?_toArray, List.getElem?_cons_zero, List.getElem?_cons_succ] at d1 d2
            have HA2 : Hid (y.At wr w.heap.size b (o + k * 5)) := HAT.out.keep hb fun p hp => HBx.out.cell hp
            cases gk with
            | zero =>
              obtain rfl : m = y.code.length := by omega
              rw [List.take_length] at HI
              obtain ⟨A2, c2, hc0, _, _, hin⟩ := HA2.out.code
              have hc1 := HA2.out.t0; have hc2 := HA2.out.t1; have hc3 := HA2.out.t2; have hc4 := HA2.out.t3
              clear hin
              cases v2
              · have HN : Hid (false = (ok && (bs.take (k + 1)).all (vB regs bs.length))) := by
                  rw [Hid, HST.out, ← Bool.and_assoc, ← Bool.and_assoc, ← HT.out, ← HI.out]; rfl
                have HB3 := Lib.hid HBx.out
                go_wp2_with fail
                go_quiet (fail)
                go_wp2
                go_roundg g
                case measure => omega
                case rel => exact ⟨k + 1, false, by omega, by go_num, rfl, HN.out, blw_drewN HBx.out _, HRx.out.drewN _⟩
              · have HV := Lib.hid (fun W => term_any y.term regs bs.length W)
                obtain ⟨z, hz⟩ : ∃ z, z = eT y.term regs bs.length := ⟨_, rfl⟩
                have HN : Hid ((z == 0) = (ok && (bs.take (k + 1)).all (vB regs bs.length))) := by
                  rw [Hid, HST.out, ← Bool.and_assoc, ← Bool.and_assoc, ← HT.out, ← HI.out, hz]; rfl
                simp only [← hz] at HV
                clear hz
                have HVV : Hid (∀ w0, (∃ m, w0 = wr.drewN m) → Calls Try.prog 13 #[.agg #[.int .i64 y.term.kind, .int .i64 y.term.a, .int .i64 y.term.to, .int .i64 y.term.el], .int .i64 regs, .int .i64 bs.length] w0 fun e w' => e = .returned (.int .i64 z) ∧ Below wr.heap.size wr w') := fun w0 ⟨m, hm⟩ => by
                  subst hm
                  refine (HV.out _).mono ?_
                  rintro e w' ⟨rfl, h1⟩
                  exact ⟨rfl, below_unN h1 (Nat.le_refl _)⟩
                have HXx := Lib.hid (And.intro d1 (And.intro d2 (And.intro hc1 (And.intro hc2 (And.intro hc3 hc4)))))
                clear HV
                go_wp2_with fail
                go_region_held3 (fun w' => w'.cell? ⟨w.heap.size, 1, none⟩ = some (.int .i64 regs) ∧ w'.cell? ⟨w.heap.size, 2, none⟩ = some (.slice (some ⟨b, o, none⟩) bs.length c) ∧ w'.cell? ⟨b, o + k * 5 + 1, none⟩ = some (.int .i64 y.term.kind) ∧ w'.cell? ⟨b, o + k * 5 + 2, none⟩ = some (.int .i64 y.term.a) ∧ w'.cell? ⟨b, o + k * 5 + 3, none⟩ = some (.int .i64 y.term.to) ∧ w'.cell? ⟨b, o + k * 5 + 4, none⟩ = some (.int .i64 y.term.el)) (first | exact HXx.out | exact hXa) (first
                  | (go_at_call 13; go_must (((with_reducible refine (HVV.out _ (by first | exact ⟨1, rfl⟩ | exact ⟨0, rfl⟩ | exact ⟨_, rfl⟩)).mono ?_); rintro e Wa ⟨rfl, hb9⟩; have HWa := Lib.hid hb9; have hXa := (And.intro ((hb9.cell (p := ⟨w.heap.size, 1, none⟩) hzo).trans HXx.out.1) (And.intro ((hb9.cell (p := ⟨w.heap.size, 2, none⟩) hzo).trans HXx.out.2.1) (And.intro ((hb9.cell (p := ⟨b, o + k * 5 + 1, none⟩) (by show b < _; omega)).trans HXx.out.2.2.1) (And.intro ((hb9.cell (p := ⟨b, o + k * 5 + 2, none⟩) (by show b < _; omega)).trans HXx.out.2.2.2.1) (And.intro ((hb9.cell (p := ⟨b, o + k * 5 + 3, none⟩) (by show b < _; omega)).trans HXx.out.2.2.2.2.1) ((hb9.cell (p := ⟨b, o + k * 5 + 4, none⟩) (by show b < _; omega)).trans HXx.out.2.2.2.2.2)))))); clear hb9)))
                  )
                have HB3 := Lib.hid (HBx.out.trans (HWa.out.mono hzx))
                have HR3 := Lib.hid (HRx.out.below HWa.out hzo)
                clear hXa HXx HVV HWa d1 d2 hc0 hc1 hc2 hc3 hc4 HBx HRx
                go_wp2
                go_roundg g
                case measure => omega
                case rel => exact ⟨k + 1, _, by omega, by go_num, rfl, HN.out, HB3.out, HR3.out⟩
            | succ g2 =>
              have hlm : m < y.code.length := by omega
              obtain ⟨A2, c2, hc0, _, _, hin⟩ := HA2.out.code
              obtain ⟨b1, o1, rfl, hb1, hat⟩ := hin.at_ hlm
              have i0 := hat.c0; have i1 := hat.c1; have i2 := hat.c2; have i3 := hat.c3; have i4 := hat.c4
              have HJ : Hid ((y.code.take (m + 1)).all (vI regs) = ((y.code.take m).all (vI regs) && eI y.code[m] regs == 0)) := all_step (vI regs) y.code m hlm
              have HV := Lib.hid (fun W => instr_any y.code[m] regs W)
              clear hat hin
              generalize y.code[m] = x at *
              obtain ⟨z, hz⟩ : ∃ z, z = eI x regs := ⟨_, rfl⟩
              rw [← hz] at HJ
              simp only [← hz] at HV
              clear hz
              cases v2
              · have HN : Hid (false = (v && (y.code.take (m + 1)).all (vI regs))) := by
                  rw [Hid, HJ.out, ← Bool.and_assoc, ← HI.out]; rfl
                go_wp2_with fail
                go_quiet (fail)
                go_wp2
                go_roundg g2
                case measure => omega
                case rel => exact ⟨m + 1, false, by omega, by go_num, rfl, HN.out, blw_drewN HBx.out _, HRx.out.drewN _⟩
              · have HN : Hid ((z == 0) = (v && (y.code.take (m + 1)).all (vI regs))) := by
                  rw [Hid, HJ.out, ← Bool.and_assoc, ← HI.out]; rfl
                have HVV : Hid (∀ w0, (∃ m, w0 = wr.drewN m) → Calls Try.prog 11 #[.agg #[.int .i64 x.op, .int .i64 x.d, .int .i64 x.a, .int .i64 x.b, .int .i64 x.imm], .int .i64 regs] w0 fun e w' => e = .returned (.int .i64 z) ∧ Below wr.heap.size wr w') := fun w0 ⟨m, hm⟩ => by
                  subst hm
                  refine (HV.out _).mono ?_
                  rintro e w' ⟨rfl, h1⟩
                  exact ⟨rfl, below_unN h1 (Nat.le_refl _)⟩
                have HXx := Lib.hid (And.intro d1 (And.intro d2 (And.intro hc0 (And.intro i0 (And.intro i1 (And.intro i2 (And.intro i3 i4)))))))
                clear HV
                go_wp2_with fail
                go_region_held3 (fun w' => w'.cell? ⟨w.heap.size, 1, none⟩ = some (.int .i64 regs) ∧ w'.cell? ⟨w.heap.size, 2, none⟩ = some (.slice (some ⟨b, o, none⟩) bs.length c) ∧ w'.cell? ⟨b, o + k * 5, none⟩ = some (.slice (some ⟨b1, o1, none⟩) y.code.length c2) ∧ w'.cell? ⟨b1, o1 + m * 5, none⟩ = some (.int .i64 x.op) ∧ w'.cell? ⟨b1, o1 + m * 5 + 1, none⟩ = some (.int .i64 x.d) ∧ w'.cell? ⟨b1, o1 + m * 5 + 2, none⟩ = some (.int .i64 x.a) ∧ w'.cell? ⟨b1, o1 + m * 5 + 3, none⟩ = some (.int .i64 x.b) ∧ w'.cell? ⟨b1, o1 + m * 5 + 4, none⟩ = some (.int .i64 x.imm)) (first | exact HXx.out | exact hXa) (first
                  | (go_at_call 11; go_must (((with_reducible refine (HVV.out _ (by first | exact ⟨1, rfl⟩ | exact ⟨0, rfl⟩ | exact ⟨_, rfl⟩)).mono ?_); rintro e Wa ⟨rfl, hb9⟩; have HWa := Lib.hid hb9; have hXa := (And.intro ((hb9.cell (p := ⟨w.heap.size, 1, none⟩) hzo).trans HXx.out.1) (And.intro ((hb9.cell (p := ⟨w.heap.size, 2, none⟩) hzo).trans HXx.out.2.1) (And.intro ((hb9.cell (p := ⟨b, o + k * 5, none⟩) (by show b < _; omega)).trans HXx.out.2.2.1) (And.intro ((hb9.cell (p := ⟨b1, o1 + m * 5, none⟩) (by show b1 < _; omega)).trans HXx.out.2.2.2.1) (And.intro ((hb9.cell (p := ⟨b1, o1 + m * 5 + 1, none⟩) (by show b1 < _; omega)).trans HXx.out.2.2.2.2.1) (And.intro ((hb9.cell (p := ⟨b1, o1 + m * 5 + 2, none⟩) (by show b1 < _; omega)).trans HXx.out.2.2.2.2.2.1) (And.intro ((hb9.cell (p := ⟨b1, o1 + m * 5 + 3, none⟩) (by show b1 < _; omega)).trans HXx.out.2.2.2.2.2.2.1) ((hb9.cell (p := ⟨b1, o1 + m * 5 + 4, none⟩) (by show b1 < _; omega)).trans HXx.out.2.2.2.2.2.2.2)))))))); clear hb9)))
                  )
                have HB3 := Lib.hid (HBx.out.trans (HWa.out.mono hzx))
                have HR3 := Lib.hid (HRx.out.below HWa.out hzo)
                clear hXa HXx HVV HWa d1 d2 hc0 i0 i1 i2 i3 i4 HBx HRx
                go_wp2
                go_roundg g2
                case measure => omega
                case rel => exact ⟨m + 1, _, by omega, by go_num, rfl, HN.out, HB3.out, HR3.out⟩

end Go.Proofs.Ytddcbdmmjjpbhaa
