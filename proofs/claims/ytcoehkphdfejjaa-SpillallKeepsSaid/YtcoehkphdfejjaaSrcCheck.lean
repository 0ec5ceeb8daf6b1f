/-
  The program's checkBlock and Check.
-/
import Derived.Test.YtcoehkphdfejjaaSrcTerm
import Derived.Test.YtcoehkphdfejjaaPk2
namespace Go.Proofs.Ytcoehkphdfejjaa
open Go.RowKit
set_option linter.unusedVariables false

set_option maxRecDepth 100000 in
set_option maxHeartbeats 1000000 in
theorem block_any (B : Nat) (A : Option Addr) (x : Blk) (c : Nat) (regs n : Int) (w : World) (hs : InsAt w B A x.code) (hB : B ≤ w.heap.size) (hm : x.code.length ≤ 1000000) :
    Calls Try.prog 48 #[.agg #[.slice A x.code.length c, .int .i64 x.term.kind, .int .i64 x.term.a, .int .i64 x.term.to, .int .i64 x.term.el], .int .i64 regs, .int .i64 n] w fun e w' => e = .returned (.int .i64 (eB x regs n)) ∧ Below w.heap.size w w' := by
  have hbox := Row.new w 45 #[.slice A x.code.length c, .int .i64 x.term.kind, .int .i64 x.term.a, .int .i64 x.term.to, .int .i64 x.term.el]
  have HB0 := Lib.hid ((Below.refl w.heap.size w).alloc (Nat.le_refl _) (.cells #[.slice A x.code.length c, .int .i64 x.term.kind, .int .i64 x.term.a, .int .i64 x.term.to, .int .i64 x.term.el] 45))
  have HX := Lib.hid hbox
  clear hbox
  go_enter Try.func48, Try.ntmps48
  go_wp2
  go_loopw [13] (fun i wr => ∃ k : Nat, k ≤ x.code.length ∧ i = .int .i64 k ∧ Hid (eIs regs x.code = eIs regs (x.code.drop k)) ∧ Hid (Below w.heap.size w wr) ∧ Hid (Row wr w.heap.size 45 #[.slice A x.code.length c, .int .i64 x.term.kind, .int .i64 x.term.a, .int .i64 x.term.to, .int .i64 x.term.el])) (fun i _ => x.code.length - (intOf i).toNat)
  case atStart => exact ⟨0, Nat.zero_le _, rfl, rfl, HB0.out, HX.out⟩
  case round =>
    obtain ⟨k, hk, rfl, HT, HB, HR⟩ := hrel
    by_cases hlt : k < x.code.length
    · obtain ⟨b, o, rfl, hb, hat⟩ := ((hs.more hB).below HB.out).at_ hlt
      have HS := Lib.hid (HT.out.trans (eIs_step regs x.code k hlt))
      have hc0 := hat.c0; have hc1 := hat.c1; have hc2 := hat.c2; have hc3 := hat.c3; have hc4 := hat.c4
      have HB1 := Lib.hid (HB.out.alloc HB.out.size (.cells #[.int .i64 x.code[k].op, .int .i64 x.code[k].d, .int .i64 x.code[k].a, .int .i64 x.code[k].b, .int .i64 x.code[k].imm] 62))
      have HR1 := Lib.hid (HR.out.alloc (.cells #[.int .i64 x.code[k].op, .int .i64 x.code[k].d, .int .i64 x.code[k].a, .int .i64 x.code[k].b, .int .i64 x.code[k].imm] 62))
      clear hat HT HB HR hs HB0 HX
      generalize x.code[k] = y at *
      go_wp2_with fail
      refine (instr_any y regs _).mono ?_
      rintro e W1 ⟨rfl, hb1⟩
      have HB2 := Lib.hid (HB1.out.trans (hb1.mono HB1.out.size))
      have HR2 := Lib.hid (HR1.out.below hb1 HR1.out.lt)
      clear hb1 HB1 HR1
      obtain ⟨v, hv⟩ : ∃ z, eI y regs = z := ⟨_, rfl⟩
      rw [hv] at HS ⊢
      clear hv
      by_cases h0 : v = 0
      · have e0 : (v != 0) = false := by simp [h0]
        have HS2 : Hid (eIs regs x.code = eIs regs (x.code.drop (k + 1))) := by rw [Hid, HS.out, if_pos h0]
        clear HS h0
        go_wp2
        go_roundw
        case rel => exact ⟨k + 1, by omega, by go_num, HS2.out, HB2.out, HR2.out⟩
        case measure => simp [intOf]; omega
      · have e0 : (v != 0) = true := by simp [h0]
        have HE : Hid (eB x regs n = v) := by rw [Hid, eB, HS.out, if_neg h0, if_neg h0]
        clear HS h0
        go_wp2
        go_ret
        exact ⟨by rw [HE.out]; rfl, HB2.out⟩
    · obtain rfl : k = x.code.length := by omega
      rw [List.drop_length] at HT
      have HE : Hid (eB x regs n = eT x.term regs n) := by rw [Hid, eB, HT.out]; rfl
      have hr := HR.out
      have c1 := hr.cell 1; have c2 := hr.cell 2; have c3 := hr.cell 3; have c4 := hr.cell 4
      simp only [List.getElem?_toArray, List.getElem?_cons_zero, List.getElem?_cons_succ] at c1 c2 c3 c4
      clear hr HR HT hs
      go_wp2_with fail
      refine (term_any x.term regs n _).mono ?_
      rintro e W1 ⟨rfl, hb1⟩
      have HB2 := Lib.hid (HB.out.trans (hb1.mono HB.out.size))
      clear hb1
      go_wp2
      go_ret
      exact ⟨by rw [HE.out]; rfl, HB2.out⟩

set_option maxRecDepth 100000 in
set_option maxHeartbeats 1000000 in
theorem check_any (B : Nat) (A : Option Addr) (bs : List Blk) (c : Nat) (args regs : Int) (w : World) (hs : BlksAt w B A bs) (hB : B ≤ w.heap.size) (hm : bs.length ≤ 1000) (hn : codeN bs ≤ 1000000) :
    Calls Try.prog 23 #[.agg #[.int .i64 args, .int .i64 regs, .slice A bs.length c]] w fun e w' => e = .returned (.int .i64 (eF args regs bs)) ∧ Below w.heap.size w w' := by
  have hbox := Row.new w 24 #[.int .i64 args, .int .i64 regs, .slice A bs.length c]
  have HB0 := Lib.hid ((Below.refl w.heap.size w).alloc (Nat.le_refl _) (.cells #[.int .i64 args, .int .i64 regs, .slice A bs.length c] 24))
  have HC := Lib.hid (sizes_any B A bs c args regs _ (hs.alloc hB (.cells #[.int .i64 args, .int .i64 regs, .slice A bs.length c] 24)) (by simp; omega) hm hn)
  have HX := Lib.hid hbox
  clear hbox
  go_enter Try.func23, Try.ntmps23
  go_wp2_with fail
  refine HC.out.mono ?_
  rintro e W1 ⟨rfl, hb1⟩
  have HB1 := Lib.hid (HB0.out.trans (hb1.mono HB0.out.size))
  have HX1 := Lib.hid (HX.out.below hb1 HX.out.lt)
  have d1 := HX1.out.cell 1; have d2 := HX1.out.cell 2
  simp only [List.getElem?_toArray, List.getElem?_cons_zero, List.getElem?_cons_succ] at d1 d2
  clear hb1 HC HB0 HX
  obtain ⟨v, hv⟩ : ∃ z, eSz args regs bs = z := ⟨_, rfl⟩
  rw [hv]
  by_cases h0 : v = 0
  · have e0 : (v != 0) = false := by simp [h0]
    have HE : Hid (eF args regs bs = eBs regs bs.length bs) := by rw [Hid, eF, hv, if_pos h0]
    clear hv h0
    go_wp2
    go_loopw [15] (fun i wr => ∃ k : Nat, k ≤ bs.length ∧ i = .int .i64 k ∧ Hid (eBs regs bs.length bs = eBs regs bs.length (bs.drop k)) ∧ Hid (Below w.heap.size w wr) ∧ Hid (Row wr w.heap.size 24 #[.int .i64 args, .int .i64 regs, .slice A bs.length c])) (fun i _ => bs.length - (intOf i).toNat)
    case atStart => exact ⟨0, Nat.zero_le _, rfl, rfl, HB1.out, HX1.out⟩
    case round =>
      obtain ⟨k, hk, rfl, HT, HB, HR⟩ := hrel
      clear d1 d2
      by_cases hlt : k < bs.length
      · have hs1 := (hs.more hB).below HB.out
        obtain ⟨b, o, rfl, hb, hat⟩ := hs1.at_ hlt
        have HS := Lib.hid (HT.out.trans (eBs_step regs bs.length bs k hlt))
        obtain ⟨A1, c1, hc0, hl1, hl2, hin⟩ := hat.code
        have hc1 := hat.t0; have hc2 := hat.t1; have hc3 := hat.t2; have hc4 := hat.t3
        have hz := HB.out.size
        have HB2 := Lib.hid (HB.out.alloc HB.out.size (.cells #[.slice A1 bs[k].code.length c1, .int .i64 bs[k].term.kind, .int .i64 bs[k].term.a, .int .i64 bs[k].term.to, .int .i64 bs[k].term.el] 45))
        have HR2 := Lib.hid (HR.out.alloc (.cells #[.slice A1 bs[k].code.length c1, .int .i64 bs[k].term.kind, .int .i64 bs[k].term.a, .int .i64 bs[k].term.to, .int .i64 bs[k].term.el] 45))
        have HK := Lib.hid (block_any w.heap.size A1 bs[k] c1 regs bs.length (wr.alloc (.cells #[.slice A1 bs[k].code.length c1, .int .i64 bs[k].term.kind, .int .i64 bs[k].term.a, .int .i64 bs[k].term.to, .int .i64 bs[k].term.el] 45)) (hin.keep fun p hp => World.cell?_alloc_lt wr _ p (by omega)) (by simp; omega) (by have := codeN_mem bs k hlt; omega))
        have d1 := HR.out.cell 1; have d2 := HR.out.cell 2
        have hlz : w.heap.size < wr.heap.size := HR.out.lt
        simp only [List.getElem?_toArray, List.getElem?_cons_zero, List.getElem?_cons_succ] at d1 d2
        clear hat HT HB HR hs hs1 HX1 HB1 hin
        generalize bs[k] = y at *
        go_wp2_with fail
        refine HK.out.mono ?_
        rintro e W2 ⟨rfl, hb2⟩
        have HB3 := Lib.hid (HB2.out.trans (hb2.mono HB2.out.size))
        have HR3 := Lib.hid (HR2.out.below hb2 HR2.out.lt)
        clear hb2 HB2 HR2 HK
        obtain ⟨v, hv⟩ : ∃ z, eB y regs bs.length = z := ⟨_, rfl⟩
        rw [hv] at HS ⊢
        clear hv
        by_cases h0 : v = 0
        · have e0 : (v != 0) = false := by simp [h0]
          have HS2 : Hid (eBs regs bs.length bs = eBs regs bs.length (bs.drop (k + 1))) := by rw [Hid, HS.out, if_pos h0]
          clear HS h0
          go_wp2
          go_roundw
          case rel => exact ⟨k + 1, by omega, by go_num, HS2.out, HB3.out, HR3.out⟩
          case measure => simp [intOf]; omega
        · have e0 : (v != 0) = true := by simp [h0]
          have HE2 : Hid (eF args regs bs = v) := by rw [Hid, HE.out, HS.out, if_neg h0]
          clear HS h0
          go_wp2
          go_ret
          exact ⟨by rw [HE2.out]; rfl, HB3.out⟩
      · obtain rfl : k = bs.length := by omega
        rw [List.drop_length] at HT
        have HE2 : Hid (eF args regs bs = 0) := by rw [Hid, HE.out, HT.out]; rfl
        go_wp2
        go_ret
        exact ⟨by rw [HE2.out]; rfl, HB.out⟩
  · have e0 : (v != 0) = true := by simp [h0]
    have HE : Hid (eF args regs bs = v) := by rw [Hid, eF, hv, if_neg h0]
    clear hv h0
    go_wp2
    go_ret
    exact ⟨by rw [HE.out]; rfl, HB1.out⟩

end Go.Proofs.Ytcoehkphdfejjaa
