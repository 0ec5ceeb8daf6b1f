/-
  The reference's Few.
-/
import Derived.Test.YtncigbpeempnfaaPk2
namespace Go.Proofs.Ytncigbpeempnfaa
open Go.RowKit
set_option linter.unusedVariables false

/-- What Few says: few blocks, registers and instructions. -/
def FewF (regs : Int) (bs : List Blk) : Prop := bs.length ≤ 40 ∧ regs ≤ 60 ∧ codeN bs ≤ 300

def FewF.P (regs : Int) (bs : List Blk) (w : World) (e : Ending) (w' : World) : Prop := (∃ b, e = .returned (.bool b) ∧ (b = true → FewF regs bs)) ∧ Below w.heap.size w w'

set_option maxRecDepth 100000 in
set_option maxHeartbeats 1000000 in
theorem rfew_any (B : Nat) (A : Option Addr) (bs : List Blk) (c : Nat) (args regs : Int) (w : World) (hs : BlksAt w B A bs) (hB : B ≤ w.heap.size) (hm : bs.length ≤ maxLen) :
    Calls Try.prog 9 #[.agg #[.int .i64 args, .int .i64 regs, .slice A bs.length c]] w (FewF.P regs bs w) := by
  unfold maxLen at hm
  have HB0 := Lib.hid ((Below.refl w.heap.size w).alloc (Nat.le_refl _) (.cells #[.int .i64 args, .int .i64 regs, .slice A bs.length c] 24))
  have hs1 := (hs.more hB).alloc (Nat.le_refl _) (.cells #[.int .i64 args, .int .i64 regs, .slice A bs.length c] 24)
  have hbox := Row.new w 24 #[.int .i64 args, .int .i64 regs, .slice A bs.length c]
  have hle : w.heap.size ≤ (w.alloc (.cells #[.int .i64 args, .int .i64 regs, .slice A bs.length c] 24)).heap.size := by simp
  by_cases h40 : bs.length ≤ 40
  · by_cases h60 : regs ≤ 60
    · have h40' : (bs.length : Int) ≤ 40 := by omega
      go_enter Try.func9, Try.ntmps9
      go_wp2_with fail
      generalize w.alloc (.cells #[.int .i64 args, .int .i64 regs, .slice A bs.length c] 24) = W0 at *
      have d0 := hbox.cell 0; have d1 := hbox.cell 1; have d2 := hbox.cell 2
      simp only [List.getElem?_toArray, List.getElem?_cons_zero, List.getElem?_cons_succ] at d0 d1 d2
      clear hs hbox
      go_loop [3] (fun i => ∃ k : Nat, k ≤ bs.length ∧ i = .int .i64 k ∧ Hid (codeN (bs.take k) ≤ 100 * k)) (fun i => bs.length - (intOf i).toNat)
      case atStart => exact ⟨0, Nat.zero_le _, rfl, Nat.le_refl _⟩
      case round =>
        obtain ⟨k, hk, rfl, HN⟩ := hrel
        by_cases hlt : k < bs.length
        · obtain ⟨b, o, rfl, hb, hat⟩ := hs1.at_ hlt
          obtain ⟨A1, c1, hc0, hl1, hl2, _⟩ := hat.code
          have HT := Lib.hid (codeN_step bs k hlt)
          clear hat hs1
          by_cases hbig : bs[k].code.length ≤ 100
          · have HN2 : Hid (codeN (bs.take (k + 1)) ≤ 100 * (k + 1)) := by
              have h1 := HT.out; have h2 := HN.out
              rw [Hid]
              omega
            clear HT HN
            generalize bs[k] = x at *
            go_wp2
            go_round
            case rel => exact ⟨k + 1, by omega, by go_num, HN2.out⟩
            case measure => simp [intOf]; omega
          · clear HT HN
            generalize bs[k] = x at *
            have hbig2 : (100 : Int) < x.code.length := by omega
            go_wp2
            go_ret
            exact ⟨⟨false, rfl, fun h => by cases h⟩, HB0.out⟩
        · obtain rfl : k = bs.length := by omega
          rw [List.take_length] at HN
          have HC := Lib.hid (rcode_any w.heap.size A bs c args regs W0 hs1 hle (by omega) (by have := HN.out; omega))
          have HF := Lib.hid (show (decide ((codeN bs : Int) ≤ 300) = true) → FewF regs bs from fun h => ⟨h40, h60, by have := of_decide_eq_true h; omega⟩)
          have hcn : (codeN bs : Int) ≤ 4000 := by have := HN.out; omega
          clear hs1 HN
          go_wp2_with fail
          refine HC.out.mono ?_
          rintro e W1 ⟨rfl, hb1⟩
          have HB1 := Lib.hid (HB0.out.trans (hb1.mono HB0.out.size))
          clear hb1 HC
          generalize codeN bs = cn at *
          go_wp2
          go_ret
          exact ⟨⟨_, rfl, HF.out⟩, HB1.out⟩
    · have h40' : (bs.length : Int) ≤ 40 := by omega
      go_enter Try.func9, Try.ntmps9
      go_wp2
      go_ret
      exact ⟨⟨false, rfl, fun h => by cases h⟩, HB0.out⟩
  · have h40' : (40 : Int) < bs.length := by omega
    go_enter Try.func9, Try.ntmps9
    go_wp2
    go_ret
    exact ⟨⟨false, rfl, fun h => by cases h⟩, HB0.out⟩

end Go.Proofs.Ytncigbpeempnfaa
