/-
  Code of both; checkSizes.
-/
import Derived.Test.YtfkknebjhcafhaaSrcMath
import Derived.Test.YtfkknebjhcafhaaMem
import Derived.LoopTactic
import Derived.Below
namespace Go.Proofs.Ytfkknebjhcafhaa
open Go.RowKit
set_option linter.unusedVariables false

set_option maxRecDepth 100000 in
set_option maxHeartbeats 1000000 in
theorem rcode_any (B : Nat) (A : Option Addr) (bs : List Blk) (c : Nat) (args regs : Int) (w : World) (hs : BlksAt w B A bs) (hB : B ≤ w.heap.size) (hm : bs.length ≤ 1000) (hn : codeN bs ≤ 1000000) :
    Calls Try.prog 26 #[.agg #[.int .i64 args, .int .i64 regs, .slice A bs.length c]] w fun e w' => e = .returned (.int .i64 (codeN bs : Nat)) ∧ Below w.heap.size w w' := by
  have HB0 := Lib.hid ((Below.refl w.heap.size w).alloc (Nat.le_refl _) (.cells #[.int .i64 args, .int .i64 regs, .slice A bs.length c] 24))
  have hs1 := (hs.more hB).alloc (Nat.le_refl _) (.cells #[.int .i64 args, .int .i64 regs, .slice A bs.length c] 24)
  have hbox := Row.new w 24 #[.int .i64 args, .int .i64 regs, .slice A bs.length c]
  go_enter Try.func26, Try.ntmps26
  go_wp2_with fail
  generalize w.alloc (.cells #[.int .i64 args, .int .i64 regs, .slice A bs.length c] 24) = W0 at *
  have d2 := hbox.cell 2
  simp only [List.getElem?_toArray, List.getElem?_cons_zero, List.getElem?_cons_succ] at d2
  clear hs hbox
  go_loop [3, 4] (fun s i => ∃ k : Nat, k ≤ bs.length ∧ i = .int .i64 k ∧ s = .int .i64 (codeN (bs.take k) : Nat)) (fun _ i => bs.length - (intOf i).toNat)
  case atStart => exact ⟨0, Nat.zero_le _, rfl, rfl⟩
  case round =>
    obtain ⟨k, hk, rfl, rfl⟩ := hrel
    by_cases hlt : k < bs.length
    · obtain ⟨b, o, rfl, hb, hat⟩ := hs1.at_ hlt
      obtain ⟨A1, c1, hc0, hl1, hl2, _⟩ := hat.code
      have HT := Lib.hid (codeN_step bs k hlt)
      have h2 := codeN_take bs (k + 1)
      rw [HT.out] at h2
      clear hat hs1
      generalize codeN (bs.take k) = s0 at h2 HT
      generalize bs[k] = x at *
      go_wp2
      go_round
      case rel => exact ⟨k + 1, by omega, by go_num, by rw [HT.out]; go_num⟩
      case measure => simp [intOf]; omega
    · obtain rfl : k = bs.length := by omega
      rw [List.take_length]
      go_wp2
      go_ret
      exact ⟨rfl, HB0.out⟩

theorem sizes_ways (args regs : Int) (bs : List Blk) (hm : bs.length ≤ 1000) (hn : codeN bs ≤ 1000000) :
    (args < 0 ∧ eSz args regs bs = 9) ∨ (0 ≤ args ∧ regs < args ∧ eSz args regs bs = 9) ∨ (0 ≤ args ∧ args ≤ regs ∧ ((1048576 < regs ∧ eSz args regs bs = 6) ∨ (regs ≤ 1048576 ∧ ((bs.length = 0 ∧ eSz args regs bs = 14) ∨ (0 < bs.length ∧ eSz args regs bs = 0))))) := by
  unfold eSz
  by_cases h1 : args < 0
  · exact .inl ⟨h1, by rw [if_pos (.inl h1)]⟩
  · by_cases h2 : regs < args
    · exact .inr (.inl ⟨by omega, h2, by rw [if_pos (.inr h2)]⟩)
    · refine .inr (.inr ⟨by omega, by omega, ?_⟩)
      rw [if_neg (by omega)]
      by_cases h3 : 1048576 < regs
      · exact .inl ⟨h3, by rw [if_pos h3]⟩
      · refine .inr ⟨by omega, ?_⟩
        rw [if_neg h3]
        by_cases h4 : bs.length = 0
        · exact .inl ⟨h4, by rw [if_pos h4]⟩
        · exact .inr ⟨by omega, by rw [if_neg h4, if_neg (by omega)]⟩

end Go.Proofs.Ytfkknebjhcafhaa
