/-
  Code of both; checkSizes; checkCode.
-/
import Derived.Test.YtcimjghejclknaaMacFind
import Derived.LoopTactic
import Derived.Below
namespace Go.Proofs.Ytcimjghejclknaa
open Go.RowKit
set_option linter.unusedVariables false

set_option maxRecDepth 100000 in
set_option maxHeartbeats 1000000 in
theorem rmcode_any (B : Nat) (A : Option Addr) (bs : List MBlk) (c : Nat) (args regs slots : Int) (w : World) (hs : MBlksAt w B A bs) (hB : B ≤ w.heap.size) (hm : bs.length ≤ 1000) (hn : mcodeN bs ≤ 1000000) :
    Calls Try.prog 31 #[.agg #[.int .i64 args, .int .i64 regs, .int .i64 slots, .slice A bs.length c]] w fun e w' => e = .returned (.int .i64 (mcodeN bs : Nat)) ∧ Below w.heap.size w w' := by
  have HB0 := Lib.hid ((Below.refl w.heap.size w).alloc (Nat.le_refl _) (.cells #[.int .i64 args, .int .i64 regs, .int .i64 slots, .slice A bs.length c] 24))
  have hs1 := (hs.more hB).alloc (Nat.le_refl _) (.cells #[.int .i64 args, .int .i64 regs, .int .i64 slots, .slice A bs.length c] 24)
  have hbox := Row.new w 24 #[.int .i64 args, .int .i64 regs, .int .i64 slots, .slice A bs.length c]
  go_enter Try.func31, Try.ntmps31
  go_wp2_with fail
  generalize w.alloc (.cells #[.int .i64 args, .int .i64 regs, .int .i64 slots, .slice A bs.length c] 24) = W0 at *
  have d2 := hbox.cell 3
  simp only [List.getElem?_toArray, List.getElem?_cons_zero, List.getElem?_cons_succ] at d2
  clear hs hbox
  go_loop [3, 4] (fun s i => ∃ k : Nat, k ≤ bs.length ∧ i = .int .i64 k ∧ s = .int .i64 (mcodeN (bs.take k) : Nat)) (fun _ i => bs.length - (intOf i).toNat)
  case atStart => exact ⟨0, Nat.zero_le _, rfl, rfl⟩
  case round =>
    obtain ⟨k, hk, rfl, rfl⟩ := hrel
    by_cases hlt : k < bs.length
    · obtain ⟨b, o, rfl, hb, hat⟩ := hs1.at_ hlt
      obtain ⟨A1, c1, hc0, hl1, hl2, _⟩ := hat.code
      have HT := Lib.hid (mcodeN_step bs k hlt)
      have h2 := mcodeN_take bs (k + 1)
      rw [HT.out] at h2
      clear hat hs1
      generalize mcodeN (bs.take k) = s0 at h2 HT
      generalize bs[k] = x at *
      go_wp2
      go_round
      case rel => exact ⟨k + 1, by omega, by go_num, by rw [HT.out]; go_num⟩
      case measure => simp [intOf]; omega
    · obtain rfl : k = bs.length := by omega
      rw [List.take_length]
      go_wp2
      go_ret
      exact ⟨rfl, HB0.out⟩

theorem msizes_ways (args regs slots : Int) (bs : List MBlk) (hm : bs.length ≤ 1000) (hn : mcodeN bs ≤ 1000000) :
    (args < 0 ∧ eMSz args regs slots bs = 10) ∨ (0 ≤ args ∧ slots < args ∧ eMSz args regs slots bs = 10) ∨ (0 ≤ args ∧ args ≤ slots ∧ ((regs < 0 ∧ eMSz args regs slots bs = 9) ∨ (0 ≤ regs ∧ ((1048576 < slots ∧ eMSz args regs slots bs = 6) ∨
      (slots ≤ 1048576 ∧ ((1048576 < regs ∧ eMSz args regs slots bs = 6) ∨ (regs ≤ 1048576 ∧ ((bs.length = 0 ∧ eMSz args regs slots bs = 14) ∨ (0 < bs.length ∧ eMSz args regs slots bs = 0))))))))) := by
  unfold eMSz
  by_cases h1 : args < 0
  · exact .inl ⟨h1, by rw [if_pos (.inl h1)]⟩
  · by_cases h2 : slots < args
    · exact .inr (.inl ⟨by omega, h2, by rw [if_pos (.inr h2)]⟩)
    · refine .inr (.inr ⟨by omega, by omega, ?_⟩)
      rw [if_neg (by omega)]
      by_cases h0 : regs < 0
      · exact .inl ⟨h0, by rw [if_pos h0]⟩
      · refine .inr ⟨by omega, ?_⟩
        rw [if_neg h0]
        by_cases h3 : 1048576 < slots
        · exact .inl ⟨h3, by rw [if_pos (.inl h3)]⟩
        · refine .inr ⟨by omega, ?_⟩
          by_cases h5 : 1048576 < regs
          · exact .inl ⟨h5, by rw [if_pos (.inr h5)]⟩
          · refine .inr ⟨by omega, ?_⟩
            rw [if_neg (by omega)]
            by_cases h4 : bs.length = 0
            · exact .inl ⟨h4, by rw [if_pos h4]⟩
            · exact .inr ⟨by omega, by rw [if_neg h4, if_neg (by omega)]⟩

end Go.Proofs.Ytcimjghejclknaa
