/-
  Code of both; checkSizes; checkCode.
-/
import Derived.Test.YtcindgaonaloeaaMacFind
import Derived.LoopTactic
import Derived.Below
namespace Go.Proofs.Ytcindgaonaloeaa
open Go.RowKit
set_option linter.unusedVariables false

set_option maxRecDepth 100000 in
set_option maxHeartbeats 1000000 in
theorem mcode_any (B : Nat) (A : Option Addr) (bs : List MBlk) (c : Nat) (args regs slots : Int) (w : World) (hs : MBlksAt w B A bs) (hB : B ≤ w.heap.size) (hm : bs.length ≤ 1000) (hn : mcodeN bs ≤ 1000000) :
    Calls Try.prog 15 #[.agg #[.int .i64 args, .int .i64 regs, .int .i64 slots, .slice A bs.length c]] w fun e w' => e = .returned (.int .i64 (mcodeN bs : Nat)) ∧ Below w.heap.size w w' := by
  have HB0 := Lib.hid ((Below.refl w.heap.size w).alloc (Nat.le_refl _) (.cells #[.int .i64 args, .int .i64 regs, .int .i64 slots, .slice A bs.length c] 24))
  go_enter Try.func15, Try.ntmps15
  go_wp2
  go_loopw [3, 9] (fun s i wr => ∃ k : Nat, k ≤ bs.length ∧ i = .int .i64 k ∧ s = .int .i64 (mcodeN (bs.take k) : Nat) ∧ Hid (Below w.heap.size w wr)) (fun _ i _ => bs.length - (intOf i).toNat)
  case atStart => exact ⟨0, Nat.zero_le _, rfl, rfl, HB0.out⟩
  case round =>
    obtain ⟨k, hk, rfl, rfl, HB⟩ := hrel
    by_cases hlt : k < bs.length
    · obtain ⟨b, o, rfl, hb, hat⟩ := ((hs.more hB).below HB.out).at_ hlt
      obtain ⟨A1, c1, hc0, hl1, hl2, _⟩ := hat.code
      have hc1 := hat.t0; have hc2 := hat.t1; have hc3 := hat.t2; have hc4 := hat.t3
      have HT := Lib.hid (mcodeN_step bs k hlt)
      have h2 := mcodeN_take bs (k + 1)
      rw [HT.out] at h2
      have HB2 := Lib.hid (HB.out.alloc HB.out.size (.cells #[.slice A1 bs[k].code.length c1, .int .i64 bs[k].term.kind, .int .i64 bs[k].term.a, .int .i64 bs[k].term.to, .int .i64 bs[k].term.el] 35))
      clear hat hs HB
      generalize mcodeN (bs.take k) = s0 at h2 HT
      generalize bs[k] = x at *
      go_wp2
      go_roundw
      case rel => exact ⟨k + 1, by omega, by go_num, by rw [HT.out]; go_num, HB2.out⟩
      case measure => simp [intOf]; omega
    · obtain rfl : k = bs.length := by omega
      rw [List.take_length]
      go_wp2
      go_ret
      exact ⟨rfl, HB.out⟩

set_option maxRecDepth 100000 in
set_option maxHeartbeats 1000000 in
theorem rmcode_any (B : Nat) (A : Option Addr) (bs : List MBlk) (c : Nat) (args regs slots : Int) (w : World) (hs : MBlksAt w B A bs) (hB : B ≤ w.heap.size) (hm : bs.length ≤ 1000) (hn : mcodeN bs ≤ 1000000) :
    Calls Try.prog 16 #[.agg #[.int .i64 args, .int .i64 regs, .int .i64 slots, .slice A bs.length c]] w fun e w' => e = .returned (.int .i64 (mcodeN bs : Nat)) ∧ Below w.heap.size w w' := by
  have HB0 := Lib.hid ((Below.refl w.heap.size w).alloc (Nat.le_refl _) (.cells #[.int .i64 args, .int .i64 regs, .int .i64 slots, .slice A bs.length c] 24))
  have hs1 := (hs.more hB).alloc (Nat.le_refl _) (.cells #[.int .i64 args, .int .i64 regs, .int .i64 slots, .slice A bs.length c] 24)
  have hbox := Row.new w 24 #[.int .i64 args, .int .i64 regs, .int .i64 slots, .slice A bs.length c]
  go_enter Try.func16, Try.ntmps16
  go_wp2_with fail
  generalize w.alloc (.cells #[.int .i64 args, .int .i64 regs, .int .i64 slots, .slice A bs.length c] 24) = W0 at *
  have d2 := hbox.cell 3
  simp only [List.getElem?_toArray, List.getElem?_cons_zero, List.getElem?_cons_succ] at d2
  clear hs hbox
  go_loop [3, 4] (fun s i => ∃ k : Nat, k ≤ bs.length ∧ i = .int .i64 k ∧ s = .int .i64 (mcodeN (bs.take k) : Nat)) (fun _ i => bs.length - (intOf i).toNat)
  case atStart => exact ⟨0, Nat.zero_le _, rfl, rfl⟩
  case round =>
    obtain ⟨k, hk, rfl, rfl⟩ := hrel
    by_cases hlt : k < bs.length
    · obtain ⟨b, o, rfl, hb, hat⟩ := hs1.at_ hlt
      obtain ⟨A1, c1, hc0, hl1, hl2, _⟩ := hat.code
      have HT := Lib.hid (mcodeN_step bs k hlt)
      have h2 := mcodeN_take bs (k + 1)
      rw [HT.out] at h2
      clear hat hs1
      generalize mcodeN (bs.take k) = s0 at h2 HT
      generalize bs[k] = x at *
      go_wp2
      go_round
      case rel => exact ⟨k + 1, by omega, by go_num, by rw [HT.out]; go_num⟩
      case measure => simp [intOf]; omega
    · obtain rfl : k = bs.length := by omega
      rw [List.take_length]
      go_wp2
      go_ret
      exact ⟨rfl, HB0.out⟩

theorem msizes_ways (args regs slots : Int) (bs : List MBlk) (hm : bs.length ≤ 1000) (hn : mcodeN bs ≤ 1000000) :
    (args < 0 ∧ eMSz args regs slots bs = 10) ∨ (0 ≤ args ∧ slots < args ∧ eMSz args regs slots bs = 10) ∨ (0 ≤ args ∧ args ≤ slots ∧ ((regs < 0 ∧ eMSz args regs slots bs = 9) ∨ (0 ≤ regs ∧ ((1048576 < slots ∧ eMSz args regs slots bs = 6) ∨
      (slots ≤ 1048576 ∧ ((1048576 < regs ∧ eMSz args regs slots bs = 6) ∨ (regs ≤ 1048576 ∧ ((bs.length = 0 ∧ eMSz args regs slots bs = 14) ∨ (0 < bs.length ∧ eMSz args regs slots bs = 0))))))))) := by
  unfold eMSz
  by_cases h1 : args < 0
  · exact .inl ⟨h1, by rw [if_pos (.inl h1)]⟩
  · by_cases h2 : slots < args
    · exact .inr (.inl ⟨by omega, h2, by rw [if_pos (.inr h2)]⟩)
    · refine .inr (.inr ⟨by omega, by omega, ?_⟩)
      rw [if_neg (by omega)]
      by_cases h0 : regs < 0
      · exact .inl ⟨h0, by rw [if_pos h0]⟩
      · refine .inr ⟨by omega, ?_⟩
        rw [if_neg h0]
        by_cases h3 : 1048576 < slots
        · exact .inl ⟨h3, by rw [if_pos (.inl h3)]⟩
        · refine .inr ⟨by omega, ?_⟩
          by_cases h5 : 1048576 < regs
          · exact .inl ⟨h5, by rw [if_pos (.inr h5)]⟩
          · refine .inr ⟨by omega, ?_⟩
            rw [if_neg (by omega)]
            by_cases h4 : bs.length = 0
            · exact .inl ⟨h4, by rw [if_pos h4]⟩
            · exact .inr ⟨by omega, by rw [if_neg h4, if_neg (by omega)]⟩

set_option maxRecDepth 100000 in
set_option maxHeartbeats 1000000 in
theorem msizes_any (B : Nat) (A : Option Addr) (bs : List MBlk) (c : Nat) (args regs slots : Int) (w : World) (hs : MBlksAt w B A bs) (hB : B ≤ w.heap.size) (hm : bs.length ≤ 1000) (hn : mcodeN bs ≤ 1000000) :
    Calls Try.prog 19 #[.agg #[.int .i64 args, .int .i64 regs, .int .i64 slots, .slice A bs.length c]] w fun e w' => e = .returned (.int .i64 (eMSz args regs slots bs)) ∧ Below w.heap.size w w' := by
  have HB0 := Lib.hid ((Below.refl w.heap.size w).alloc (Nat.le_refl _) (.cells #[.int .i64 args, .int .i64 regs, .int .i64 slots, .slice A bs.length c] 24))
  have HC := Lib.hid (mcode_any B A bs c args regs slots _ (hs.alloc hB (.cells #[.int .i64 args, .int .i64 regs, .int .i64 slots, .slice A bs.length c] 24)) (by simp; omega) hm hn)
  have hws := msizes_ways args regs slots bs hm hn
  clear hs
  go_enter Try.func19, Try.ntmps19
  rcases hws with ⟨h1, he⟩ | ⟨h1, h2, he⟩ | ⟨h1, h2, ⟨h0, he⟩ | ⟨h0, ⟨h3, he⟩ | ⟨h3, ⟨h5, he⟩ | ⟨h5, ⟨h4, he⟩ | ⟨h4, he⟩⟩⟩⟩⟩
  · have HE := Lib.hid he
    clear he
    go_wp2
    go_ret
    exact ⟨by rw [HE.out]; rfl, HB0.out⟩
  · have HE := Lib.hid he
    clear he
    go_wp2
    go_ret
    exact ⟨by rw [HE.out]; rfl, HB0.out⟩
  · have HE := Lib.hid he
    clear he
    go_wp2
    go_ret
    exact ⟨by rw [HE.out]; rfl, HB0.out⟩
  · have HE := Lib.hid he
    clear he
    go_wp2
    go_ret
    exact ⟨by rw [HE.out]; rfl, HB0.out⟩
  · have HE := Lib.hid he
    clear he
    go_wp2
    go_ret
    exact ⟨by rw [HE.out]; rfl, HB0.out⟩
  · have HE := Lib.hid he
    have e1 : ((bs.length : Int) == 0) = true := by simp [h4]
    clear he h4
    go_wp2
    go_ret
    exact ⟨by rw [HE.out]; rfl, HB0.out⟩
  · have HE := Lib.hid he
    have e1 : ((bs.length : Int) == 0) = false := beq_eq_false_iff_ne.2 (by omega)
    clear he
    go_wp2_with fail
    refine HC.out.mono ?_
    rintro e W1 ⟨rfl, hb1⟩
    have HB1 := Lib.hid (HB0.out.trans (hb1.mono HB0.out.size))
    clear hb1 HC
    go_wp2
    go_ret
    exact ⟨by rw [HE.out]; rfl, HB1.out⟩

set_option maxRecDepth 100000 in
set_option maxHeartbeats 1000000 in
theorem checkcode_any (B : Nat) (A : Option Addr) (xs : List Mi) (c : Nat) (regs slots : Int) (p q : Nat) (w : World) (hs : MisAt w B A xs) (hB : B ≤ w.heap.size) (hm : xs.length ≤ 1000000) (hf : Fin2 w p q regs slots) :
    Calls Try.prog 21 #[.slice A xs.length c, .agg #[.func (.func 28) #[] #[.pointer (some ⟨p, 0, none⟩), .pointer (some ⟨q, 0, none⟩)], .func (.func 30) #[] #[.pointer (some ⟨p, 0, none⟩)]]] w fun e w' => e = .returned (.int .i64 (eCd regs slots 0 xs)) ∧ Below w.heap.size w w' := by
  have HX0 := Lib.hid (Row.new w 49 #[.func (.func 28) #[] #[.pointer (some ⟨p, 0, none⟩), .pointer (some ⟨q, 0, none⟩)], .func (.func 30) #[] #[.pointer (some ⟨p, 0, none⟩)]])
  have HB0 := Lib.hid ((Below.refl w.heap.size w).alloc (Nat.le_refl _) (.cells #[.func (.func 28) #[] #[.pointer (some ⟨p, 0, none⟩), .pointer (some ⟨q, 0, none⟩)], .func (.func 30) #[] #[.pointer (some ⟨p, 0, none⟩)]] 49))
  have HF := Lib.hid hf
  have HS := Lib.hid hs
  clear hf hs
  go_enter Try.func21, Try.ntmps21
  go_wp2
  go_loopw [5, 11] (fun a i wr => ∃ (k run : Nat), k ≤ xs.length ∧ i = .int .i64 k ∧ a = .int .i64 run ∧ run ≤ 64 ∧ Hid (eCd regs slots 0 xs = eCd regs slots run (xs.drop k)) ∧ Hid (Below w.heap.size w wr) ∧ Hid (Row wr w.heap.size 49 #[.func (.func 28) #[] #[.pointer (some ⟨p, 0, none⟩), .pointer (some ⟨q, 0, none⟩)], .func (.func 30) #[] #[.pointer (some ⟨p, 0, none⟩)]])) (fun _ i _ => xs.length - (intOf i).toNat)
  case atStart => exact ⟨0, 0, Nat.zero_le _, rfl, rfl, Nat.zero_le _, rfl, HB0.out, HX0.out⟩
  case round =>
    obtain ⟨k, run, hk, rfl, rfl, hr64, HT, HB, HR⟩ := hrel
    have f0 := HR.out.cell 0; have f1 := HR.out.cell 1
    simp only [List.getElem?_toArray, List.getElem?_cons_zero, List.getElem?_cons_succ] at f0 f1
    have hlz : w.heap.size < wr.heap.size := HR.out.lt
    by_cases hlt : k < xs.length
    · obtain ⟨b, o, rfl, hb, hat⟩ := ((HS.out.more hB).below HB.out).at_ hlt
      have hc0 := hat.c0; have hc1 := hat.c1; have hc2 := hat.c2; have hc3 := hat.c3; have hc4 := hat.c4; have hc5 := hat.c5; have hc6 := hat.c6
      have HST := Lib.hid (HT.out.trans (eCd_step regs slots xs run k hlt))
      have HB1 := Lib.hid (HB.out.alloc HB.out.size (.cells #[.int .i64 xs[k].op, .int .i64 xs[k].d, .int .i64 xs[k].a, .int .i64 xs[k].b, .int .i64 xs[k].imm, .int .i64 xs[k].dst, .int .i64 xs[k].src] 27))
      have HR1 := Lib.hid (HR.out.alloc (.cells #[.int .i64 xs[k].op, .int .i64 xs[k].d, .int .i64 xs[k].a, .int .i64 xs[k].b, .int .i64 xs[k].imm, .int .i64 xs[k].dst, .int .i64 xs[k].src] 27))
      have HM1 := Lib.hid (Row.new wr 27 #[.int .i64 xs[k].op, .int .i64 xs[k].d, .int .i64 xs[k].a, .int .i64 xs[k].b, .int .i64 xs[k].imm, .int .i64 xs[k].dst, .int .i64 xs[k].src])
      have HK := Lib.hid (fun W hf => find_any xs[k] regs slots p q W hat.ok hf)
      have hx1 := ext_le run xs[k]
      have HX := Lib.hid (fun W => extend_any run xs[k] W (by omega))
      clear hat HT HB HR HB0 HX0
      generalize ext run xs[k] = r2 at *
      obtain ⟨v, hv⟩ : ∃ z, z = eM xs[k] regs slots := ⟨_, rfl⟩
      rw [← hv] at HST
      rw [← hv] at HK
      clear hv
      generalize xs[k] = y at *
      go_wp2_with fail
      refine (HK.out _ (HF.out.next HB1.out)).mono ?_
      rintro e W1 ⟨rfl, hb1⟩
      have HB2 := Lib.hid (HB1.out.trans (hb1.mono HB1.out.size))
      have HR2 := Lib.hid (HR1.out.below hb1 HR1.out.lt)
      have hm1 := HM1.out.below hb1 HM1.out.lt
      clear f0 f1
      have f0 := HR2.out.cell 0; have f1 := HR2.out.cell 1
      have m0 := hm1.cell 0; have m1 := hm1.cell 1; have m2 := hm1.cell 2; have m3 := hm1.cell 3; have m4 := hm1.cell 4; have m5 := hm1.cell 5; have m6 := hm1.cell 6
      simp only [List.getElem?_toArray, List.getElem?_cons_zero, List.getElem?_cons_succ] at f0 f1 m0 m1 m2 m3 m4 m5 m6
      clear hb1 HB1 HR1 HM1 hm1 hc0 hc1 hc2 hc3 hc4 hc5 hc6
      by_cases h0 : v = 0
      · have e0 : (v != 0) = false := by simp [h0]
        have HS2 : Hid (eCd regs slots 0 xs = if 64 < r2 then 15 else eCd regs slots r2 (xs.drop (k + 1))) := by rw [Hid, HST.out, if_pos h0]
        clear HST h0
        go_wp2_with fail
        refine (HX.out _).mono ?_
        rintro e W2 ⟨rfl, hb2⟩
        have HB3 := Lib.hid (HB2.out.trans (hb2.mono HB2.out.size))
        have HR3 := Lib.hid (HR2.out.below hb2 HR2.out.lt)
        clear hb2 HB2 HR2 f0 f1 m0 m1 m2 m3 m4 m5 m6
        by_cases h64 : 64 < r2
        · have HE : Hid (eCd regs slots 0 xs = 15) := by rw [Hid, HS2.out, if_pos h64]
          go_wp2
          go_ret
          exact ⟨by rw [HE.out]; rfl, HB3.out⟩
        · have HE : Hid (eCd regs slots 0 xs = eCd regs slots r2 (xs.drop (k + 1))) := by rw [Hid, HS2.out, if_neg h64]
          go_wp2
          go_roundw
          case rel => exact ⟨k + 1, r2, by omega, by go_num, rfl, by omega, HE.out, HB3.out, HR3.out⟩
          case measure => simp [intOf]; omega
      · have e0 : (v != 0) = true := by simp [h0]
        have HE : Hid (eCd regs slots 0 xs = v) := by rw [Hid, HST.out, if_neg h0]
        clear HST h0
        go_wp2
        go_ret
        exact ⟨by rw [HE.out]; rfl, HB2.out⟩
    · obtain rfl : k = xs.length := by omega
      rw [List.drop_length] at HT
      have HE : Hid (eCd regs slots 0 xs = 0) := HT.out
      go_wp2
      go_ret
      exact ⟨by rw [HE.out]; rfl, HB.out⟩

end Go.Proofs.Ytcindgaonaloeaa
