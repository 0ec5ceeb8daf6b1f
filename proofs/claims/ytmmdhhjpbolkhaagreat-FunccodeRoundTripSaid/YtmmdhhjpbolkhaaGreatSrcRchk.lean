/-
  The reference's Check.
-/
import Derived.Test.YtmmdhhjpbolkhaaGreatSrcRterm
import Derived.Test.YtmmdhhjpbolkhaaGreatPk7
import Derived.Deep.LoopGhost
import Derived.Deep.RegionWith
import Derived.Deep.RegionHeld3
import Derived.Deep.DeepMust
namespace Go.Proofs.YtmmdhhjpbolkhaaGreat
open Go.RowKit
set_option linter.unusedVariables false

set_option maxRecDepth 100000 in
set_option maxHeartbeats 2000000 in
theorem rcheck_any (B : Nat) (A : Option Addr) (bs : List Blk) (c : Nat) (args regs : Int) (w : World) (hs : BlksAt w B A bs) (hB : B ≤ w.heap.size) (hm : bs.length ≤ 1000) (hn : codeN bs ≤ 1000000) :
    Calls Tryz.prog 8 #[.agg #[.int .i64 args, .int .i64 regs, .slice A bs.length c]] w fun e w' => e = .returned (.int .i64 (eF args regs bs)) ∧ Below w.heap.size w w' := by
  have HB0 := Lib.hid ((Below.refl w.heap.size w).alloc (Nat.le_refl _) (.cells #[.int .i64 args, .int .i64 regs, .slice A bs.length c] 24))
  have HX := Lib.hid (Row.new w 24 #[.int .i64 args, .int .i64 regs, .slice A bs.length c])
  have HC := Lib.hid (rcode_any B A bs c args regs _ (hs.alloc hB (.cells #[.int .i64 args, .int .i64 regs, .slice A bs.length c] 24)) (by simp; omega) hm hn)
  have hws := sizes_ways args regs bs hm hn
  have hcn : (codeN bs : Int) ≤ 1000000 := by omega
  go_enter Tryz.func8, Tryz.ntmps8
  rcases hws with ⟨h1, he⟩ | ⟨h1, h2, he⟩ | ⟨h1, h2, ⟨h3, he⟩ | ⟨h3, ⟨h4, he⟩ | ⟨h4, he⟩⟩⟩
  · have HE : Hid (eF args regs bs = 9) := by rw [Hid, eF, he]; rfl
    clear he
    go_wp2
    go_ret
    exact ⟨by rw [HE.out]; rfl, HB0.out⟩
  · have HE : Hid (eF args regs bs = 9) := by rw [Hid, eF, he]; rfl
    clear he
    go_wp2
    go_ret
    exact ⟨by rw [HE.out]; rfl, HB0.out⟩
  · have HE : Hid (eF args regs bs = 6) := by rw [Hid, eF, he]; rfl
    clear he
    go_wp2
    go_ret
    exact ⟨by rw [HE.out]; rfl, HB0.out⟩
  · have HE : Hid (eF args regs bs = 14) := by rw [Hid, eF, he]; rfl
    have e1 : ((bs.length : Int) == 0) = true := by simp [h4]
    clear he h4
    go_wp2
    go_ret
    exact ⟨by rw [HE.out]; rfl, HB0.out⟩
  · have HE : Hid (eF args regs bs = eBs regs bs.length bs) := by rw [Hid, eF, he]; rfl
    have e1 : ((bs.length : Int) == 0) = false := beq_eq_false_iff_ne.2 (by omega)
    clear he
    go_wp2_with fail
    refine HC.out.mono ?_
    rintro e W1 ⟨rfl, hb1⟩
    have HB1 := Lib.hid (HB0.out.trans (hb1.mono HB0.out.size))
    have HX1 := Lib.hid (HX.out.below hb1 HX.out.lt)
    clear hb1 HC HB0 HX e1 h1 h2 h3 h4
    generalize codeN bs = cn at hcn
    go_wp2
    clear hcn
    go_loopg [3] bs.length (fun g i wr => ∃ k : Nat, k + g = bs.length ∧ i = .int .i64 k ∧ Hid (eBs regs bs.length bs = eBs regs bs.length (bs.drop k)) ∧ Hid (Below w.heap.size w wr) ∧ Hid (Row wr w.heap.size 24 #[.int .i64 args, .int .i64 regs, .slice A bs.length c]))
    case atStart => exact ⟨0, by omega, rfl, rfl, HB1.out, HX1.out⟩
    case round =>
      obtain ⟨k, hkg, rfl, HT, HB, HR⟩ := hrel
      have d1 := HR.out.cell 1; have d2 := HR.out.cell 2
      have hlz : w.heap.size < wr.heap.size := HR.out.lt
      simp only [List.getElem?_toArray, List.getElem?_cons_zero, List.getElem?_cons_succ] at d1 d2
      cases gk with
      | zero =>
        obtain rfl : k = bs.length := by omega
        rw [List.drop_length] at HT
        have HE2 : Hid (eF args regs bs = 0) := by rw [Hid, HE.out, HT.out]; rfl
        go_wp2
        go_ret
        exact ⟨by rw [HE2.out]; rfl, HB.out⟩
      | succ g =>
        have hlt : k < bs.length := by omega
        have hs1 := (hs.more hB).below HB.out
        obtain ⟨b, o, rfl, hb, hat⟩ := hs1.at_ hlt
        have HS := Lib.hid (HT.out.trans (eBs_step regs bs.length bs k hlt))
        obtain ⟨A1, c1, hc0, hl1, hl2, hin⟩ := hat.code
        have hc1 := hat.t0; have hc2 := hat.t1; have hc3 := hat.t2; have hc4 := hat.t3
        have HB2 := Lib.hid (HB.out.alloc HB.out.size (.cells #[.slice A1 bs[k].code.length c1, .int .i64 bs[k].term.kind, .int .i64 bs[k].term.a, .int .i64 bs[k].term.to, .int .i64 bs[k].term.el] 60))
        have HR2 := Lib.hid (HR.out.alloc (.cells #[.slice A1 bs[k].code.length c1, .int .i64 bs[k].term.kind, .int .i64 bs[k].term.a, .int .i64 bs[k].term.to, .int .i64 bs[k].term.el] 60))
        have HP2 := Lib.hid (Row.new wr 60 #[.slice A1 bs[k].code.length c1, .int .i64 bs[k].term.kind, .int .i64 bs[k].term.a, .int .i64 bs[k].term.to, .int .i64 bs[k].term.el])
        have HIN := Lib.hid (show InsAt wr w.heap.size A1 bs[k].code from hin)
        have hyl : bs[k].code.length ≤ 1000000 := by have := codeN_mem bs k hlt; omega
        have hz := HB.out.size
        clear hat HT HB HR hs hs1 HX1 HB1 hin
        generalize bs[k] = y at *
        obtain ⟨wo, hwo⟩ : ∃ z, z = wr := ⟨_, rfl⟩
        subst hwo
        go_wp2
        clear hc0 hc1 hc2 hc3 hc4 d1 d2
        go_loopg [5] y.code.length (fun g2 j wx => ∃ m : Nat, m + g2 = y.code.length ∧ j = .int .i64 m ∧ Hid (eIs regs y.code = eIs regs (y.code.drop m)) ∧ Hid (Below w.heap.size w wx) ∧ Hid (Row wx w.heap.size 24 #[.int .i64 args, .int .i64 regs, .slice (some ⟨b, o, none⟩) bs.length c]) ∧ Hid (Row wx wo.heap.size 60 #[.slice A1 y.code.length c1, .int .i64 y.term.kind, .int .i64 y.term.a, .int .i64 y.term.to, .int .i64 y.term.el]) ∧ Hid (InsAt wx w.heap.size A1 y.code))
        case atStart => exact ⟨0, by omega, rfl, rfl, HB2.out, HR2.out, HP2.out, HIN.out.keep fun p hp => World.cell?_alloc_lt wo _ p (by omega)⟩
        case round =>
          obtain ⟨m, hmg, rfl, HI, HBx, HRx, HPx, HIx⟩ := hrel
          have d0 := HPx.out.cell 0
          have d1 := HRx.out.cell 1; have d2 := HRx.out.cell 2
          simp only [List.getElem?_toArray, List.getElem?_cons_zero, List.getElem?_cons_succ] at d0 d1 d2
          cases gk with
          | zero =>
            obtain rfl : m = y.code.length := by omega
            rw [List.drop_length] at HI
            have HEB : Hid (eB y regs bs.length = eT y.term regs bs.length) := by rw [Hid, eB, HI.out]; rfl
            have f1 := HPx.out.cell 1; have f2 := HPx.out.cell 2; have f3 := HPx.out.cell 3; have f4 := HPx.out.cell 4
            simp only [List.getElem?_toArray, List.getElem?_cons_zero, List.getElem?_cons_succ] at f1 f2 f3 f4
            go_wp2_with fail
            refine (rterm_any y.term regs bs.length _).mono ?_
            rintro e W2 ⟨rfl, hb2⟩
            have HB3 := Lib.hid (HBx.out.trans (hb2.mono HBx.out.size))
            have HR3 := Lib.hid (HRx.out.below hb2 HRx.out.lt)
            clear hb2 d0 d1 d2 f1 f2 f3 f4 HPx HRx HBx
            obtain ⟨v, hv⟩ : ∃ z, eT y.term regs bs.length = z := ⟨_, rfl⟩
            rw [hv] at HEB ⊢
            clear hv
            by_cases h0 : v = 0
            · have e0 : (v != 0) = false := by simp [h0]
              have HS2 : Hid (eBs regs bs.length bs = eBs regs bs.length (bs.drop (k + 1))) := by rw [Hid, HS.out, HEB.out, if_pos h0]
              clear HS h0
              go_wp2
              go_roundg g
              case measure => omega
              case rel => exact ⟨k + 1, by omega, by go_num, HS2.out, HB3.out, HR3.out⟩
            · have e0 : (v != 0) = true := by simp [h0]
              have HE2 : Hid (eF args regs bs = v) := by rw [Hid, HE.out, HS.out, HEB.out, if_neg h0]
              clear HS h0
              go_wp2
              go_ret
              exact ⟨by rw [HE2.out]; rfl, HB3.out⟩
          | succ g2 =>
            have hlm : m < y.code.length := by omega
            obtain ⟨b1, o1, rfl, hb1, hin⟩ := HIx.out.at_ hlm
            have HJ := Lib.hid (HI.out.trans (eIs_step regs y.code m hlm))
            have i0 := hin.c0; have i1 := hin.c1; have i2 := hin.c2; have i3 := hin.c3; have i4 := hin.c4
            have HV := Lib.hid (fun W => rinstr_any y.code[m] regs W)
            obtain ⟨v, hv⟩ : ∃ z, eI y.code[m] regs = z := ⟨_, rfl⟩
            rw [hv] at HJ
            simp only [hv] at HV
            clear hin hv
            generalize y.code[m] = x at *
            have HXx := Lib.hid (And.intro d0 (And.intro d1 (And.intro i0 (And.intro i1 (And.intro i2 (And.intro i3 i4))))))
            have hzx := HBx.out.size
            have hzo : w.heap.size < wr.heap.size := HRx.out.lt
            have hzp : wo.heap.size < wr.heap.size := HPx.out.lt
            have HVV : Hid (∀ w0, (∃ m, w0 = wr.drewN m) → Calls Tryz.prog 27 #[.agg #[.int .i64 x.op, .int .i64 x.d, .int .i64 x.a, .int .i64 x.b, .int .i64 x.imm], .int .i64 regs] w0 fun e w' => e = .returned (.int .i64 v) ∧ Below wr.heap.size wr w') := fun w0 ⟨m, hm⟩ => by
              subst hm
              refine (HV.out _).mono ?_
              rintro e w' ⟨rfl, h1⟩
              exact ⟨rfl, below_unN h1 (Nat.le_refl _)⟩
            clear HV
            go_wp2_with fail
            go_region_held3 (fun w' => w'.cell? ⟨wo.heap.size, 0, none⟩ = some (.slice (some ⟨b1, o1, none⟩) y.code.length c1) ∧ w'.cell? ⟨w.heap.size, 1, none⟩ = some (.int .i64 regs) ∧ w'.cell? ⟨b1, o1 + m * 5, none⟩ = some (.int .i64 x.op) ∧ w'.cell? ⟨b1, o1 + m * 5 + 1, none⟩ = some (.int .i64 x.d) ∧ w'.cell? ⟨b1, o1 + m * 5 + 2, none⟩ = some (.int .i64 x.a) ∧ w'.cell? ⟨b1, o1 + m * 5 + 3, none⟩ = some (.int .i64 x.b) ∧ w'.cell? ⟨b1, o1 + m * 5 + 4, none⟩ = some (.int .i64 x.imm)) (first | exact HXx.out | exact hXa) (first
              | (go_at_call 27; go_must (((with_reducible refine (HVV.out _ (by first | exact ⟨1, rfl⟩ | exact ⟨0, rfl⟩ | exact ⟨_, rfl⟩)).mono ?_); rintro e Wa ⟨rfl, hb⟩; have HWa := Lib.hid hb; have hXa := (And.intro ((hb.cell (p := ⟨wo.heap.size, 0, none⟩) hzp).trans HXx.out.1) (And.intro ((hb.cell (p := ⟨w.heap.size, 1, none⟩) hzo).trans HXx.out.2.1) (And.intro ((hb.cell (p := ⟨b1, o1 + m * 5, none⟩) (by show b1 < _; omega)).trans HXx.out.2.2.1) (And.intro ((hb.cell (p := ⟨b1, o1 + m * 5 + 1, none⟩) (by show b1 < _; omega)).trans HXx.out.2.2.2.1) (And.intro ((hb.cell (p := ⟨b1, o1 + m * 5 + 2, none⟩) (by show b1 < _; omega)).trans HXx.out.2.2.2.2.1) (And.intro ((hb.cell (p := ⟨b1, o1 + m * 5 + 3, none⟩) (by show b1 < _; omega)).trans HXx.out.2.2.2.2.2.1) ((hb.cell (p := ⟨b1, o1 + m * 5 + 4, none⟩) (by show b1 < _; omega)).trans HXx.out.2.2.2.2.2.2))))))); clear hb)))
              )
            have HB3 := Lib.hid (HBx.out.trans (HWa.out.mono hzx))
            have HR3 := Lib.hid (HRx.out.below HWa.out hzo)
            have HP3 := Lib.hid (HPx.out.below HWa.out hzp)
            have HI3 := Lib.hid (HIx.out.below (HWa.out.mono hzx))
            clear hXa HXx HVV HWa d0 d1 d2 i0 i1 i2 i3 i4 HBx HRx HPx HIx
            by_cases h0 : v = 0
            · have e0 : (v != 0) = false := by simp [h0]
              have HS2 : Hid (eIs regs y.code = eIs regs (y.code.drop (m + 1))) := by rw [Hid, HJ.out, if_pos h0]
              clear HJ h0
              go_wp2
              go_roundg g2
              case measure => omega
              case rel => exact ⟨m + 1, by omega, by go_num, HS2.out, HB3.out, HR3.out, HP3.out, HI3.out⟩
            · have e0 : (v != 0) = true := by simp [h0]
              have HEB : Hid (eB y regs bs.length = v) := by rw [Hid, eB, HJ.out, if_neg h0, if_neg h0]
              have HE2 : Hid (eF args regs bs = v) := by rw [Hid, HE.out, HS.out, HEB.out, if_neg h0]
              clear HS HJ h0
              go_wp2
              go_ret
              exact ⟨by rw [HE2.out]; rfl, HB3.out⟩

end Go.Proofs.YtmmdhhjpbolkhaaGreat
