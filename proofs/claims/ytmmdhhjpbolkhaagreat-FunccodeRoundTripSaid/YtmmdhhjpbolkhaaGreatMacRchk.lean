/-
  The reference's Check of layer 8.
-/
import Derived.Test.YtmmdhhjpbolkhaaGreatSrcRterm
import Derived.Test.YtmmdhhjpbolkhaaGreatPk7
import Derived.Test.YtmmdhhjpbolkhaaGreatMacRef
import Derived.Deep.LoopGhost
import Derived.Deep.RegionWith
import Derived.Deep.RegionHeld3
import Derived.Deep.DeepMust
namespace Go.Proofs.YtmmdhhjpbolkhaaGreat
open Go.RowKit
set_option linter.unusedVariables false

/-- What the loop over a block carries: the function's box, the block's box, the block's instructions. -/
structure RK (w : World) (args regs slots : Int) (A : Option Addr) (n c z : Nat) (A1 : Option Addr) (y : MBlk) (c1 : Nat) (W : World) : Prop where
  below : Below w.heap.size w W
  b : Row W w.heap.size 27 #[.int .i64 args, .int .i64 regs, .int .i64 slots, .slice A n c]
  p : Row W z 63 #[.slice A1 y.code.length c1, .int .i64 y.term.kind, .int .i64 y.term.a, .int .i64 y.term.to, .int .i64 y.term.el]
  i : MisAt W w.heap.size A1 y.code

section
variable {w W W' : World} {args regs slots : Int} {A A1 : Option Addr} {n c z c1 : Nat} {y : MBlk}

theorem RK.next (h : RK w args regs slots A n c z A1 y c1 W) (hb : Below W.heap.size W W') : RK w args regs slots A n c z A1 y c1 W' :=
  ⟨h.below.trans (hb.mono h.below.size), h.b.below hb h.b.lt, h.p.below hb h.p.lt, h.i.below (hb.mono h.below.size)⟩

theorem RK.drewN (h : RK w args regs slots A n c z A1 y c1 W) (k : Nat) : RK w args regs slots A n c z A1 y c1 (W.drewN k) := h.next (blw_drew W k)

theorem RK.drew (h : RK w args regs slots A n c z A1 y c1 W) : RK w args regs slots A n c z A1 y c1 W.drew := h.drewN 1

theorem MisAt.get {B b o m : Nat} {xs : List Mi} (h : MisAt W B (some ⟨b, o, none⟩) xs) (hm : m < xs.length) : xs[m].At W b (o + m * 7) := by
  obtain ⟨b', o', e, hb, hc⟩ := h.at_ hm
  injection e with e
  injection e with e1 e2
  subst e1
  subst e2
  exact hc

theorem RK.cells {b1 o1 m : Nat} {x : Mi} (h : RK w args regs slots A n c z (some ⟨b1, o1, none⟩) y c1 W) (hx : y.code[m]? = some x) :
    RK w args regs slots A n c z (some ⟨b1, o1, none⟩) y c1 W ∧ W.cell? ⟨z, 0, none⟩ = some (.slice (some ⟨b1, o1, none⟩) y.code.length c1) ∧ W.cell? ⟨w.heap.size, 1, none⟩ = some (.int .i64 regs) ∧ W.cell? ⟨w.heap.size, 2, none⟩ = some (.int .i64 slots) ∧
    W.cell? ⟨b1, o1 + m * 7, none⟩ = some (.int .i64 x.op) ∧ W.cell? ⟨b1, o1 + m * 7 + 1, none⟩ = some (.int .i64 x.d) ∧ W.cell? ⟨b1, o1 + m * 7 + 2, none⟩ = some (.int .i64 x.a) ∧ W.cell? ⟨b1, o1 + m * 7 + 3, none⟩ = some (.int .i64 x.b) ∧ W.cell? ⟨b1, o1 + m * 7 + 4, none⟩ = some (.int .i64 x.imm) ∧ W.cell? ⟨b1, o1 + m * 7 + 5, none⟩ = some (.int .i64 x.dst) ∧ W.cell? ⟨b1, o1 + m * 7 + 6, none⟩ = some (.int .i64 x.src) := by
  obtain ⟨hm, rfl⟩ := List.getElem?_eq_some_iff.1 hx
  have g := h.i.get hm
  exact ⟨h, h.p.cell 0, h.b.cell 1, h.b.cell 2, g.c0, g.c1, g.c2, g.c3, g.c4, g.c5, g.c6⟩

end

theorem rmoves_at (B : Nat) (A : Option Addr) (xs : List Mi) (n c q : Nat) (w : World) (hs : MisAt w B A xs) (hl : xs.length = n) (hm : n ≤ 1000000) (hq : mvs xs = q) :
    Calls Tryz.prog 30 #[.slice A n c] w fun e w' => e = .returned (.int .i64 q) ∧ w = w' := by
  subst hl
  subst hq
  exact rmoves_any B A xs c w hs hm

set_option maxRecDepth 100000 in
set_option maxHeartbeats 2000000 in
theorem rmcheck_any (B : Nat) (A : Option Addr) (bs : List MBlk) (c : Nat) (args regs slots : Int) (w : World) (hs : MBlksAt w B A bs) (hB : B ≤ w.heap.size) (hm : bs.length ≤ 1000) (hn : mcodeN bs ≤ 1000000) :
    Calls Tryz.prog 9 #[.agg #[.int .i64 args, .int .i64 regs, .int .i64 slots, .slice A bs.length c]] w fun e w' => e = .returned (.int .i64 (eMF args regs slots bs)) ∧ Below w.heap.size w w' := by
  have HB0 := Lib.hid ((Below.refl w.heap.size w).alloc (Nat.le_refl _) (.cells #[.int .i64 args, .int .i64 regs, .int .i64 slots, .slice A bs.length c] 27))
  have HX := Lib.hid (Row.new w 27 #[.int .i64 args, .int .i64 regs, .int .i64 slots, .slice A bs.length c])
  have HC := Lib.hid (rmcode_any B A bs c args regs slots _ (hs.alloc hB (.cells #[.int .i64 args, .int .i64 regs, .int .i64 slots, .slice A bs.length c] 27)) (by simp; omega) hm hn)
  have hws := msizes_ways args regs slots bs hm hn
  have hcn : (mcodeN bs : Int) ≤ 1000000 := by omega
  have HCM := Lib.hid (mcodeN_mem bs)
  have HHN := Lib.hid hn
  go_enter Tryz.func9, Tryz.ntmps9
  rcases hws with ⟨h1, he⟩ | ⟨h1, h2, he⟩ | ⟨h1, h2, ⟨h0, he⟩ | ⟨h0, ⟨h3, he⟩ | ⟨h3, ⟨h5, he⟩ | ⟨h5, ⟨h4, he⟩ | ⟨h4, he⟩⟩⟩⟩⟩
  · have HE : Hid (eMF args regs slots bs = 10) := by rw [Hid, eMF, he]; rfl
    clear he
    go_wp2
    go_ret
    exact ⟨by rw [HE.out]; rfl, HB0.out⟩
  · have HE : Hid (eMF args regs slots bs = 10) := by rw [Hid, eMF, he]; rfl
    clear he
    go_wp2
    go_ret
    exact ⟨by rw [HE.out]; rfl, HB0.out⟩
  · have HE : Hid (eMF args regs slots bs = 9) := by rw [Hid, eMF, he]; rfl
    clear he
    go_wp2
    go_ret
    exact ⟨by rw [HE.out]; rfl, HB0.out⟩
  · have HE : Hid (eMF args regs slots bs = 6) := by rw [Hid, eMF, he]; rfl
    clear he
    go_wp2
    go_ret
    exact ⟨by rw [HE.out]; rfl, HB0.out⟩
  · have HE : Hid (eMF args regs slots bs = 6) := by rw [Hid, eMF, he]; rfl
    clear he
    go_wp2
    go_ret
    exact ⟨by rw [HE.out]; rfl, HB0.out⟩
  · have HE : Hid (eMF args regs slots bs = 14) := by rw [Hid, eMF, he]; rfl
    have e1 : ((bs.length : Int) == 0) = true := by simp [h4]
    clear he h4
    go_wp2
    go_ret
    exact ⟨by rw [HE.out]; rfl, HB0.out⟩
  · have HE0 : Hid (eMF args regs slots bs = eMBs regs slots bs.length bs) := by rw [Hid, eMF, he]; rfl
    have e1 : ((bs.length : Int) == 0) = false := beq_eq_false_iff_ne.2 (by omega)
    clear he
    go_wp2_with fail
    refine HC.out.mono ?_
    rintro e W1 ⟨rfl, hb1⟩
    have HB1 := Lib.hid (HB0.out.trans (hb1.mono HB0.out.size))
    have HX1 := Lib.hid (HX.out.below hb1 HX.out.lt)
    clear hb1 HC HB0 HX e1 h1 h2 h3 h4 h0 h5
    generalize mcodeN bs = cn at hcn HCM HHN
    go_wp2
    clear hcn hn
    go_loopg [3] bs.length (fun g i wr => ∃ k : Nat, k + g = bs.length ∧ i = .int .i64 k ∧ Hid (eMBs regs slots bs.length bs = eMBs regs slots bs.length (bs.drop k)) ∧ Hid (Below w.heap.size w wr) ∧ Hid (Row wr w.heap.size 27 #[.int .i64 args, .int .i64 regs, .int .i64 slots, .slice A bs.length c]))
    case atStart => exact ⟨0, by omega, rfl, rfl, HB1.out, HX1.out⟩
    case round =>
      obtain ⟨k, hkg, rfl, HT, HB, HR⟩ := hrel
      have d1 := HR.out.cell 1; have d2 := HR.out.cell 2; have d3 := HR.out.cell 3
      have hlz : w.heap.size < wr.heap.size := HR.out.lt
      simp only [List.getElem?_toArray, List.getElem?_cons_zero, List.getElem?_cons_succ] at d1 d2 d3
      cases gk with
      | zero =>
        obtain rfl : k = bs.length := by omega
        rw [List.drop_length] at HT
        have HE2 : Hid (eMF args regs slots bs = 0) := by rw [Hid, HE0.out, HT.out]; rfl
        go_wp2
        go_ret
        exact ⟨by rw [HE2.out]; rfl, HB.out⟩
      | succ g =>
        have hlt : k < bs.length := by omega
        have hs1 := (hs.more hB).below HB.out
        obtain ⟨b, o, rfl, hb, hat⟩ := hs1.at_ hlt
        have HS := Lib.hid (HT.out.trans (eMBs_step regs slots bs.length bs k hlt))
        obtain ⟨A1, c1, hc0, hl1, hl2, hin⟩ := hat.code
        have hc1 := hat.t0; have hc2 := hat.t1; have hc3 := hat.t2; have hc4 := hat.t3
        have hyl : bs[k].code.length ≤ 1000000 := by have := HCM.out k hlt; have := HHN.out; omega
        have hz := HB.out.size
        have HK0 := Lib.hid (⟨HB.out.alloc HB.out.size _, HR.out.alloc _, Row.new wr _ _, hin.alloc hz _⟩ : RK w args regs slots (some ⟨b, o, none⟩) bs.length c wr.heap.size A1 bs[k] c1 (wr.alloc (.cells #[.slice A1 bs[k].code.length c1, .int .i64 bs[k].term.kind, .int .i64 bs[k].term.a, .int .i64 bs[k].term.to, .int .i64 bs[k].term.el] 63)))
        clear hat HT HB HR hs hs1 HX1 HB1 hin
        generalize bs[k] = y at *
        obtain ⟨wo, hwo⟩ : ∃ z, z = wr := ⟨_, rfl⟩
        subst hwo
        go_wp2
        clear hc0 hc1 hc2 hc3 hc4 d1 d2 d3
        generalize wo.heap.size = z at *
        go_loopg [5] y.code.length (fun g2 j wx => ∃ m : Nat, m + g2 = y.code.length ∧ j = .int .i64 m ∧ Hid (eCd regs slots 0 y.code = eCd regs slots (trail (y.code.take m)) (y.code.drop m)) ∧ trail (y.code.take m) ≤ 64 ∧ Hid (RK w args regs slots (some ⟨b, o, none⟩) bs.length c z A1 y c1 wx))
        case atStart => exact ⟨0, by omega, rfl, rfl, Nat.zero_le _, HK0.out⟩
        case round =>
          obtain ⟨m, hmg, rfl, HI, htr, HK⟩ := hrel
          clear HK0
          have d0 := HK.out.p.cell 0
          have d1 := HK.out.b.cell 1; have d2 := HK.out.b.cell 2; have d3 := HK.out.b.cell 3
          simp only [List.getElem?_toArray, List.getElem?_cons_zero, List.getElem?_cons_succ] at d0 d1 d2 d3
          cases gk with
          | zero =>
            obtain rfl : m = y.code.length := by omega
            rw [List.drop_length] at HI
            have HEB : Hid (eMB y regs slots bs.length = eT y.term regs bs.length) := by rw [Hid, eMB, HI.out]; rfl
            have f1 := HK.out.p.cell 1; have f2 := HK.out.p.cell 2; have f3 := HK.out.p.cell 3; have f4 := HK.out.p.cell 4
            simp only [List.getElem?_toArray, List.getElem?_cons_zero, List.getElem?_cons_succ] at f1 f2 f3 f4
            clear htr
            go_wp2_with fail
            refine (rterm_any y.term regs bs.length _).mono ?_
            rintro e W2 ⟨rfl, hb2⟩
            have HK3 := Lib.hid (HK.out.next hb2)
            clear hb2 d0 d1 d2 d3 f1 f2 f3 f4 HK
            obtain ⟨v, hv⟩ : ∃ z, eT y.term regs bs.length = z := ⟨_, rfl⟩
            rw [hv] at HEB ⊢
            clear hv
            by_cases h0 : v = 0
            · have e0 : (v != 0) = false := by simp [h0]
              have HS2 : Hid (eMBs regs slots bs.length bs = eMBs regs slots bs.length (bs.drop (k + 1))) := by rw [Hid, HS.out, HEB.out, if_pos h0]
              clear HS h0
              go_wp2
              go_roundg g
              case measure => omega
              case rel => exact ⟨k + 1, by omega, by go_num, HS2.out, HK3.out.below, HK3.out.b⟩
            · have e0 : (v != 0) = true := by simp [h0]
              have HE2 : Hid (eMF args regs slots bs = v) := by rw [Hid, HE0.out, HS.out, HEB.out, if_neg h0]
              clear HS h0
              go_wp2
              go_ret
              exact ⟨by rw [HE2.out]; rfl, HK3.out.below⟩
          | succ g2 =>
            have hlm : m < y.code.length := by omega
            obtain ⟨b1, o1, rfl, hb1, hin⟩ := HK.out.i.at_ hlm
            have HJ := Lib.hid (HI.out.trans (eCd_step regs slots y.code _ m hlm))
            have HTR := Lib.hid (trail_step y.code m hlm)
            have HTW := Lib.hid (trail_window y.code m hlm)
            have HG : Hid (y.code[m]? = some y.code[m]) := Lib.hid (List.getElem?_eq_getElem hlm)
            have hok := hin.ok
            have HV := Lib.hid (fun W (h : RK w args regs slots (some ⟨b, o, none⟩) bs.length c z (some ⟨b1, o1, none⟩) y c1 W) => (rminstr_any y.code[m] regs slots W hok).mono fun e w' ⟨he, hb⟩ => (⟨he, h.next hb⟩ : e = _ ∧ RK w args regs slots (some ⟨b, o, none⟩) bs.length c z (some ⟨b1, o1, none⟩) y c1 w'))
            rw [← HTR.out] at HJ
            obtain ⟨v, hv⟩ : ∃ z, eM y.code[m] regs slots = z := ⟨_, rfl⟩
            rw [hv] at HJ
            simp only [hv] at HV
            clear hin hv hok HTR
            generalize y.code[m] = x at *
            have hG := HK.out
            go_wp2_with fail
            go_region_held3 (fun w' => RK w args regs slots (some ⟨b, o, none⟩) bs.length c z (some ⟨b1, o1, none⟩) y c1 w' ∧ w'.cell? ⟨z, 0, none⟩ = some (.slice (some ⟨b1, o1, none⟩) y.code.length c1) ∧ w'.cell? ⟨w.heap.size, 1, none⟩ = some (.int .i64 regs) ∧ w'.cell? ⟨w.heap.size, 2, none⟩ = some (.int .i64 slots) ∧ w'.cell? ⟨b1, o1 + m * 7, none⟩ = some (.int .i64 x.op) ∧ w'.cell? ⟨b1, o1 + m * 7 + 1, none⟩ = some (.int .i64 x.d) ∧ w'.cell? ⟨b1, o1 + m * 7 + 2, none⟩ = some (.int .i64 x.a) ∧ w'.cell? ⟨b1, o1 + m * 7 + 3, none⟩ = some (.int .i64 x.b) ∧ w'.cell? ⟨b1, o1 + m * 7 + 4, none⟩ = some (.int .i64 x.imm) ∧ w'.cell? ⟨b1, o1 + m * 7 + 5, none⟩ = some (.int .i64 x.dst) ∧ w'.cell? ⟨b1, o1 + m * 7 + 6, none⟩ = some (.int .i64 x.src)) (first | exact hG.cells HG.out | exact hG.drew.cells HG.out | exact (hG.drewN _).cells HG.out) (first
              | (go_at_call 29; go_must ((with_reducible refine (HV.out _ (by first | exact hG | exact hG.drew | exact hG.drewN _)).mono ?_); rintro e Wa ⟨rfl, hG⟩))
              )
            have HK3 := Lib.hid hG
            clear hG HK HV d0 d1 d2 d3
            by_cases h0 : v = 0
            · have e0 : (v != 0) = false := by simp [h0]
              have HJ2 : Hid (eCd regs slots 0 y.code = if 64 < trail (y.code.take (m + 1)) then 15 else eCd regs slots (trail (y.code.take (m + 1))) (y.code.drop (m + 1))) := by rw [Hid, HJ.out, if_pos h0]
              clear HJ h0
              have d0 := HK3.out.p.cell 0
              simp only [List.getElem?_toArray, List.getElem?_cons_zero] at d0
              by_cases h64 : 64 ≤ m
              · obtain ⟨j, rfl⟩ : ∃ j, m = j + 64 := ⟨m - 64, by omega⟩
                rw [Nat.add_sub_cancel] at HTW
                obtain ⟨q, hq⟩ : ∃ z, z = mvs ((y.code.take (j + 64 + 1)).drop j) := ⟨_, rfl⟩
                have HMV := Lib.hid (fun W h => rmoves_at w.heap.size (some ⟨b1, o1 + j * 7, none⟩) ((y.code.take (j + 64 + 1)).drop j) (j + 64 + 1 - j) (c1 - j) q W h (by simp; omega) (by omega) hq.symm)
                have HMI := Lib.hid ((HK3.out.i.take (j + 64 + 1)).drop j)
                have hq2 : q ≤ 65 := by rw [hq]; have := mvs_le ((y.code.take (j + 64 + 1)).drop j); simp at this; omega
                rw [← hq] at HTW
                clear hq
                go_wp2_with fail
                refine (HMV.out _ HMI.out).mono ?_
                rintro e w' ⟨rfl, rfl⟩
                by_cases hq64 : 64 < q
                · have HE : Hid (eCd regs slots 0 y.code = 15) := by rw [Hid, HJ2.out, if_pos (HTW.out.2 ⟨h64, hq64⟩)]
                  have HEB : Hid (eMB y regs slots bs.length = 15) := by rw [Hid, eMB, HE.out]; rfl
                  have HE2 : Hid (eMF args regs slots bs = 15) := by rw [Hid, HE0.out, HS.out, HEB.out]; rfl
                  clear HJ2 HS
                  go_wp2
                  go_ret
                  exact ⟨by rw [HE2.out]; rfl, HK3.out.below⟩
                · have HE : Hid (¬ 64 < trail (y.code.take (j + 64 + 1))) := fun h => hq64 (HTW.out.1 h).2
                  have HS2 : Hid (eCd regs slots 0 y.code = eCd regs slots (trail (y.code.take (j + 64 + 1))) (y.code.drop (j + 64 + 1))) := by rw [Hid, HJ2.out, if_neg HE.out]
                  clear HJ2
                  go_wp2
                  go_roundg g2
                  case measure => omega
                  case rel => exact ⟨j + 64 + 1, by omega, by go_num, HS2.out, by have := HE.out; omega, HK3.out⟩
              · have HE : Hid (¬ 64 < trail (y.code.take (m + 1))) := fun h => h64 (HTW.out.1 h).1
                have HS2 : Hid (eCd regs slots 0 y.code = eCd regs slots (trail (y.code.take (m + 1))) (y.code.drop (m + 1))) := by rw [Hid, HJ2.out, if_neg HE.out]
                clear HJ2
                go_wp2
                go_roundg g2
                case measure => omega
                case rel => exact ⟨m + 1, by omega, by go_num, HS2.out, by have := HE.out; omega, HK3.out⟩
            · have e0 : (v != 0) = true := by simp [h0]
              have HEB : Hid (eMB y regs slots bs.length = v) := by rw [Hid, eMB, HJ.out, if_neg h0, if_neg h0]
              have HE2 : Hid (eMF args regs slots bs = v) := by rw [Hid, HE0.out, HS.out, HEB.out, if_neg h0]
              clear HS HJ h0
              go_wp2
              go_ret
              exact ⟨by rw [HE2.out]; rfl, HK3.out.below⟩

end Go.Proofs.YtmmdhhjpbolkhaaGreat
