/-
  The program's Check of layer 8.
-/
import Derived.Test.YtcoehkphdfejjaaGreatPk2
import Derived.Test.YtcoehkphdfejjaaGreatSrcTerm
namespace Go.Proofs.YtcoehkphdfejjaaGreat
open Go.RowKit
set_option linter.unusedVariables false

/-- What Check's loop carries: the function's box and the finder's. -/
structure CK (w : World) (args regs slots : Int) (A : Option Addr) (n c : Nat) (p q f : Nat) (W : World) : Prop where
  below : Below w.heap.size w W
  b : Row W w.heap.size 30 #[.int .i64 args, .int .i64 regs, .int .i64 slots, .slice A n c]
  f : Row W f 101 #[.func (.func 66) #[] #[.pointer (some ⟨p, 0, none⟩), .pointer (some ⟨q, 0, none⟩)], .func (.func 68) #[] #[.pointer (some ⟨p, 0, none⟩)]]
  n : Fin2 W p q regs slots

theorem CK.next {w W W' : World} {args regs slots : Int} {A : Option Addr} {n c p q f : Nat} (h : CK w args regs slots A n c p q f W) (hb : Below W.heap.size W W') : CK w args regs slots A n c p q f W' :=
  ⟨h.below.trans (hb.mono h.below.size), h.b.below hb h.b.lt, h.f.below hb h.f.lt, h.n.next hb⟩

theorem CK.alloc {w W : World} {args regs slots : Int} {A : Option Addr} {n c p q f : Nat} (h : CK w args regs slots A n c p q f W) (o : Obj) : CK w args regs slots A n c p q f (W.alloc o) := h.next ((Below.refl _ _).alloc (Nat.le_refl _) o)

set_option maxRecDepth 100000 in
set_option maxHeartbeats 1000000 in
theorem mcheck_any (B : Nat) (A : Option Addr) (bs : List MBlk) (c : Nat) (args regs slots : Int) (w : World) (hs : MBlksAt w B A bs) (hB : B ≤ w.heap.size) (hm : bs.length ≤ 1000) (hn : mcodeN bs ≤ 1000000) :
    Calls Tryz.prog 29 #[.agg #[.int .i64 args, .int .i64 regs, .int .i64 slots, .slice A bs.length c]] w fun e w' => e = .returned (.int .i64 (eMF args regs slots bs)) ∧ Below w.heap.size w w' := by
  have hbox := Row.new w 30 #[.int .i64 args, .int .i64 regs, .int .i64 slots, .slice A bs.length c]
  have HB0 := Lib.hid ((Below.refl w.heap.size w).alloc (Nat.le_refl _) (.cells #[.int .i64 args, .int .i64 regs, .int .i64 slots, .slice A bs.length c] 30))
  have HC := Lib.hid (msizes_any B A bs c args regs slots _ (hs.alloc hB (.cells #[.int .i64 args, .int .i64 regs, .int .i64 slots, .slice A bs.length c] 30)) (by simp; omega) hm hn)
  have HX := Lib.hid hbox
  have HS := Lib.hid hs
  clear hbox hs
  go_enter Tryz.func29, Tryz.ntmps29
  go_wp2_with fail
  refine HC.out.mono ?_
  rintro e W1 ⟨rfl, hb1⟩
  have HB1 := Lib.hid (HB0.out.trans (hb1.mono HB0.out.size))
  have HX1 := Lib.hid (HX.out.below hb1 HX.out.lt)
  have d1 := HX1.out.cell 1; have d2 := HX1.out.cell 2; have d3 := HX1.out.cell 3
  simp only [List.getElem?_toArray, List.getElem?_cons_zero, List.getElem?_cons_succ] at d1 d2 d3
  clear hb1 HC HB0 HX
  obtain ⟨v, hv⟩ : ∃ z, eMSz args regs slots bs = z := ⟨_, rfl⟩
  rw [hv]
  by_cases h0 : v = 0
  · have e0 : (v != 0) = false := by simp [h0]
    have HE : Hid (eMF args regs slots bs = eMBs regs slots bs.length bs) := by rw [Hid, eMF, hv, if_pos h0]
    clear hv h0
    go_wp2_with fail
    refine (newfind_any regs slots _).mono ?_
    rintro e W2 ⟨p, q, rfl, hf, _, _, hb2⟩
    have HB2 := Lib.hid (HB1.out.trans (hb2.mono HB1.out.size))
    have HX2 := Lib.hid (HX1.out.below hb2 HX1.out.lt)
    have HK0 := Lib.hid ((⟨HB2.out.alloc HB2.out.size _, HX2.out.alloc _, Row.new W2 _ _, hf.next ((Below.refl _ _).alloc (Nat.le_refl _) _)⟩ : CK w args regs slots A bs.length c p q W2.heap.size (W2.alloc (.cells #[.func (.func 66) #[] #[.pointer (some ⟨p, 0, none⟩), .pointer (some ⟨q, 0, none⟩)], .func (.func 68) #[] #[.pointer (some ⟨p, 0, none⟩)]] 101))))
    clear d1 d2 d3
    have d1 := HX2.out.cell 1; have d2 := HX2.out.cell 2; have d3 := HX2.out.cell 3
    simp only [List.getElem?_toArray, List.getElem?_cons_zero, List.getElem?_cons_succ] at d1 d2 d3
    have hlz2 : w.heap.size < W2.heap.size := HX2.out.lt
    clear hb2 hf HB1 HX1 HB2 HX2
    go_wp2
    generalize W2.heap.size = fz at *
    go_loopw [22] (fun i wr => ∃ k : Nat, k ≤ bs.length ∧ i = .int .i64 k ∧ Hid (eMBs regs slots bs.length bs = eMBs regs slots bs.length (bs.drop k)) ∧ Hid (CK w args regs slots A bs.length c p q fz wr)) (fun i _ => bs.length - (intOf i).toNat)
    case atStart => exact ⟨0, Nat.zero_le _, rfl, rfl, HK0.out⟩
    case round =>
      obtain ⟨k, hk, rfl, HT, HK⟩ := hrel
      clear d1 d2 d3 HK0
      by_cases hlt : k < bs.length
      · have hs1 := (HS.out.more hB).below HK.out.below
        obtain ⟨b, o, rfl, hb, hat⟩ := hs1.at_ hlt
        have HST := Lib.hid (HT.out.trans (eMBs_step regs slots bs.length bs k hlt))
        obtain ⟨A1, c1, hc0, hl1, hl2, hin⟩ := hat.code
        have hc1 := hat.t0; have hc2 := hat.t1; have hc3 := hat.t2; have hc4 := hat.t3
        have hz := HK.out.below.size
        have HK2 := Lib.hid (HK.out.alloc (.cells #[.slice A1 bs[k].code.length c1, .int .i64 bs[k].term.kind, .int .i64 bs[k].term.a, .int .i64 bs[k].term.to, .int .i64 bs[k].term.el] 52))
        have HR2 := Lib.hid (Row.new wr 52 #[.slice A1 bs[k].code.length c1, .int .i64 bs[k].term.kind, .int .i64 bs[k].term.a, .int .i64 bs[k].term.to, .int .i64 bs[k].term.el])
        have HM := Lib.hid (fun W (h1 : MisAt W w.heap.size A1 bs[k].code) (h2 : w.heap.size ≤ W.heap.size) (h3 : Fin2 W p q regs slots) => checkcode_any w.heap.size A1 bs[k].code c1 regs slots p q W h1 h2 (by have := mcodeN_mem bs k hlt; omega) h3)
        have HI := Lib.hid (hin.alloc hz (.cells #[.slice A1 bs[k].code.length c1, .int .i64 bs[k].term.kind, .int .i64 bs[k].term.a, .int .i64 bs[k].term.to, .int .i64 bs[k].term.el] 52))
        have d1 := HK.out.b.cell 1; have d3 := HK.out.b.cell 3; have f0 := HK.out.f.cell 0; have f1 := HK.out.f.cell 1
        have hlz : w.heap.size < wr.heap.size := HK.out.b.lt
        have hlf : fz < wr.heap.size := HK.out.f.lt
        simp only [List.getElem?_toArray, List.getElem?_cons_zero, List.getElem?_cons_succ] at d1 d3 f0 f1
        have HU := Lib.hid (show eMB bs[k] regs slots bs.length = if eCd regs slots 0 bs[k].code = 0 then eT bs[k].term regs bs.length else eCd regs slots 0 bs[k].code from rfl)
        have HTM := Lib.hid (fun W => term_any bs[k].term regs bs.length W)
        clear hat HT HK hs1 hin
        obtain ⟨v, hv⟩ : ∃ z, z = eCd regs slots 0 bs[k].code := ⟨_, rfl⟩
        rw [← hv] at HU HM
        clear hv
        obtain ⟨t, ht⟩ : ∃ z, z = eT bs[k].term regs bs.length := ⟨_, rfl⟩
        rw [← ht] at HU HTM
        clear ht
        generalize bs[k] = y at *
        go_wp2_with fail
        refine (HM.out _ HI.out (by simp; omega) HK2.out.n).mono ?_
        rintro e W3 ⟨rfl, hb3⟩
        have HK3 := Lib.hid (HK2.out.next hb3)
        have hr3 := HR2.out.below hb3 HR2.out.lt
        clear HK2 HR2 HI HM d1 d3 f0 f1 hc0 hc1 hc2 hc3 hc4
        have d1 := HK3.out.b.cell 1; have d3 := HK3.out.b.cell 3
        have t0 := hr3.cell 1; have t1 := hr3.cell 2; have t2 := hr3.cell 3; have t3 := hr3.cell 4
        simp only [List.getElem?_toArray, List.getElem?_cons_zero, List.getElem?_cons_succ] at d1 d3 t0 t1 t2 t3
        clear hb3 hr3
        by_cases h0 : v = 0
        · have e0 : (v != 0) = false := by simp [h0]
          have HU2 : Hid (eMB y regs slots bs.length = t) := by rw [Hid, HU.out, if_pos h0]
          clear HU h0
          go_wp2_with fail
          refine (HTM.out _).mono ?_
          rintro e W4 ⟨rfl, hb4⟩
          have HK4 := Lib.hid (HK3.out.next hb4)
          clear hb4 HK3 d1 d3 t0 t1 t2 t3
          by_cases h1 : t = 0
          · have e1 : (t != 0) = false := by simp [h1]
            have HS2 : Hid (eMBs regs slots bs.length bs = eMBs regs slots bs.length (bs.drop (k + 1))) := by rw [Hid, HST.out, HU2.out, if_pos h1]
            clear HST h1
            go_wp2
            go_roundw
            case rel => exact ⟨k + 1, by omega, by go_num, HS2.out, HK4.out⟩
            case measure => simp [intOf]; omega
          · have e1 : (t != 0) = true := by simp [h1]
            have HE2 : Hid (eMF args regs slots bs = t) := by rw [Hid, HE.out, HST.out, HU2.out, if_neg h1]
            clear HST h1
            go_wp2
            go_ret
            exact ⟨by rw [HE2.out]; rfl, HK4.out.below⟩
        · have e0 : (v != 0) = true := by simp [h0]
          have HE2 : Hid (eMF args regs slots bs = v) := by rw [Hid, HE.out, HST.out, HU.out, if_neg h0, if_neg h0]
          clear HST h0
          go_wp2
          go_ret
          exact ⟨by rw [HE2.out]; rfl, HK3.out.below⟩
      · obtain rfl : k = bs.length := by omega
        rw [List.drop_length] at HT
        have HE2 : Hid (eMF args regs slots bs = 0) := by rw [Hid, HE.out, HT.out]; rfl
        go_wp2
        go_ret
        exact ⟨by rw [HE2.out]; rfl, HK.out.below⟩
  · have e0 : (v != 0) = true := by simp [h0]
    have HE : Hid (eMF args regs slots bs = v) := by rw [Hid, eMF, hv, if_neg h0]
    clear hv h0
    go_wp2
    go_ret
    exact ⟨by rw [HE.out]; rfl, HB1.out⟩

end Go.Proofs.YtcoehkphdfejjaaGreat
