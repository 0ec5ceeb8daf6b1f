/-
  The walk of the statement that the arguments are not modified and that runs share no memory.
-/
import Derived.Test.YtcimjghejclknaaExLawM
namespace Go.Proofs.Ytcimjghejclknaa
open Go.RowKit
set_option linter.unusedVariables false
set_option linter.unusedSimpArgs false

theorem Xp.settrace {w : World} {lo q : Nat} {T : TypeId} {ex : List Value} {RA SA : Option Addr} {rc sc tc : Nat} {r : Xn} {g k : Nat} {v : Int} (h : Xp w lo q T ex RA rc SA sc (some ⟨g, 0, none⟩) tc r) (hk : k < r.trace.length) :
    Xp (w.setCell ⟨g, k, none⟩ (.int .i64 v)) lo q T ex RA rc SA sc (some ⟨g, 0, none⟩) tc { r with trace := r.trace.set k v } ∧ Below lo w (w.setCell ⟨g, k, none⟩ (.int .i64 v)) := by
  have hl : (r.trace.set k v).length = r.trace.length := by simp
  have hgq := h.nt g rfl
  have hlg := (ownS_lt h.v.trace g rfl).1
  have h1 := ownS_put h.v.trace (g := g) rfl (j := k) (by rw [ints_length]; exact hk) (.int .i64 v)
  have hm := (Mods.refl (Is g) w).put k (.int .i64 v)
  refine ⟨⟨?_, ⟨hm.ownS h.v.regs fun j hj hs => h.v.rt g (by unfold Is at hs; rw [← hs]; exact hj) rfl, hm.ownS h.v.slots fun j hj hs => h.v.st g (by unfold Is at hs; rw [← hs]; exact hj) rfl, ?_, h.v.rs, ?_, ?_⟩, h.lt, h.ty⟩, (Below.refl _ _).setCell (by show lo ≤ g; exact hlg) _⟩
  · have := h.row.far (q := ⟨g, k, none⟩) (fun e => hgq e.symm) (.int .i64 v)
    unfold xcs at this ⊢
    rw [← hl] at this
    exact this
  · rw [ints_set]
    rw [← hl] at h1
    exact h1
  · intro j hj ht
    rw [hl] at ht
    exact h.v.rt j hj ht
  · intro j hj ht
    rw [hl] at ht
    exact h.v.st j hj ht

set_option maxRecDepth 100000 in
set_option maxHeartbeats 8000000 in
theorem ExecuteKeeps_walk (a0 : Array Value) (a1 : Option Addr) (len1 cap1 : Nat) (z1 : List Int) (a2 : Int) (w : World) (w0 : IsMFn w a0) (w1 : IsRow .i64 w a1 len1 cap1 z1) (w2 : (Lit.int .u8 a2).wf = true) :
    Calls Try.prog 8 #[.agg a0, .slice a1 len1 cap1, .int .u8 a2] w fun e w' => e = .returned (.bool true) ∧ Below w.heap.size w w' := by
  obtain ⟨args, regs, slots, BA, bs, c, rfl, hwa, hwr, hws, hbl, hbm, hbs, hbw⟩ := w0
  obtain ⟨l, hll, hli, hls, hlc, hcm⟩ := w1.ints
  have hu2 := u8_of_wf w2
  obtain ⟨f2, rfl⟩ := Int.eq_ofNat_of_zero_le hu2.1
  have hf2 : f2 ≤ 255 := by omega
  clear w2 hu2
  have hb0 := (Below.refl w.heap.size w).alloc (Nat.le_refl _) (.cells #[.int .i64 args, .int .i64 regs, .int .i64 slots, .slice BA bs.length c] 24)
  have hL0 : XLW w args regs slots BA bs c a1 l w.heap.size (w.alloc (.cells #[.int .i64 args, .int .i64 regs, .int .i64 slots, .slice BA bs.length c] 24)) := ⟨hb0, Row.new _ _ _, hbs.below hb0, hls.below hb0⟩
  have hbl2 : bs.length ≤ maxLen := Nat.le_trans hbl hbm
  have hnm : len1 ≤ maxLen := Nat.le_trans hlc hcm
  have HLI := Lib.hid hli
  have HBW := Lib.hid hbw
  have HLL := Lib.hid hll
  have hnm2 : len1 ≤ 9223372036854775807 := by unfold maxLen at hnm; omega
  clear hb0 hls hbs w1 hwa hwr hws hbl hbm hlc hcm hli hbw hll
  go_enter Try.func8, Try.ntmps8
  go_wp2_with fail
  refine (xawake_any _).mono ?_
  rintro e W1 ⟨rfl, hb⟩
  have hL1 := hL0.next hb
  clear hb hL0
  have d0 := hL1.f.cell 0; have d1 := hL1.f.cell 1; have d2 := hL1.f.cell 2; have d3 := hL1.f.cell 3
  simp only [List.getElem?_toArray, List.getElem?_cons_zero, List.getElem?_cons_succ] at d0 d1 d2 d3
  have HL1 := Lib.hid hL1
  clear hL1
  go_wp2_with fail
  refine (xright_any w.heap.size BA a1 bs c len1 cap1 args regs slots 0 W1 HL1.out.b HL1.out.below.size hbl2 hnm).mono ?_
  rintro e W2 ⟨⟨b, rfl, hf⟩, hb⟩
  have hL2 := HL1.out.next hb
  have d0 := hL2.f.cell 0; have d1 := hL2.f.cell 1; have d2 := hL2.f.cell 2; have d3 := hL2.f.cell 3
  simp only [List.getElem?_toArray, List.getElem?_cons_zero, List.getElem?_cons_succ] at d0 d1 d2 d3
  clear hb HL1 hbl2
  cases b
  · clear hf
    go_wp2_with fail
    refine (xawake_any _).mono ?_
    rintro e W3 ⟨rfl, hb⟩
    have HB3 := Lib.hid (hL2.next hb).below
    clear hb hL2 d0 d1 d2 d3
    go_wp2
    go_ret
    exact ⟨rfl, HB3.out⟩
  · obtain ⟨⟨hq1, hq2, hq2', hq3⟩, hE, hfu, hna⟩ := hf rfl
    obtain ⟨n, m, rfl, rfl, ha0, ha1, hF⟩ := eMF_ok hE HBW.out
    clear hf hE
    have hz0 : w.heap.size < W2.heap.size := hL2.f.lt
    have HL2 := Lib.hid hL2
    have HF := Lib.hid hF
    clear hL2 hF
    by_cases hlen : (len1 : Int) = args
    · subst hlen
      obtain rfl : l.length = len1 := HLL.out
      have hln : l.length ≤ m := by omega
      have hn9 : n ≤ 1000 := by have := hq2; omega
      have hmm9 : m ≤ 1000 := by have := hq2'; omega
      have hc9 : mcodeN bs ≤ 1000000 := by omega
      have hm9 : bs.length ≤ 1000 := by omega
      clear ha0 ha1 hfu hna hq1 hq2 hq2' hq3
      obtain ⟨i0, hi, hz0', hz1, hz2⟩ := info_parts infoI64
      have hs3 := (HL2.out.a).alloc HL2.out.below.size (.cells #[] 2)
      go_wp2_with (at_builtin; refine wpList_append_sees _ rfl (.tmp 33) (.tmp 34) 25 rfl W2.heap.size 2 i0 (.int .i64 0) 8 Try.underlying25 hi hz0' hz1 hz2 rfl _ _ _ rfl (own_empty W2 2 1) w.heap.size _ _ _ (ints l) rfl hs3 (ints_length _) (ints_one _) ?k1 ?k2 ?k3 ?_)
      case k1 => unfold maxLen; omega
      case k2 => omega
      case k3 => simp
      intro v3 W3 ho3 hg3
      obtain ⟨A0, c0, rfl, ho3, hb3⟩ := app_new rfl ho3 hg3
      have HL3 := Lib.hid (HL2.out.next hb3)
      have HO3 := Lib.hid (sees_own ho3)
      clear hg3 hs3 ho3 hb3 HL2 d0 d1 d2 d3
      have CE := Lib.hid (xexec_any l n m bs W3.heap.size BA A0 c c0 ((f2 : Int) % 60) W3 HO3.out (HL3.out.b.more HL3.out.below.size) (Nat.le_refl _) hn9 hmm9 hln HF.out HLI.out hc9 hm9 (by omega))
      have hgood := runX_good HF.out (xn0_good HF.out hln HLI.out) ((f2 : Int) % 60).toNat
      have hsteps := (runX_steps bs (xn0 n m l) ((f2 : Int) % 60).toNat).1
      have hs0 : (xn0 n m l).steps = 0 := rfl
      rw [hs0, Nat.zero_add] at hsteps
      have hst9 : (runX bs (xn0 n m l) ((f2 : Int) % 60).toNat).steps ≤ 1000 := by omega
      generalize hr : runX bs (xn0 n m l) ((f2 : Int) % 60).toNat = r at *
      have hrl9 : r.regs.length ≤ 1000000 := by rw [hgood.lenr]; omega
      have hsl9 : r.slots.length ≤ 1000000 := by rw [hgood.lens]; omega
      have htr9 : r.trace.length ≤ 1000000 := by have := hgood.tr; omega
      have CI := Lib.hid fun lo RC SC TC re se te W (h : XLW w (l.length : Int) (n : Int) (m : Int) BA bs c a1 l w.heap.size W) (hv : XV W lo RC re SC se TC te r) => xstepi_any bs r w.heap.size lo (l.length : Int) (n : Int) (m : Int) RC SC TC BA re se te c W hv h.b h.below.size (by rw [hgood.lenr, hgood.lens]; exact HF.out) (by rw [hgood.lenr, hgood.lens]; exact hgood) (by omega) hrl9 hsl9 hc9 hm9
      generalize hss : stepX bs r = s at *
      clear hr hss hgood hsteps hs0 hst9
      have d0 := HL3.out.f.cell 0; have d1 := HL3.out.f.cell 1; have d2 := HL3.out.f.cell 2; have d3 := HL3.out.f.cell 3
      simp only [List.getElem?_toArray, List.getElem?_cons_zero, List.getElem?_cons_succ] at d0 d1 d2 d3
      have hz3 : w.heap.size < W3.heap.size := HL3.out.f.lt
      go_wp2_with fail
      refine CE.out.mono ?_
      rintro e W4 ⟨RA, rc, SA, sc, TA, tc, rfl, hv, hb⟩
      have hba := (Below.refl W4.heap.size W4).alloc (Nat.le_refl _) (.cells #[.int .i64 r.st, .int .i64 (r.blk : Int), .int .i64 (r.pos : Int), .int .i64 r.val, .slice RA r.regs.length rc, .slice SA r.slots.length sc, .slice TA r.trace.length tc, .int .i64 (r.steps : Int)] 29)
      have hbb := hb.trans (hba.mono hb.size)
      have HL5 := Lib.hid (HL3.out.next hbb)
      have HO5 := Lib.hid (HO3.out.below hbb)
      have HX5 : Hid (Xp (W4.alloc (.cells #[.int .i64 r.st, .int .i64 (r.blk : Int), .int .i64 (r.pos : Int), .int .i64 r.val, .slice RA r.regs.length rc, .slice SA r.slots.length sc, .slice TA r.trace.length tc, .int .i64 (r.steps : Int)] 29)) W3.heap.size W4.heap.size runT [] RA rc SA sc TA tc r) := ⟨Row.new _ _ _, hv.below hba, hb.size, by decide⟩
      have hz35 : W3.heap.size ≤ (W4.alloc (.cells #[.int .i64 r.st, .int .i64 (r.blk : Int), .int .i64 (r.pos : Int), .int .i64 r.val, .slice RA r.regs.length rc, .slice SA r.slots.length sc, .slice TA r.trace.length tc, .int .i64 (r.steps : Int)] 29)).heap.size := hbb.size
      clear hb hv hba hbb HL3 HO3 CE d0 d1 d2 d3
      generalize hb0 : W3.heap.size = b0 at *
      clear hb0
      go_upto_region 5 with fail
      generalize W4.alloc (.cells #[.int .i64 r.st, .int .i64 (r.blk : Int), .int .i64 (r.pos : Int), .int .i64 r.val, .slice RA r.regs.length rc, .slice SA r.slots.length sc, .slice TA r.trace.length tc, .int .i64 (r.steps : Int)] 29) = W5 at *
      generalize W4.heap.size = z8 at *
      obtain ⟨s0, s1, s2, s3, s4, s5, s6, s7⟩ := HX5.out.cells
      go_wp2_with fail
      refine (xcopy_any r W5.heap.size RA SA TA rc sc tc W5 HX5.out.v.srs HX5.out.v.sss HX5.out.v.sts (Nat.le_refl _) hrl9 hsl9 htr9).mono ?_
      rintro e W6 ⟨RB, rd, SB, sd, TB, td, rfl, hv, hb⟩
      have hba := (Below.refl W6.heap.size W6).alloc (Nat.le_refl _) (.cells #[.int .i64 r.st, .int .i64 (r.blk : Int), .int .i64 (r.pos : Int), .int .i64 r.val, .slice RB r.regs.length rd, .slice SB r.slots.length sd, .slice TB r.trace.length td, .int .i64 (r.steps : Int)] 29)
      have hbb := hb.trans (hba.mono hb.size)
      have HL7 := Lib.hid (HL5.out.next hbb)
      have HO7 := Lib.hid (HO5.out.below (hbb.mono hz35))
      have HX7 := Lib.hid (HX5.out.next hbb)
      have HQ7 : Hid (Xp (W6.alloc (.cells #[.int .i64 r.st, .int .i64 (r.blk : Int), .int .i64 (r.pos : Int), .int .i64 r.val, .slice RB r.regs.length rd, .slice SB r.slots.length sd, .slice TB r.trace.length td, .int .i64 (r.steps : Int)] 29)) b0 W6.heap.size runT [] RB rd SB sd TB td r) := ⟨Row.new _ _ _, (hv.base hz35).below hba, Nat.le_trans hz35 hb.size, by decide⟩
      have hz37 : b0 ≤ (W6.alloc (.cells #[.int .i64 r.st, .int .i64 (r.blk : Int), .int .i64 (r.pos : Int), .int .i64 r.val, .slice RB r.regs.length rd, .slice SB r.slots.length sd, .slice TB r.trace.length td, .int .i64 (r.steps : Int)] 29)).heap.size := Nat.le_trans hz35 hbb.size
      clear hb hv hba hbb HL5 HO5 HX5 s0 s1 s2 s3 s4 s5 s6 s7
      go_upto_region 6 with fail
      generalize W6.alloc (.cells #[.int .i64 r.st, .int .i64 (r.blk : Int), .int .i64 (r.pos : Int), .int .i64 r.val, .slice RB r.regs.length rd, .slice SB r.slots.length sd, .slice TB r.trace.length td, .int .i64 (r.steps : Int)] 29) = W7 at *
      generalize W6.heap.size = z10 at *
      have d0 := HL7.out.f.cell 0; have d1 := HL7.out.f.cell 1; have d2 := HL7.out.f.cell 2; have d3 := HL7.out.f.cell 3
      simp only [List.getElem?_toArray, List.getElem?_cons_zero, List.getElem?_cons_succ] at d0 d1 d2 d3
      obtain ⟨s0, s1, s2, s3, s4, s5, s6, s7⟩ := HX7.out.cells
      go_wp2_with fail
      refine (CI.out b0 RA SA TA rc sc tc W7 HL7.out HX7.out.v).mono ?_
      rintro e W8 ⟨RC, re, SC, se, TC, te, rfl, hv, hb⟩
      have hba := (Below.refl W8.heap.size W8).alloc (Nat.le_refl _) (.cells #[.int .i64 s.st, .int .i64 (s.blk : Int), .int .i64 (s.pos : Int), .int .i64 s.val, .slice RC s.regs.length re, .slice SC s.slots.length se, .slice TC s.trace.length te, .int .i64 (s.steps : Int)] 29)
      have HB9 := Lib.hid (hb.trans (hba.mono hb.size))
      have HO9 : Hid (Xp (W8.alloc (.cells #[.int .i64 s.st, .int .i64 (s.blk : Int), .int .i64 (s.pos : Int), .int .i64 s.val, .slice RC s.regs.length re, .slice SC s.slots.length se, .slice TC s.trace.length te, .int .i64 (s.steps : Int)] 29)) W7.heap.size W8.heap.size runT [] RC re SC se TC te s) := ⟨Row.new _ _ _, hv.below hba, hb.size, by decide⟩
      clear hb hv hba CI d0 d1 d2 d3 s0 s1 s2 s3 s4 s5 s6 s7
      go_upto_region 7 with fail
      generalize W8.alloc (.cells #[.int .i64 s.st, .int .i64 (s.blk : Int), .int .i64 (s.pos : Int), .int .i64 s.val, .slice RC s.regs.length re, .slice SC s.slots.length se, .slice TC s.trace.length te, .int .i64 (s.steps : Int)] 29) = W9 at *
      generalize W8.heap.size = z11 at *
      have hns : s.regs.length ≤ 9223372036854775807 := HO9.out.v.lens.1
      have hss : s.slots.length ≤ 9223372036854775807 := HO9.out.v.lens.2.1
      have hms : s.trace.length ≤ 9223372036854775807 := HO9.out.v.lens.2.2
      have hl9 : True := trivial
      go_wp2
      go_loopg [12] s.regs.length (fun g sx wr => ∃ (k : Nat) (s' : Xn), k + g = s.regs.length ∧ sx = .int .i64 k ∧ (s'.regs.length = s.regs.length ∧ s'.slots.length = s.slots.length ∧ s'.trace.length = s.trace.length) ∧ Hid (Xp wr W7.heap.size z11 runT [] RC re SC se TC te s') ∧ Hid (Below W7.heap.size W7 wr))
      case atStart => exact ⟨0, s, by omega, rfl, ⟨rfl, rfl, rfl⟩, HO9.out, HB9.out⟩
      case round =>
        obtain ⟨k, s', hk, rfl, ⟨l1, l2, l3⟩, HO, HB⟩ := hrel
        clear HO9 HB9 hl9
        obtain ⟨_, _, _, _, f4, f5, f6, _⟩ := HO.out.cells
        cases gk with
        | succ g =>
          have hlt : k < s'.regs.length := by omega
          have hlt2 : (k : Int) < (s'.regs.length : Int) := by omega
          have hk9 : (k : Int) ≤ 9223372036854775806 := by omega
          have HK := Lib.hid (And.intro hk (And.intro l1 (And.intro l2 l3)))
          obtain ⟨gb, rfl, hcell⟩ := regs_at HO.out.v.regs hlt
          have hfr := own_frozen HO.out.v.regs (g := gb) (k := k) rfl
          have hST := Lib.hid fun (v : Int) => HO.out.setreg (v := v) hlt
          clear hk l1 l2 l3
          generalize rg s'.regs (k : Int) = x at *
          go_wp2
          go_roundg g
          case measure => omega
          case rel =>
            obtain ⟨hk, l1, l2, l3⟩ := HK.out
            exact ⟨k + 1, _, by omega, by go_num, ⟨by simp [l1], by simp [l2], by simp [l3]⟩, (hST.out (wrap64 (x + 1))).1, HB.out.trans (hST.out (wrap64 (x + 1))).2⟩
        | zero =>
          obtain rfl : k = s.regs.length := by omega
          have hkl : ((s.regs.length : Int)) = (s'.regs.length : Int) := by omega
          have HL9 := Lib.hid (And.intro l1 (And.intro l2 l3))
          obtain ⟨W10, hW10⟩ : ∃ x, x = wr := ⟨_, rfl⟩
          subst hW10
          have hge : ¬ (s.regs.length : Int) < (s'.regs.length : Int) := by omega
          clear hk l1 l2 l3 hkl
          go_wp2
          go_loopg [13] s.slots.length (fun g sx wr => ∃ (k : Nat) (s' : Xn), k + g = s.slots.length ∧ sx = .int .i64 k ∧ (s'.regs.length = s.regs.length ∧ s'.slots.length = s.slots.length ∧ s'.trace.length = s.trace.length) ∧ Hid (Xp wr W7.heap.size z11 runT [] RC re SC se TC te s') ∧ Hid (Below W7.heap.size W7 wr))
          case atStart => exact ⟨0, s', by omega, rfl, HL9.out, HO.out, HB.out⟩
          case round =>
            have HO9 := HO; have HB9 := HB; have hl9 := HL9
            clear HO HB HL9 f4 f5 f6 hge
            rename_i s1
            obtain ⟨k, s', hk, rfl, ⟨l1, l2, l3⟩, HO, HB⟩ := hrel
            clear HO9 HB9 hl9
            obtain ⟨_, _, _, _, f4, f5, f6, _⟩ := HO.out.cells
            cases gk with
            | succ g =>
              have hlt : k < s'.slots.length := by omega
              have hlt2 : (k : Int) < (s'.slots.length : Int) := by omega
              have hk9 : (k : Int) ≤ 9223372036854775806 := by omega
              have HK := Lib.hid (And.intro hk (And.intro l1 (And.intro l2 l3)))
              obtain ⟨gb, rfl, hcell⟩ := regs_at HO.out.v.slots hlt
              have hfr := own_frozen HO.out.v.slots (g := gb) (k := k) rfl
              have hST := Lib.hid fun (v : Int) => HO.out.setslot (v := v) hlt
              clear hk l1 l2 l3
              generalize rg s'.slots (k : Int) = x at *
              go_wp2
              go_roundg g
              case measure => omega
              case rel =>
                obtain ⟨hk, l1, l2, l3⟩ := HK.out
                exact ⟨k + 1, _, by omega, by go_num, ⟨by simp [l1], by simp [l2], by simp [l3]⟩, (hST.out (wrap64 (x + 1))).1, HB.out.trans (hST.out (wrap64 (x + 1))).2⟩
            | zero =>
              obtain rfl : k = s.slots.length := by omega
              have HL9 := Lib.hid (And.intro l1 (And.intro l2 l3))
              obtain ⟨W11, hW11⟩ : ∃ x, x = wr := ⟨_, rfl⟩
              subst hW11
              have hge : ¬ (s.slots.length : Int) < (s'.slots.length : Int) := by omega
              clear hk l1 l2 l3
              go_wp2
              go_loopg [14] s.trace.length (fun g sx wr => ∃ (k : Nat) (s' : Xn), k + g = s.trace.length ∧ sx = .int .i64 k ∧ (s'.regs.length = s.regs.length ∧ s'.slots.length = s.slots.length ∧ s'.trace.length = s.trace.length) ∧ Hid (Xp wr W7.heap.size z11 runT [] RC re SC se TC te s') ∧ Hid (Below W7.heap.size W7 wr))
              case atStart => exact ⟨0, s', by omega, rfl, HL9.out, HO.out, HB.out⟩
              case round =>
                have HO9 := HO; have HB9 := HB; have hl9 := HL9
                clear HO HB HL9 f4 f5 f6 hge
                obtain ⟨k, s', hk, rfl, ⟨l1, l2, l3⟩, HO, HB⟩ := hrel
                clear HO9 HB9 hl9
                obtain ⟨_, _, _, _, f4, f5, f6, _⟩ := HO.out.cells
                cases gk with
                | succ g =>
                  have hlt : k < s'.trace.length := by omega
                  have hlt2 : (k : Int) < (s'.trace.length : Int) := by omega
                  have hk9 : (k : Int) ≤ 9223372036854775806 := by omega
                  have HK := Lib.hid (And.intro hk (And.intro l1 (And.intro l2 l3)))
                  obtain ⟨gb, rfl, hcell⟩ := regs_at HO.out.v.trace hlt
                  have hfr := own_frozen HO.out.v.trace (g := gb) (k := k) rfl
                  have hST := Lib.hid fun (v : Int) => HO.out.settrace (v := v) hlt
                  clear hk l1 l2 l3
                  generalize rg s'.trace (k : Int) = x at *
                  go_wp2
                  go_roundg g
                  case measure => omega
                  case rel =>
                    obtain ⟨hk, l1, l2, l3⟩ := HK.out
                    exact ⟨k + 1, _, by omega, by go_num, ⟨by simp [l1], by simp [l2], by simp [l3]⟩, (hST.out (wrap64 (x + 1))).1, HB.out.trans (hST.out (wrap64 (x + 1))).2⟩
                | zero =>
                  obtain rfl : k = s.trace.length := by omega
                  have hge : ¬ (s.trace.length : Int) < (s'.trace.length : Int) := by omega
                  have hx8 := HX7.out.next HB.out
                  have hx10 := HQ7.out.next HB.out
                  obtain ⟨u0, u1, u2, u3, u4, u5, u6, u7⟩ := hx8.cells
                  obtain ⟨v0, v1, v2, v3, v4, v5, v6, v7⟩ := hx10.cells
                  have C6 := Lib.hid (xsame_any r wr.heap.size RA SA TA RB SB TB rc sc tc rd sd td wr hx8.v.srs hx10.v.srs hx8.v.sts hx10.v.sts hx8.v.sss hx10.v.sss (Nat.le_refl _) hx8.v.lens.1 hx8.v.lens.2.1 hx8.v.lens.2.2)
                  have HX8 := Lib.hid hx8
                  clear hk l1 l2 l3 hx8 hx10
                  go_wp2_with fail
                  refine C6.out.mono ?_
                  rintro e W12 ⟨rfl, hb⟩
                  have HX12 := Lib.hid (HX8.out.next hb)
                  have HB12 := Lib.hid ((HB.out.trans (hb.mono HB.out.size)).mono hz37)
                  clear hb HX8 C6 HB HO f4 f5 f6 u0 u1 u2 u3 u4 u5 u6 u7 v0 v1 v2 v3 v4 v5 v6 v7 hge
                  go_wp2
                  go_loopg [16] r.slots.length (fun g sx wy => ∃ (k : Nat) (s' : Xn), k + g = r.slots.length ∧ sx = .int .i64 k ∧ s'.slots.length = r.slots.length ∧ Hid (Xp wy b0 z8 runT [] RA rc SA sc TA tc s') ∧ Hid (Below b0 W7 wy))
                  case atStart => exact ⟨0, r, by omega, rfl, rfl, HX12.out, HB12.out⟩
                  case round =>
                    obtain ⟨k, s', hk, rfl, hls, HO, HB⟩ := hrel
                    clear HX12 HB12
                    obtain ⟨_, _, _, _, _, f5, _, _⟩ := HO.out.cells
                    cases gk with
                    | succ g =>
                      have hlt : k < s'.slots.length := by omega
                      have hlt2 : (k : Int) < (s'.slots.length : Int) := by omega
                      have hk9 : (k : Int) ≤ 9223372036854775806 := by omega
                      have HK := Lib.hid (And.intro hk hls)
                      obtain ⟨gb, rfl, hcell⟩ := regs_at HO.out.v.slots hlt
                      have hfr := own_frozen HO.out.v.slots (g := gb) (k := k) rfl
                      have hST := Lib.hid fun (v : Int) => HO.out.setslot (v := v) hlt
                      clear hk hls
                      generalize rg s'.slots (k : Int) = x at *
                      go_wp2
                      go_roundg g
                      case measure => omega
                      case rel =>
                        obtain ⟨hk, l2⟩ := HK.out
                        exact ⟨k + 1, _, by omega, by go_num, by simp [l2], (hST.out (wrap64 (x + 1))).1, HB.out.trans (hST.out (wrap64 (x + 1))).2⟩
                    | zero =>
                      obtain rfl : k = r.slots.length := by omega
                      have hge : ¬ (r.slots.length : Int) < (s'.slots.length : Int) := by omega
                      have hwb : w.heap.size ≤ b0 := by omega
                      have K9 := Lib.hid (vals_at (W := wr) b0 l l.length c0 cap1 rfl (HO7.out.below HB.out) ((HL7.out.a.below (HB.out.mono hwb)).more hwb) hnm)
                      have HB9 := Lib.hid (HL7.out.below.trans (HB.out.mono hwb))
                      clear hk hls
                      go_wp2_with fail
                      refine K9.out.mono ?_
                      rintro e W14 ⟨rfl, q1, rfl⟩
                      go_wp2
                      go_ret
                      exact ⟨rfl, blw_drewN HB9.out _⟩
    · have hle : ((len1 : Int) != args) = true := by simp [hlen]
      clear hlen
      go_wp2_with fail
      refine (xawake_any _).mono ?_
      rintro e W3 ⟨rfl, hb⟩
      have HB3 := Lib.hid (HL2.out.next hb).below
      clear hb HL2 d0 d1 d2 d3
      go_wp2
      go_ret
      exact ⟨rfl, HB3.out⟩

end Go.Proofs.Ytcimjghejclknaa
