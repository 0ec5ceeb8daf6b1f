/-
  solve: the graph of a valid function, with everything that is live.
-/
import Derived.Test.YtncigbpeempnfaaLvSpr
import Derived.Test.YtncigbpeempnfaaLvSolD
namespace Go.Proofs.Ytncigbpeempnfaa
open Go.RowKit
set_option linter.unusedVariables false

theorem infoNode : (Try.prog.info? 63).map (fun i => (i.zero, i.size, i.bytes)) = some (some (.agg #[.map none, .map none, .slice none 0 0, .map none]), 4, 48) := by kernel_rfl

theorem nd_one (a b c : Option Nat) (v : Value) (hv : v.oneCell' = true) : ∀ u ∈ (#[Value.map a, .map b, v, .map c] : Array Value).toList, u.oneCell' = true := fun u hu => by
  simp only [List.mem_cons, List.not_mem_nil, or_false] at hu
  rcases hu with rfl | rfl | rfl | rfl <;> first | rfl | exact hv

theorem GV23.base {w w0 W : World} {gv : Value} {n N : Nat} {U D L : Nat → Int → Bool} {B : Nat → List Int} {vs : List NdV} (h : GV23 w0 gv n N U D B L vs W) (hb : Below w.heap.size w w0) : GV23 w gv n N U D B L vs W :=
  { h with
    own := ownS_base h.own hb.size
    sb := fun i x hx => ownS_base (h.sb i x hx) hb.size
    ge := fun i x s q hx hs => Nat.le_trans hb.size (h.ge i x s q hx hs)
    blw := hb.trans (h.blw.mono hb.size) }

/-- A list that is ranged over, beside the graph. -/
def SB23 (As : Option Addr) (g : Nat) (l : List Int) (vs : List NdV) (W : World) : Prop := Sees W W.heap.size As (ints l) ∧ (l ≠ [] → ∀ b, As = some b → b.block ≠ g ∧ ∀ (i : Nat) (y : NdV), vs[i]? = some y → ¬ y.b.ownBlock = some b.block)

theorem SB23.put {As : Option Addr} {g sn : Nat} {l : List Int} {vs : List NdV} {W W' : World} {x : NdV} {u' : Value} (h : SB23 As g l vs W) (hx : vs[sn]? = some x) (hm : Mods (fun q => x.b.ownBlock = some q) W W') (hb : u'.ownBlock = x.b.ownBlock ∨ ∃ q, u'.ownBlock = some q ∧ W.heap.size ≤ q) :
    SB23 As g l (vs.set sn { x with b := u' }) (W'.setCell ⟨g, sn * 4 + 2, none⟩ u') := by
  by_cases hl : l = []
  · subst hl
    exact ⟨fun hn => absurd rfl hn, fun hn => absurd rfl hn⟩
  · have hl' : ints l ≠ [] := fun e => hl (by simpa [ints] using e)
    obtain ⟨p, o, rfl, hp, hc⟩ := h.1 hl'
    obtain ⟨h1, h2⟩ := h.2 hl _ rfl
    have h1 : p ≠ g := h1
    have h3 : ¬ x.b.ownBlock = some p := h2 sn x hx
    refine ⟨fun _ => ⟨p, o, rfl, by have := hm.size; simp [World.setCell]; omega, fun i z hz => ?_⟩, fun _ b hb' => ?_⟩
    · rw [World.cell?_of_block (w := W') (Below.heap_setCell W' ⟨g, sn * 4 + 2, none⟩ _ p h1), hm.cell (p := ⟨p, o + i, none⟩) hp h3]
      exact hc i z hz
    · injection hb' with hb'
      subst hb'
      refine ⟨h1, fun i y hy hq => ?_⟩
      rcases set_at hy with ⟨_, rfl⟩ | ⟨_, hy⟩
      · rcases hb with hb | ⟨q, hb, hq'⟩
        · exact h3 (by rw [← hb]; exact hq)
        · have hq : u'.ownBlock = some p := hq
          rw [hq] at hb; injection hb with hb; omega
      · exact h2 i y hy hq

set_option maxRecDepth 100000 in
set_option maxHeartbeats 8000000 in
theorem psolve_any (args regs : Int) (FA : Option Addr) (bs : List Blk) (bc N : Nat) (w : World) (hs : BlksAt w w.heap.size FA bs) (hm : bs.length ≤ 100000) (h0 : 0 < bs.length) (hN : N ≤ 100000) (hcm : ∀ b ∈ bs, b.code.length ≤ 100000000) (ht : ∀ b ∈ bs, ∀ s ∈ succs b.term, 0 ≤ s ∧ s < bs.length) (hok : ∀ b ∈ bs, BlkOk N b) (hU : ∀ i, i < bs.length → ∀ z, bUse (blkAt bs i) z = true → 0 ≤ z ∧ z < N) :
    Calls Try.prog 37 #[.agg #[.int .i64 args, .int .i64 regs, .slice FA bs.length bc]] w fun e w' => ∃ g c, e = .returned (.slice (some ⟨g, 0, none⟩) bs.length c) ∧ ∃ B vs, GV23 w (.slice (some ⟨g, 0, none⟩) bs.length c) bs.length N (fun i => bUse (blkAt bs i)) (fun i => bDef (blkAt bs i)) B (fun i z => lvB bs z i) vs w' := by
  obtain ⟨i0, hi0, hz0, hz1, hz2⟩ := info_parts infoNode
  obtain ⟨j0, hj0, hy0, hy1, hy2⟩ := info_parts infoInt23
  have HX := Row.new w 24 #[.int .i64 args, .int .i64 regs, .slice FA bs.length bc]
  have hb0 : Below w.heap.size w (w.alloc (.cells #[.int .i64 args, .int .i64 regs, .slice FA bs.length bc] 24)) := (Below.refl _ _).alloc (Nat.le_refl _) _
  have hs0 := (hs.below hb0).more hb0.size
  have HB0 := Lib.hid hb0
  have HCM := Lib.hid hcm
  have HTS := Lib.hid ht
  have HOK := Lib.hid hok
  have HUU := Lib.hid hU
  clear hs hb0 hcm ht hok hU
  go_enter Try.func37, Try.ntmps37
  go_upto_region 1 with fail
  generalize (w.alloc (.cells #[.int .i64 args, .int .i64 regs, .slice FA bs.length bc] 24)) = W0 at *
  obtain ⟨b1, hb1⟩ : ∃ z, w.heap.size = z := ⟨_, rfl⟩
  have h1w : b1 < W0.heap.size := by have := HX.lt; omega
  rw [hb1] at HX
  rw [hb1]
  clear hb1
  have y0 := HX.k0; have y1 := HX.k1; have y2 := HX.k2
  go_upto_region 2 with (at_make; refine wpList_make_own _ rfl _ _ 67 rfl W0.heap.size 63 i0 (.agg #[.map none, .map none, .slice none 0 0, .map none]) 4 Try.underlying67 hi0 hz0 hz1 _ _ _ bs.length rfl rfl rfl (by rw [hz2]; omega) (by unfold maxLen; omega) (Nat.le_refl _) ?_; intro W1 ho1 hg1)
  obtain ⟨U, hUe⟩ : ∃ U : Nat → Int → Bool, U = fun i => bUse (blkAt bs i) := ⟨_, rfl⟩
  obtain ⟨D, hDe⟩ : ∃ D : Nat → Int → Bool, D = fun i => bDef (blkAt bs i) := ⟨_, rfl⟩
  have HG1 : Hid (GV23 W0 (.slice (some ⟨W0.heap.size, 0, none⟩) 0 bs.length) 0 N U D (fun _ => []) (fun _ _ => false) [] W1) := by
    have hM : Mods No W0 W1 := (Mods.refl _ _).grown hg1 fun k hk => by cases hk
    exact ⟨ho1, rfl, fun i x h => by simp at h, fun i x h => by simp at h, fun i x h => by simp at h, fun i x h => by simp at h, fun i x s q h => by simp at h, fun i j x y s t q h => by simp at h, fun i j x y q h => by simp at h, hM.below (Nat.le_refl _) fun _ h => h.elim⟩
  have HUE := Lib.hid hUe
  have HDE := Lib.hid hDe
  clear ho1 hg1 hUe hDe
  have hX1 := HX.below HG1.out.blw h1w
  clear y0 y1 y2
  have y0 := hX1.k0; have y1 := hX1.k1; have y2 := hX1.k2
  go_upto_region 3 with fail
  clear y0 y1 y2 hX1
  go_loopg [3, 21] bs.length (fun q s3 s21 wr => ∃ (j : Nat) (A : Option Addr) (c : Nat) (vs : List NdV), j + q = bs.length ∧ s3 = .slice A j c ∧ s21 = .int .i64 (j : Int) ∧ Hid (GV23 W0 (.slice A j c) j N U D (fun _ => []) (fun _ _ => false) vs wr))
  case atStart => exact ⟨0, _, _, [], by omega, rfl, rfl, HG1.out⟩
  case round =>
    clear HG1
    obtain ⟨j, A, c, vs, hj, rfl, rfl, HG⟩ := hrel
    cases gk with
    | zero =>
      obtain rfl : j = bs.length := by omega
      obtain ⟨g, rfl⟩ : ∃ g, A = some ⟨g, 0, none⟩ := by
        rcases HG.out.own.2 with ⟨e, h⟩ | ⟨g, cap, cur, e, _⟩
        · omega
        · injection e with e _ _; exact ⟨g, e⟩
      have hX := HX.below HG.out.blw h1w
      have y0 := hX.k0; have y1 := hX.k1; have y2 := hX.k2
      clear hX hj
      go_upto_region 8 with fail
      clear y0 y1 y2
      go_loopg [34] bs.length (fun q s34 wr => ∃ (k : Nat) (B : Nat → List Int) (vs : List NdV), k + q = bs.length ∧ s34 = .int .i64 (k : Int) ∧ Hid (GV23 W0 (.slice (some ⟨g, 0, none⟩) bs.length c) bs.length N U D B (fun _ _ => false) vs wr) ∧ Hid (BI bs k 0 B))
      case atStart => exact ⟨0, fun _ => [], vs, by omega, rfl, HG.out, BI.start bs⟩
      case round =>
        clear HG
        obtain ⟨k, B, vs, hk, rfl, HG, HBI⟩ := hrel
        cases gk with
        | zero =>
          obtain rfl : k = bs.length := by omega
          have HDP : Hid (∀ i z, D i z = bDef (blkAt bs i) z) := fun i z => by rw [HDE.out]
          have HBB : Hid (∀ j, j < bs.length → (B j).length ≤ 1000000 ∧ ∀ p ∈ B j, 0 ≤ p ∧ p < (bs.length : Int)) := fun j hj => by
            have := HBI.out.len j
            exact ⟨by omega, fun p hp => ⟨(HBI.out.inn j p hp).1, (HBI.out.inn j p hp).2.1⟩⟩
          have HPS : Hid (∀ v j, j < bs.length → Lv bs v j → ∀ p ∈ B j, D p.toNat v = false → Lv bs v p.toNat) := fun v j hj hl p hp hd => by
            obtain ⟨h1, h2, h3⟩ := HBI.out.inn j p hp
            rw [HDP.out] at hd
            exact Lv.edge (by omega) h3 (by rw [Int.toNat_natCast]; exact hl) hd
          have HLI0 := Lib.hid (LI.start bs N B)
          clear hk
          go_upto_region 17 with fail
          go_loopg [65] bs.length (fun q s65 wr => ∃ (k : Nat) (L : Nat → Int → Bool) (vs : List NdV), k + q = bs.length ∧ s65 = .int .i64 (k : Int) ∧ Hid (GV23 W0 (.slice (some ⟨g, 0, none⟩) bs.length c) bs.length N U D B L vs wr) ∧ Hid (LI bs N B k 0 L))
          case atStart => exact ⟨0, _, vs, by omega, rfl, HG.out, HLI0.out⟩
          case round =>
            clear HG HLI0
            obtain ⟨k, L, vs, hk, rfl, HG, HLI⟩ := hrel
            cases gk with
            | zero =>
              obtain rfl : k = bs.length := by omega
              have HF := Lib.hid (HLI.out.fin HBI.out HUU.out (fun i hi s hs => HTS.out (blkAt bs i) (blkAt_mem hi) s hs))
              go_wp2_with fail
              go_ret
              refine ⟨g, c, rfl, B, vs, (HG.out.congr (fun i _ => ?_) (fun i _ => ?_) (fun i _ => rfl) fun i hi => (HF.out i hi).symm).base HB0.out⟩
              · rw [HUE.out]
              · rw [HDE.out]
            | succ g1 =>
              have hlt : k < bs.length := by omega
              have hvl : k < vs.length := by rw [HG.out.len]; exact hlt
              have hvx : vs[k]? = some vs[k] := List.getElem?_eq_getElem hvl
              obtain ⟨c1, c2, c3, c4⟩ := HG.out.cell hvx
              have hown := HG.out.sb k _ hvx
              have hsu := HG.out.su k _ hvx
              have HUk : Hid (regL (U k) N = useL (blkAt bs k) N) := by rw [Hid, HUE.out]; rfl
              generalize vs[k] = y at *
              obtain ⟨yu, yd, yb, yl⟩ := y
              dsimp only at c1 c2 c3 c4 hown hsu
              obtain ⟨Ab, cb, rfl, hb1, hb2⟩ := ownS_slice hown
              clear hvl hvx hown hb1 hb2
              go_upto_region 19 with fail
              have HI := Row.new wr 63 #[.map yu, .map yd, .slice Ab (B k).length cb, .map yl]
              have hba : Below wr.heap.size wr (wr.alloc (.cells #[.map yu, .map yd, .slice Ab (B k).length cb, .map yl] 63)) := (Below.refl _ _).alloc (Nat.le_refl _) _
              have HG5 := Lib.hid (HG.out.next hba)
              have HSO := Lib.hid (sorted_any (.map yu) N (U k) _ (hsu.below hba) hN)
              clear HG c1 c2 c3 c4 hba hsu
              generalize (wr.alloc (.cells #[.map yu, .map yd, .slice Ab (B k).length cb, .map yl] 63)) = W5 at *
              obtain ⟨xb, hxb⟩ : ∃ z, wr.heap.size = z := ⟨_, rfl⟩
              rw [hxb] at HI ⊢
              clear hxb
              have f0 := HI.k0; have f1 := HI.k1; have f2 := HI.k2; have f3 := HI.k3
              rw [HUk.out] at HSO
              have HUL : Hid (∀ z ∈ useL (blkAt bs k) N, 0 ≤ z ∧ z < N ∧ Lv bs z k) := fun z hz => by
                obtain ⟨h1, h2, h3⟩ := (regL_mem _ _ _).1 hz
                exact ⟨h1, h2, Lv.use hlt h3⟩
              have hul : (useL (blkAt bs k) N).length ≤ 100000 := Nat.le_trans (regL_len _ _) hN
              have HLK : Hid (useL (blkAt bs k) N = useL (blkAt bs k) N) := rfl
              obtain ⟨l, hl⟩ : ∃ z, useL (blkAt bs k) N = z := ⟨_, rfl⟩
              rw [hl] at HSO HUL hul
              have HL := Lib.hid hl
              clear hl HLK HUk
              go_upto_region 20 with (go_at_call 36; refine (HSO.out).mono ?_; rintro e w6 ⟨A6, c6, rfl, h6⟩; have H6 := Lib.hid h6; clear h6)
              have HG6 := Lib.hid (HG5.out.next H6.out.blw)
              have HOW := Lib.hid H6.out.own
              clear HG5 HSO H6 f0 f1 f2 f3 HI
              go_loopg [74] l.length (fun q s74 wx => ∃ (m : Nat) (L : Nat → Int → Bool) (vs : List NdV), m + q = l.length ∧ s74 = .int .i64 (m : Int) ∧ Hid (GV23 W0 (.slice (some ⟨g, 0, none⟩) bs.length c) bs.length N U D B L vs wx) ∧ Hid (LI bs N B k m L) ∧ Hid (wx.ownsRow W5.heap.size 3 1 (.slice A6 l.length c6) l.length (ints l)))
              case atStart => exact ⟨0, L, vs, by omega, rfl, HG6.out, HLI.out, HOW.out⟩
              case round =>
                clear HG6 HLI HOW
                obtain ⟨m, L, vs, hm', rfl, HG, HLI, HOW⟩ := hrel
                cases gk with
                | zero =>
                  obtain rfl : m = l.length := by omega
                  go_wp2_with fail
                  go_roundg g1
                  case measure => omega
                  case rel => exact ⟨k + 1, L, vs, by omega, by go_num, HG.out, HLI.out.turn (by rw [HL.out]; exact Nat.le_refl _)⟩
                | succ g2 =>
                  have hml : m < l.length := by omega
                  obtain ⟨p, o2, rfl, _, hcell⟩ := ints_at (sees_own HOW.out) hml
                  have HLM : Hid (l[m]? = some l[m]) := List.getElem?_eq_getElem hml
                  obtain ⟨hs1, hs2, hs3⟩ := HUL.out l[m] (List.getElem_mem hml)
                  generalize l[m] = v at *
                  have hcls : ClosedV bs.length D B L v := by have := HLI.out.cls v; rw [HDE.out]; exact this
                  have HSP := Lib.hid (spread_any W0 wr g bs.length c N U D L B (fun j => Lv bs v j) k v ⟨vs, HG.out⟩ hlt hs1 hs2 hN hm HBB.out hcls (fun j hj h => HLI.out.snd j hj v h) hs3 (HPS.out v))
                  have HGN : Hid (¬ (Value.slice (some ⟨p, o2, none⟩) l.length c6).ownBlock = some g) := fun e => ownS_ne HG.out.own HOW.out (by decide) g rfl e
                  clear hcls hs1 hs2 hs3
                  go_wp2_with (go_at_call 47; refine (HSP.out).mono ?_; rintro e w7 ⟨rfl, L', ⟨vs', h7⟩, h8, h9, h10, h11, h12, h13⟩; have HG7 := Lib.hid h7; have HO7 := Lib.hid (h8.own HOW.out HGN.out); have HL7 := Lib.hid (HLI.out.step (L' := L') (v := v) (by rw [HL.out]; exact HLM.out) h9 h10 h11 h12 (by rw [HDE.out] at h13; exact h13)); clear h7 h8 h9 h10 h11 h12 h13)
                  go_roundg g2
                  case measure => omega
                  case rel => exact ⟨m + 1, L', vs', by omega, by go_num, HG7.out, HL7.out, HO7.out⟩
        | succ g1 =>
          have hlt : k < bs.length := by omega
          obtain ⟨b', o, hA, hb, hx⟩ := (hs0.below HG.out.blw).at_ hlt
          have hbk : blkAt bs k = bs[k] := blkAt_lt hlt
          have htj := HTS.out bs[k] (List.getElem_mem hlt)
          have HSS : Hid (succs (blkAt bs k).term = succs bs[k].term) := by rw [Hid, hbk]
          clear hbk
          generalize bs[k] = x at *
          subst hA
          obtain ⟨A1, c1, f0, hc1, hc2, hin⟩ := hx.code
          have f1 := hx.t0; have f2 := hx.t1; have f3 := hx.t2; have f4 := hx.t3
          have HSC := Lib.hid (fun W => psucc_any x.term bs.length W htj)
          have HTJ := Lib.hid htj
          clear hx hin htj
          go_upto_region 10 with fail
          have HI := Row.new wr 34 #[.slice A1 x.code.length c1, .int .i64 x.term.kind, .int .i64 x.term.a, .int .i64 x.term.to, .int .i64 x.term.el]
          have hba : Below wr.heap.size wr (wr.alloc (.cells #[.slice A1 x.code.length c1, .int .i64 x.term.kind, .int .i64 x.term.a, .int .i64 x.term.to, .int .i64 x.term.el] 34)) := (Below.refl _ _).alloc (Nat.le_refl _) _
          have HG5 := Lib.hid (HG.out.next hba)
          clear HG f0 f1 f2 f3 f4 hba
          generalize (wr.alloc (.cells #[.slice A1 x.code.length c1, .int .i64 x.term.kind, .int .i64 x.term.a, .int .i64 x.term.to, .int .i64 x.term.el] 34)) = W5 at *
          obtain ⟨xb, hxb⟩ : ∃ z, wr.heap.size = z := ⟨_, rfl⟩
          rw [hxb] at HI ⊢
          clear hxb
          have f0 := HI.k0; have f1 := HI.k1; have f2 := HI.k2; have f3 := HI.k3; have f4 := HI.k4
          have HSC5 := Lib.hid (HSC.out W5)
          clear HSC
          go_upto_region 11 with (go_at_call 39; refine (HSC5.out).mono ?_; rintro e w6 ⟨As, cs, rfl, hcs1, hcs2, hsee, hbd, hnew⟩; have HSE := Lib.hid hsee; have HBD := Lib.hid hbd; have HNW := Lib.hid hnew; clear hsee hbd hnew)
          have hsl : (succs x.term).length ≤ 2 := succs_len23 _
          have HSB : Hid (SB23 As g (succs x.term) vs w6) := by
            refine ⟨HSE.out, fun hne b hb' => ?_⟩
            have h1 := HNW.out b hb'
            obtain ⟨_, hr, _⟩ := HG5.out.row
            refine ⟨by have := hr.lt; omega, fun i y hy hq => ?_⟩
            have := (ownS_lt (HG5.out.sb i y hy) _ hq).2
            omega
          have HG6 := Lib.hid (HG5.out.next HBD.out)
          clear HSE HNW HBD HG5 HSC5 f0 f1 f2 f3 f4 HI
          generalize succs x.term = l at *
          have hll : l.length ≤ 9223372036854775807 := by omega
          go_upto_region 11 with fail
          go_loopg [45] l.length (fun q s45 wx => ∃ (m : Nat) (B : Nat → List Int) (vs : List NdV), m + q = l.length ∧ s45 = .int .i64 (m : Int) ∧ Hid (GV23 W0 (.slice (some ⟨g, 0, none⟩) bs.length c) bs.length N U D B (fun _ _ => false) vs wx) ∧ Hid (BI bs k m B) ∧ Hid (SB23 As g l vs wx))
          case atStart => exact ⟨0, B, vs, by omega, rfl, HG6.out, HBI.out, HSB.out⟩
          case round =>
            clear HG6 HBI HSB
            obtain ⟨m, B, vs, hm', rfl, HG, HBI, HSB⟩ := hrel
            cases gk with
            | zero =>
              obtain rfl : m = l.length := by omega
              go_wp2_with fail
              go_roundg g1
              case measure => omega
              case rel => exact ⟨k + 1, B, vs, by omega, by go_num, HG.out, HBI.out.turn (by rw [HSS.out]; exact Nat.le_refl _) hsl⟩
            | succ g2 =>
              have hml : m < l.length := by omega
              obtain ⟨p, o2, rfl, _, hcell⟩ := ints_at HSB.out.1 hml
              have HLM : Hid (l[m]? = some l[m]) := List.getElem?_eq_getElem hml
              obtain ⟨hs1, hs2⟩ := HTJ.out l[m] (List.getElem_mem hml)
              generalize l[m] = s at *
              obtain ⟨sn, rfl⟩ := Int.eq_ofNat_of_zero_le hs1
              have hsn : sn < bs.length := by omega
              have hvl : sn < vs.length := by rw [HG.out.len]; exact hsn
              have hvx : vs[sn]? = some vs[sn] := List.getElem?_eq_getElem hvl
              have c2 := (HG.out.cell hvx).2.2.1
              have hown := HG.out.sb sn _ hvx
              have HVX := Lib.hid hvx
              have hbl := HBI.out.len sn
              generalize vs[sn] = y at *
              obtain ⟨yu, yd, yb, yl⟩ := y
              dsimp only at c2 hown
              obtain ⟨Ab, cb, rfl, hb1, hb2⟩ := ownS_slice hown
              obtain ⟨lb, hlb⟩ : ∃ z, (B sn).length = z := ⟨_, rfl⟩
              rw [hlb] at c2 hown HVX hbl
              have HLB := Lib.hid hlb
              clear hs1 hs2 hvl hvx hlb hb1 hb2
              have hown2 := ((Mods.refl No wr).alloc (.cells #[.int .i64 (k : Int)] 3)).ownS hown fun _ _ h => h
              have hnew := sees_new wr #[.int .i64 (k : Int)] 3
              have hwr := HG.out.blw.size
              have hglt : g < wr.heap.size := by obtain ⟨_, hr, _⟩ := HG.out.row; exact hr.lt
              have hgne : ¬ (Value.slice Ab lb cb).ownBlock = some g := fun e => ownS_ne HG.out.own hown (by decide) g rfl e
              have hfz := own_frozen (k := sn * 4 + 2) HG.out.own (g := g) rfl
              go_wp2_with (at_builtin; refine wpList_append_any _ rfl (.tmp 55) (.tmp 57) 28 rfl _ 3 j0 (.int .i64 0) 1 8 Try.underlying28 hj0 hy0 hy1 hy2 rfl (by decide) _ _ _ rfl hown2 (wr.heap.size + 1) _ 1 1 _ rfl hnew rfl (int_one23 _) ?c1 ?c2 ?c3 ?_)
              case c1 => unfold maxLen; omega
              case c2 => omega
              case c3 => first | omega | (simp; omega)
              intro v5 W7 ho5 hg5 hb5
              obtain ⟨A5, c5, rfl, _, _⟩ := ownS_slice ho5
              have hM5 : Mods (fun q => (Value.slice Ab lb cb).ownBlock = some q) wr W7 := ((Mods.refl _ wr).alloc _).grown hg5 fun q hq => .inl hq
              have hbb : (Value.slice A5 (lb + 1) c5).ownBlock = (Value.slice Ab lb cb).ownBlock ∨ ∃ q, (Value.slice A5 (lb + 1) c5).ownBlock = some q ∧ wr.heap.size ≤ q := by
                rcases hb5 with h | h
                · exact .inl h
                · exact .inr ⟨_, h, by simp⟩
              have hl5 : (B sn ++ [(k : Int)]).length = lb + 1 := by rw [List.length_append, HLB.out]; rfl
              have ho6 : W7.ownsRow W0.heap.size 3 1 (.slice A5 (lb + 1) c5) (B sn ++ [(k : Int)]).length (ints (B sn ++ [(k : Int)])) := by
                rw [hl5, show ints (B sn ++ [(k : Int)]) = ints (B sn) ++ [.int .i64 (k : Int)] by simp [ints]]
                exact ho5
              have HG7 := Lib.hid (HG.out.putB (B' := fun i => if i = sn then B sn ++ [(k : Int)] else B i) HVX.out hM5 ho6 hbb (by simp) (fun i hi => by simp [hi]))
              have HSB7 := Lib.hid (HSB.out.put HVX.out hM5 hbb)
              have HBI7 : Hid (BI bs k (m + 1) fun i => if i = sn then B sn ++ [(k : Int)] else B i) := HBI.out.step hlt (s := (sn : Int)) (by rw [HSS.out]; exact HLM.out) (by omega) (by simp) (fun i hi => by rw [Int.toNat_natCast] at hi; simp [hi])
              have c3 := (hM5.cell (p := ⟨g, sn * 4 + 2, none⟩) hglt hgne).trans c2
              have hf3 := (hM5.frozen (p := ⟨g, sn * 4 + 2, none⟩) hglt hgne).trans hfz
              clear ho5 hg5 hb5 hbb hl5 ho6 hM5 hown hown2 hnew c2 hfz HG HSB HBI HVX HLB hcell
              go_wp2_with fail
              go_roundg g2
              case measure => omega
              case rel => exact ⟨m + 1, _, _, by omega, by go_num, HG7.out, HBI7.out, HSB7.out⟩
    | succ g1 =>
      have hlt : j < bs.length := by omega
      obtain ⟨b', o, hA, hb, hx⟩ := (hs0.below HG.out.blw).at_ hlt
      have hbk : blkAt bs j = bs[j] := blkAt_lt hlt
      have hokj := HOK.out bs[j] (List.getElem_mem hlt)
      have hcmj := HCM.out bs[j] (List.getElem_mem hlt)
      have HUj : Hid (U j = bUse bs[j]) := by rw [Hid, HUE.out]; show bUse (blkAt bs j) = _; rw [hbk]
      have HDj : Hid (D j = bDef bs[j]) := by rw [Hid, HDE.out]; show bDef (blkAt bs j) = _; rw [hbk]
      clear hbk
      generalize bs[j] = x at *
      subst hA
      obtain ⟨A1, c1, f0, hc1, hc2, hin⟩ := hx.code
      have f1 := hx.t0; have f2 := hx.t1; have f3 := hx.t2; have f4 := hx.t3
      have HSC := Lib.hid (fun W (h : InsAt W W.heap.size A1 x.code) => scan_any A1 x c1 N W h hcmj hN hokj)
      have HIN := Lib.hid hin
      clear hx hin hokj hcmj
      go_upto_region 5 with fail
      have HI := Row.new wr 34 #[.slice A1 x.code.length c1, .int .i64 x.term.kind, .int .i64 x.term.a, .int .i64 x.term.to, .int .i64 x.term.el]
      have hba : Below wr.heap.size wr (wr.alloc (.cells #[.slice A1 x.code.length c1, .int .i64 x.term.kind, .int .i64 x.term.a, .int .i64 x.term.to, .int .i64 x.term.el] 34)) := (Below.refl _ _).alloc (Nat.le_refl _) _
      have HG5 := Lib.hid (HG.out.next hba)
      have hbw := HG.out.blw.size
      have HSC5 := Lib.hid (HSC.out _ ((HIN.out.below (hba.mono hbw)).more (by have := hba.size; omega)))
      clear HG f0 f1 f2 f3 f4 hba HIN HSC
      generalize (wr.alloc (.cells #[.slice A1 x.code.length c1, .int .i64 x.term.kind, .int .i64 x.term.a, .int .i64 x.term.to, .int .i64 x.term.el] 34)) = W5 at *
      obtain ⟨xb, hxb⟩ : ∃ z, wr.heap.size = z := ⟨_, rfl⟩
      rw [hxb] at HI ⊢
      clear hxb hbw
      have f0 := HI.k0; have f1 := HI.k1; have f2 := HI.k2; have f3 := HI.k3; have f4 := HI.k4
      have hjb : j ≤ 100000 := by omega
      go_wp2_with (first
        | (go_at_call 35; refine (HSC5.out).mono ?_; rintro e w6 ⟨u, d, rfl, hp⟩; have HP := Lib.hid hp; have hown2 := ((Mods.refl No w6).alloc (.cells #[.map u, .map d, .slice none 0 0, .map none] 63)).ownS (HG5.out.next hp.blw).own (fun _ _ h => h); have hnew := sees_new w6 #[.map u, .map d, .slice none 0 0, .map none] 63; have hw6 := (HG5.out.next hp.blw).blw.size; clear hp)
        | (at_builtin; refine wpList_append_any _ rfl (.tmp 25) (.tmp 28) 67 rfl _ 63 i0 (.agg #[.map none, .map none, .slice none 0 0, .map none]) 4 48 Try.underlying67 hi0 hz0 hz1 hz2 rfl (by decide) _ _ _ rfl hown2 (w6.heap.size + 1) _ 1 1 _ rfl hnew rfl (nd_one _ _ _ _ rfl) ?c1 ?c2 ?c3 ?_))
      case c1 => unfold maxLen; omega
      case c2 => omega
      case c3 => first | omega | (simp; omega)
      intro v7 W7 ho7 hg7 hb7
      obtain ⟨A7, c7, rfl, _, _⟩ := ownS_slice ho7
      have HG7 := Lib.hid (HG5.out.snoc HP.out HUj.out HDj.out rfl rfl ho7 hg7)
      clear ho7 hg7 hb7 hown2 hnew HP HG5
      go_wp2_with fail
      go_roundg g1
      case measure => omega
      case rel => exact ⟨j + 1, A7, c7, _, by omega, rfl, by go_num, HG7.out⟩

end Go.Proofs.Ytncigbpeempnfaa
