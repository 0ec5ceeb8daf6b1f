/-
  The reference's live: the marks of rounds.
-/
import Derived.Test.YtncigbpeempnfaaLvRefB
import Derived.Deep.LoopGhost
import Derived.Deep.OwnRows
import Derived.Deep.CutRange
namespace Go.Proofs.Ytncigbpeempnfaa
open Go.RowKit
set_option linter.unusedVariables false

theorem mk_self {m : List Bool} {i : Nat} (hi : i < m.length) : m.set i (m.getD i false) = m := by
  rw [List.getD_eq_getElem?_getD, List.getElem?_eq_getElem hi]; exact List.set_getElem_self hi

/-- A block's mark after k of its successors. -/
def mkC (bs : List Blk) (v : Int) (m : List Bool) (i k : Nat) : Bool := m.getD i false || bUse (blkAt bs i) v || ((succs (blkAt bs i).term).take k).any (fun s => m.getD s.toNat false) && !bDef (blkAt bs i) v

theorem mkC_end (bs : List Blk) (v : Int) (m : List Bool) (i k : Nat) (h : (succs (blkAt bs i).term).length ≤ k) : mkC bs v m i k = mk1 bs v m i := by rw [mkC, List.take_of_length_le h, mk1]

theorem mkC_step {bs : List Blk} {v : Int} {m : List Bool} {i k : Nat} (hi : i < m.length) {s : Int} (hk : (succs (blkAt bs i).term)[k]? = some s) :
    mkC bs v m i (k + 1) = (mkC bs v m i k || (m.set i (mkC bs v m i k)).getD s.toNat false && !bDef (blkAt bs i) v) := by
  have hl : k < (succs (blkAt bs i).term).length := (List.getElem?_eq_some_iff.1 hk).1
  have he : (succs (blkAt bs i).term)[k] = s := (List.getElem?_eq_some_iff.1 hk).2
  have h1 : mkC bs v m i (k + 1) = (mkC bs v m i k || m.getD s.toNat false && !bDef (blkAt bs i) v) := by
    unfold mkC
    rw [List.take_succ_eq_append_getElem hl, List.any_append, he]
    simp only [List.any_cons, List.any_nil, Bool.or_false]
    cases m.getD i false <;> cases bUse (blkAt bs i) v <;> cases ((succs (blkAt bs i).term).take k).any (fun s => m.getD s.toNat false) <;> cases bDef (blkAt bs i) v <;> simp
  rw [h1]
  by_cases e : s.toNat = i
  · have h2 : (m.set i (mkC bs v m i k)).getD s.toNat false = mkC bs v m i k := by
      rw [e, List.getD_eq_getElem?_getD, List.getElem?_set_self hi]; rfl
    rw [h2]
    have h3 : m.getD s.toNat false = true → mkC bs v m i k = true := fun h => by
      rw [e] at h
      unfold mkC
      rw [h]; rfl
    cases hc : mkC bs v m i k
    · cases hm : m.getD s.toNat false
      · simp
      · rw [h3 hm] at hc; cases hc
    · simp
  · have h2 : (m.set i (mkC bs v m i k)).getD s.toNat false = m.getD s.toNat false := by
      rw [List.getD_eq_getElem?_getD, List.getElem?_set_ne (fun h => e h.symm), List.getD_eq_getElem?_getD]
    rw [h2]

def bools (m : List Bool) : Array Value := (m.map Value.bool).toArray

theorem bools_set (m : List Bool) (i : Nat) (b : Bool) : (bools m).setIfInBounds i (.bool b) = bools (m.set i b) := by
  simp [bools, List.map_set]

theorem bools_get (m : List Bool) {i : Nat} (h : i < m.length) : (bools m)[i]? = some (.bool (m.getD i false)) := by
  simp [bools, List.getD_eq_getElem?_getD, List.getElem?_eq_getElem h]

/-- The marks in block g; older blocks stay. -/
structure LM (W0 : World) (g : Nat) (m : List Bool) (W : World) : Prop where
  row : Row W g 4 (bools m)
  blw : Below g W0 W

section
variable {W0 W W' : World} {g i : Nat} {m : List Bool}

theorem LM.next (h : LM W0 g m W) (hb : Below W.heap.size W W') : LM W0 g m W' := ⟨h.row.below hb h.row.lt, h.blw.trans (hb.mono (Nat.le_of_lt h.row.lt))⟩

theorem LM.put (h : LM W0 g m W) (i : Nat) (b : Bool) : LM W0 g (m.set i b) (W.setCell ⟨g, i, none⟩ (.bool b)) :=
  ⟨by rw [← bools_set]; exact h.row.put i _, h.blw.setCell (Nat.le_refl _) _⟩

theorem LM.get (h : LM W0 g m W) (hi : i < m.length) : W.cell? ⟨g, i, none⟩ = some (.bool (m.getD i false)) := by rw [h.row.cell, bools_get m hi]

end

theorem infoBool : (Try.prog.info? 4).map (fun i => (i.zero, i.size, i.bytes)) = some (some (.bool false), 1, 1) := by kernel_rfl

theorem made_bools (n : Nat) : madeCells #[.bool false] n = bools (List.replicate n false) := by
  apply Array.ext
  · simp [madeCells, bools]
  · intro i h1 h2
    simp [madeCells, bools, Nat.mod_one]

/-- Integers that are seen do not lie among the marks. -/
theorem LM.sees {W0 W : World} {g : Nat} {m : List Bool} (h : LM W0 g m W) {B : Nat} {A : Option Addr} {l : List Int} (hs : Sees W B A (ints l)) (i : Nat) (b : Bool) : Sees (W.setCell ⟨g, i, none⟩ (.bool b)) B A (ints l) := fun hn => by
  obtain ⟨p, o, rfl, hp, hc⟩ := hs hn
  refine ⟨p, o, rfl, hp, fun j u hu => ?_⟩
  have hne : p ≠ g := by
    rintro rfl
    rcases l with _ | ⟨z, r⟩
    · exact hn rfl
    · have h0 := hc 0 (.int .i64 z) rfl
      rw [h.row.cell] at h0
      by_cases ho : o + 0 < m.length
      · rw [bools_get m ho] at h0; cases h0
      · rw [Array.getElem?_eq_none (by simp [bools]; omega)] at h0; cases h0
  rw [World.cell?_of_block (w := W) (Below.heap_setCell W ⟨g, i, none⟩ _ p hne)]
  exact hc j u hu

/-- Marks, a block in its box, its successors. -/
structure IV (W0 : World) (g : Nat) (m : List Bool) (xb : Nat) (A1 : Option Addr) (x : Blk) (c1 : Nat) (As : Option Addr) (l : List Int) (W : World) : Prop where
  lm : LM W0 g m W
  box : Row W xb 34 #[.slice A1 x.code.length c1, .int .i64 x.term.kind, .int .i64 x.term.a, .int .i64 x.term.to, .int .i64 x.term.el]
  gx : g < xb
  ins : InsAt W g A1 x.code
  see : Sees W W.heap.size As (ints l)

section
variable {W0 W W' : World} {g : Nat} {m : List Bool} {xb : Nat} {A1 : Option Addr} {x : Blk} {c1 : Nat} {As : Option Addr} {l : List Int}

theorem IV.next (h : IV W0 g m xb A1 x c1 As l W) (hb : Below W.heap.size W W') : IV W0 g m xb A1 x c1 As l W' :=
  ⟨h.lm.next hb, h.box.below hb h.box.lt, h.gx, h.ins.below (hb.mono (Nat.le_of_lt h.lm.row.lt)), (h.see.below hb).more hb.size⟩

theorem IV.put (h : IV W0 g m xb A1 x c1 As l W) (i : Nat) (b : Bool) : IV W0 g (m.set i b) xb A1 x c1 As l (W.setCell ⟨g, i, none⟩ (.bool b)) :=
  ⟨h.lm.put i b, h.box.far (by have := h.gx; show xb ≠ g; omega) _, h.gx, h.ins.below ((Below.refl g W).setCell (Nat.le_refl _) _), by
    have := h.lm.sees h.see i b
    rwa [show (W.setCell ⟨g, i, none⟩ (.bool b)).heap.size = W.heap.size by simp [World.setCell]]⟩

end

set_option maxRecDepth 100000 in
set_option maxHeartbeats 8000000 in
theorem rlive23_any (args regs : Int) (FA : Option Addr) (bs : List Blk) (bc : Nat) (v : Int) (w : World) (hs : BlksAt w w.heap.size FA bs) (hm : bs.length ≤ 100000) (hcm : ∀ b ∈ bs, b.code.length ≤ 100000000) (ht : ∀ b ∈ bs, ∀ s ∈ succs b.term, 0 ≤ s ∧ s < bs.length) :
    Calls Try.prog 38 #[.agg #[.int .i64 args, .int .i64 regs, .slice FA bs.length bc], .int .i64 v] w fun e w' => ∃ g, w.heap.size ≤ g ∧ e = .returned (.slice (some ⟨g, 0, none⟩) bs.length bs.length) ∧ Row w' g 4 (bools (mkN bs v (bs.length + 1))) ∧ Below w.heap.size w w' := by
  have hmk := fun w => run_make_row' (P := Try.prog) 69 4 (.bool false) 1 Try.underlying69 infoBool rfl .i64 .i64 bs.length (by omega) (by omega) w
  have HM0 := Lib.hid (made_bools bs.length)
  have HX := Row.new w 24 #[.int .i64 args, .int .i64 regs, .slice FA bs.length bc]
  have hb0 : Below w.heap.size w (w.alloc (.cells #[.int .i64 args, .int .i64 regs, .slice FA bs.length bc] 24)) := (Below.refl _ _).alloc (Nat.le_refl _) _
  have hs0 := (hs.below hb0).more hb0.size
  have HB0 := Lib.hid hb0
  have HCM := Lib.hid hcm
  have HTS := Lib.hid ht
  clear hs hb0 hcm ht
  go_enter Try.func38, Try.ntmps38
  go_upto_region 1 with fail
  generalize (w.alloc (.cells #[.int .i64 args, .int .i64 regs, .slice FA bs.length bc] 24)) = W0 at *
  obtain ⟨b1, hb1⟩ : ∃ z, w.heap.size = z := ⟨_, rfl⟩
  have h1w : b1 < W0.heap.size := by have := HX.lt; omega
  rw [hb1] at HX
  rw [hb1]
  have HB1 := Lib.hid hb1
  clear hb1
  have y1 := HX.k1; have y2 := HX.k2
  go_upto_region 2 with fail
  have HLM : Hid (LM W0 W0.heap.size (mkN bs v 0) (W0.alloc (.cells (madeCells #[.bool false] bs.length) 4))) := by
    refine ⟨?_, (Below.refl _ _).alloc (Nat.le_refl _) _⟩
    rw [HM0.out]
    exact Row.new W0 _ _
  clear hmk HM0 y1 y2
  generalize (W0.alloc (.cells (madeCells #[.bool false] bs.length) 4)) = W1 at *
  obtain ⟨g, hg⟩ : ∃ z, W0.heap.size = z := ⟨_, rfl⟩
  rw [hg] at HLM h1w hs0
  rw [hg]
  have HG := Lib.hid hg
  clear hg
  have hgm : w.heap.size ≤ g := by have := HB1.out; omega
  go_upto_region 3 with fail
  go_loopg [6] (bs.length + 1) (fun q i wr => ∃ r : Nat, r + q = bs.length + 1 ∧ i = .int .i64 r ∧ Hid (LM W0 g (mkN bs v r) wr))
  case atStart => exact ⟨0, by omega, rfl, HLM.out⟩
  case round =>
    clear HLM
    obtain ⟨r, hr, rfl, HL⟩ := hrel
    have hX := HX.below HL.out.blw h1w
    have y2 := hX.k2
    cases gk with
    | zero =>
      obtain rfl : r = bs.length + 1 := by omega
      clear hX
      go_wp2
      go_ret
      exact ⟨g, hgm, rfl, HL.out.row, HB0.out.trans (HL.out.blw.mono hgm)⟩
    | succ g1 =>
      have hlen0 : (mkN bs v r).length = bs.length := mkN_len bs v r
      have HLN := Lib.hid hlen0
      have HNX : Hid (mkN bs v (r + 1) = mkR bs v (mkN bs v r) bs.length) := rfl
      generalize mkN bs v r = m0 at *
      clear hX hlen0
      go_upto_region 6 with fail
      rw [show decide (r ≤ bs.length) = true from decide_eq_true (by omega)]
      go_loopg [7] bs.length (fun q i wx => ∃ j : Nat, j + q = bs.length ∧ i = .int .i64 j ∧ Hid (LM W0 g (mkR bs v m0 j) wx))
      case atStart => exact ⟨0, by omega, rfl, HL.out⟩
      case round =>
        obtain ⟨j, hj, rfl, HP⟩ := hrel
        clear y2 HL
        have hX := HX.below HP.out.blw h1w
        have y2 := hX.k2
        cases gk with
        | zero =>
          obtain rfl : j = bs.length := by omega
          clear hX
          go_wp2
          go_roundg g1
          case measure => omega
          case rel => exact ⟨r + 1, by omega, by go_num, by rw [HNX.out]; exact HP.out⟩
        | succ g2 =>
          have hlt : j < bs.length := by omega
          obtain ⟨b', o, hA, hb, hx⟩ := (hs0.below HP.out.blw).at_ hlt
          have hbk : blkAt bs j = bs[j] := blkAt_lt hlt
          have hcm := HCM.out bs[j] (List.getElem_mem hlt)
          have hts := HTS.out bs[j] (List.getElem_mem hlt)
          have HNJ : Hid (mkR bs v m0 (j + 1) = mkS bs v (mkR bs v m0 j) j) := rfl
          have hlm : (mkR bs v m0 j).length = bs.length := by rw [mkR_len]; exact HLN.out
          generalize mkR bs v m0 j = m at *
          have HC0 : Hid (∀ k, mkC bs v m j k = (m.getD j false || bUse bs[j] v || ((succs bs[j].term).take k).any (fun s => m.getD s.toNat false) && !bDef bs[j] v)) := fun k => by rw [mkC, hbk]
          have HCE : Hid (∀ k, (succs bs[j].term).length ≤ k → m.set j (mkC bs v m j k) = mkR bs v m0 (j + 1)) := fun k hk => by rw [HNJ.out, mkS, mkC_end bs v m j k (by rw [hbk]; exact hk)]
          have HCS : Hid (∀ k s, (succs bs[j].term)[k]? = some s → mkC bs v m j (k + 1) = (mkC bs v m j k || (m.set j (mkC bs v m j k)).getD s.toNat false && !bDef bs[j] v)) := fun k s hk => by
            have := mkC_step (bs := bs) (v := v) (m := m) (i := j) (k := k) (by omega) (s := s) (by rw [hbk]; exact hk)
            rw [hbk] at this
            exact this
          clear hbk HNJ
          generalize mkC bs v m j = C at *
          generalize bs[j] = x at *
          obtain ⟨A1, c1, f0, _, _, hin⟩ := hx.code
          have f1 := hx.t0; have f2 := hx.t1; have f3 := hx.t2; have f4 := hx.t3
          clear hx hX
          have rused := fun W h => rused23_any A1 x c1 v W h hcm
          have rdef := fun W h => rdef23_any A1 x c1 v x.code.length W h (Nat.le_refl _) hcm
          have rsucc := fun W => rsucc_any x.term W
          have HBD : Hid (lvD x.code v x.code.length = bDef x v) := rfl
          have HSC : Hid (succs x.term = succs x.term) := rfl
          subst hA
          go_upto_region 9 with fail
          have hM := HP.out.row.lt
          have HB := Row.new wr 34 #[.slice A1 x.code.length c1, .int .i64 x.term.kind, .int .i64 x.term.a, .int .i64 x.term.to, .int .i64 x.term.el]
          have hba : Below wr.heap.size wr (wr.alloc (.cells #[.slice A1 x.code.length c1, .int .i64 x.term.kind, .int .i64 x.term.a, .int .i64 x.term.to, .int .i64 x.term.el] 34)) := (Below.refl _ _).alloc (Nat.le_refl _) _
          have hin2 := (hin.below (hba.mono (Nat.le_of_lt hM)))
          have HP2 := Lib.hid (HP.out.next hba)
          clear HP hin hba f0 f1 f2 f3 f4 y2
          generalize (wr.alloc (.cells #[.slice A1 x.code.length c1, .int .i64 x.term.kind, .int .i64 x.term.a, .int .i64 x.term.to, .int .i64 x.term.el] 34)) = W2 at *
          obtain ⟨xb, hxb⟩ : ∃ z, wr.heap.size = z := ⟨_, rfl⟩
          rw [hxb] at HB hM ⊢
          clear hxb
          have f0 := HB.k0; have f1 := HB.k1; have f2 := HB.k2; have f3 := HB.k3; have f4 := HB.k4
          have hru := rused W2 (hin2.more (by have := HP2.out.row.lt; omega))
          have HI0 : Hid (IV W0 g m xb A1 x c1 none [] W2) := ⟨HP2.out, HB, hM, hin2, fun h => absurd rfl h⟩
          clear HP2 hin2 HB rused
          have hfz := HI0.out.lm.row.frozen j
          have hC0 := HC0.out 0
          simp only [List.take_zero, List.any_nil, Bool.false_and, Bool.or_false] at hC0
          have HC1 := Lib.hid hC0
          clear hC0 HC0
          obtain ⟨bu, hbu⟩ : ∃ z, bUse x v = z := ⟨_, rfl⟩
          rw [hbu] at hru
          have HRU := Lib.hid hru
          have HBU := Lib.hid hbu
          clear hru hbu
          go_upto_if 36 with (go_at_call 11; refine (HRU.out).mono ?_; rintro e w2 ⟨rfl, hbd⟩; have HI0 := Lib.hid (HI0.out.next hbd); clear hbd)
          have hfw := HI0.out.lm.row.frozen j
          have hcg := HI0.out.lm.get (i := j) (by omega)
          go_cut [] from 22 to 67 (fun wx => Hid (IV W0 g (m.set j (C 0)) xb A1 x c1 none [] wx))
          case first =>
            cases bu
            · have HS : Hid (m.set j (C 0) = m) := by rw [Hid, HC1.out, HBU.out, Bool.or_false]; exact mk_self (by omega)
              go_wp2_with fail
              go_meet
              case rel => rw [HS.out]; exact HI0.out
            · have HS : Hid (m.set j (C 0) = m.set j true) := by rw [Hid, HC1.out, HBU.out, Bool.or_true]
              go_wp2_with fail
              go_meet
              case rel => rw [HS.out]; exact HI0.out.put j true
          case rest =>
            have HI1 := hcut
            clear hcut f0 f1 f2 f3 f4 HI0 HC1 hfz hfw hcg HRU HBU
            have f0 := HI1.out.box.k0; have f1 := HI1.out.box.k1; have f2 := HI1.out.box.k2; have f3 := HI1.out.box.k3; have f4 := HI1.out.box.k4
            have hrs := Lib.hid (rsucc wc)
            clear rsucc HSC
            go_upto_region 12 with (first | (go_at_call 21; refine (hrs.out).mono ?_; rintro e w3 ⟨As, cs, rfl, hcs1, hcs2, hsee, hbd⟩; have HI2 := Lib.hid (show IV W0 g (m.set j (C 0)) xb A1 x c1 As (succs x.term) w3 from ⟨(HI1.out.next hbd).lm, (HI1.out.next hbd).box, (HI1.out.next hbd).gx, (HI1.out.next hbd).ins, hsee⟩); clear hbd hsee HI1))
            clear hrs f0 f1 f2 f3 f4
            have HBT : Hid (∀ s ∈ succs x.term, 0 ≤ s ∧ s < bs.length) := hts
            clear hts
            generalize succs x.term = l at *
            have hll : l.length ≤ maxLen := by omega
            unfold maxLen at hll
            go_upto_region 13 with fail
            go_loopg [10] l.length (fun q i wr => ∃ k : Nat, k + q = l.length ∧ i = .int .i64 k ∧ Hid (IV W0 g (m.set j (C k)) xb A1 x c1 As l wr))
            case atStart => exact ⟨0, by omega, rfl, HI2.out⟩
            case round =>
              obtain ⟨k, hk, rfl, HV⟩ := hrel
              clear HI2
              cases gk with
              | zero =>
                go_wp2_with fail
                go_roundg g2
                case measure => omega
                case rel => exact ⟨j + 1, by omega, by go_num, by rw [← HCE.out k (by omega)]; exact HV.out.lm⟩
              | succ g3 =>
                have hkl : k < l.length := by omega
                obtain ⟨bq, oq, hA, _, hcell⟩ := ints_at HV.out.see hkl
                have hsk := HCS.out k l[k] (List.getElem?_eq_getElem hkl)
                have hts := HBT.out l[k] (List.getElem_mem hkl)
                generalize l[k] = s at *
                obtain ⟨sn, rfl⟩ := Int.eq_ofNat_of_zero_le hts.1
                have hsn : sn < bs.length := by omega
                clear hts
                rw [Int.toNat_natCast] at hsk
                have hgc := HV.out.lm.get (i := sn) (by rw [List.length_set]; omega)
                have hgj := HV.out.lm.get (i := j) (by rw [List.length_set]; omega)
                have hfj := HV.out.lm.row.frozen j
                subst hA
                generalize (m.set j (C k)).getD sn false = mb at *
                cases mb
                · have HS : Hid (C (k + 1) = C k) := by rw [Hid, hsk]; simp
                  clear hsk
                  go_wp2_with fail
                  go_roundg g3
                  case measure => omega
                  case rel => exact ⟨k + 1, by omega, by go_num, by rw [HS.out]; exact HV.out⟩
                · have f0 := HV.out.box.k0; have f1 := HV.out.box.k1; have f2 := HV.out.box.k2; have f3 := HV.out.box.k3; have f4 := HV.out.box.k4
                  have hrd := rdef wr (HV.out.ins.more (by have := HV.out.lm.row.lt; omega))
                  rw [HBD.out] at hrd
                  have HRD := Lib.hid hrd
                  clear hrd
                  cases hbd : bDef x v
                  · have HS : Hid (m.set j (C (k + 1)) = (m.set j (C k)).set j true) := by rw [Hid, hsk, hbd, List.set_set]; simp
                    rw [hbd] at HRD
                    clear hsk hbd
                    go_wp2_with (go_at_call 12; refine (HRD.out).mono ?_; rintro e w4 ⟨rfl, hbw⟩; have HV4 := Lib.hid (HV.out.next hbw); have hgj4 := HV4.out.lm.get (i := j) (by rw [List.length_set]; omega); have hfj4 := HV4.out.lm.row.frozen j; clear hbw)
                    go_roundg g3
                    case measure => omega
                    case rel => exact ⟨k + 1, by omega, by go_num, by rw [HS.out]; exact HV4.out.put j true⟩
                  · have HS : Hid (C (k + 1) = C k) := by rw [Hid, hsk, hbd]; simp
                    rw [hbd] at HRD
                    clear hsk hbd
                    go_wp2_with (go_at_call 12; refine (HRD.out).mono ?_; rintro e w4 ⟨rfl, hbw⟩; have HV4 := Lib.hid (HV.out.next hbw); clear hbw)
                    go_roundg g3
                    case measure => omega
                    case rel => exact ⟨k + 1, by omega, by go_num, by rw [HS.out]; exact HV4.out⟩

end Go.Proofs.Ytncigbpeempnfaa
