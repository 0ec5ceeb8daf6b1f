/-
  The reference of layer 18: PutFunc.
-/
import Derived.Test.YtkapmfopfddmbaaGreatPk8
import Derived.Deep.LoopGhost
import Derived.Deep.Cut
import Derived.Deep.CutRange
import Derived.Deep.RegionHeld3
import Derived.BigRegion
namespace Go.Proofs.YtkapmfopfddmbaaGreat
open Go.RowKit
set_option linter.unusedVariables false
set_option linter.unusedSimpArgs false

/-- What PutFunc carries: the function in its box, the bytes so far. -/
structure FES (w : World) (a r : Int) (A : Option Addr) (n c : Nat) (v : Value) (l : List Nat) (W : World) : Prop where
  box : Row W w.heap.size 24 #[.int .i64 a, .int .i64 r, .slice A n c]
  bl : BL (w.alloc (.cells #[.int .i64 a, .int .i64 r, .slice A n c] 24)) v l W

section
variable {w W W' : World} {a r : Int} {A : Option Addr} {n c : Nat} {v v' : Value} {l l' : List Nat}

theorem FES.app (h : FES w a r A n c v l W) (hb : BL (w.alloc (.cells #[.int .i64 a, .int .i64 r, .slice A n c] 24)) v' l' W') : FES w a r A n c v' l' W' :=
  ⟨(Row.new w _ _).below hb.blw (by simp), hb⟩

theorem FES.below (h : FES w a r A n c v l W) (hb : Below W.heap.size W W') : FES w a r A n c v l W' := h.app (h.bl.next hb)

theorem FES.drewN (h : FES w a r A n c v l W) (k : Nat) : FES w a r A n c v l (W.drewN k) := h.below (let b := Below.refl W.heap.size W; ⟨b.os, b.tape, b.output, b.size, b.block⟩)

theorem FES.drew (h : FES w a r A n c v l W) : FES w a r A n c v l W.drew := h.below (let b := Below.refl W.heap.size W; ⟨b.os, b.tape, b.output, b.size, b.block⟩)

theorem FES.cells (h : FES w a r A n c v l W) : W.cell? ⟨w.heap.size, 0, none⟩ = some (.int .i64 a) ∧ W.cell? ⟨w.heap.size, 1, none⟩ = some (.int .i64 r) ∧ W.cell? ⟨w.heap.size, 2, none⟩ = some (.slice A n c) := by
  have d0 := h.box.cell 0; have d1 := h.box.cell 1; have d2 := h.box.cell 2
  simp only [List.getElem?_toArray, List.getElem?_cons_zero, List.getElem?_cons_succ] at d0 d1 d2
  exact ⟨d0, d1, d2⟩

theorem FES.lo (h : FES w a r A n c v l W) : w.heap.size < W.heap.size := h.box.lt

end

set_option maxRecDepth 100000 in
set_option maxHeartbeats 16000000 in
theorem rputf18_any (B : Nat) (A : Option Addr) (bs : List Blk) (c : Nat) (a r : Int) (w : World) (hs : BlksAt w B A bs) (hB : B ≤ w.heap.size) (ha : 0 ≤ a ∧ a ≤ 9223372036854775807) (hr : 0 ≤ r ∧ r ≤ 9223372036854775807)
    (hm : bs.length ≤ 1000000000) (hp : ∀ x ∈ bs, PB x) (hl : (encF' ⟨a, r, bs⟩).length ≤ 1000000000000) :
    Calls Tryz.prog 14 #[.agg #[.int .i64 a, .int .i64 r, .slice A bs.length c]] w (RB w (encF' ⟨a, r, bs⟩)) := by
  obtain ⟨i0, hi, hz0, hz1, hz2⟩ := info_parts Tryz.infoU8c
  have HB0 := Lib.hid ((Below.refl w.heap.size w).alloc (Nat.le_refl _) (.cells #[.int .i64 a, .int .i64 r, .slice A bs.length c] 24))
  have HF0 : Hid (FES w a r A bs.length c (.slice none 0 0) [] (w.alloc (.cells #[.int .i64 a, .int .i64 r, .slice A bs.length c] 24))) := ⟨Row.new w _ _, bl_nil _⟩
  have hs0 := (hs.more hB).alloc (Nat.le_refl _) (.cells #[.int .i64 a, .int .i64 r, .slice A bs.length c] 24)
  obtain ⟨L3, hL3⟩ : ∃ z, z = putS a.toNat ++ putS r.toNat ++ putS bs.length := ⟨_, rfl⟩
  have HEq : Hid (encF' ⟨a, r, bs⟩ = L3 ++ encBs bs) := by show _ = _; rw [hL3]; unfold encF'; simp only [List.append_assoc]
  have HLn : Hid (L3.length + (encBs bs).length ≤ 1000000000000) := by show _ ≤ _; rw [HEq.out, List.length_append] at hl; exact hl
  obtain ⟨EF, hEF⟩ : ∃ z, z = encF' ⟨a, r, bs⟩ := ⟨_, rfl⟩
  rw [← hEF] at HEq ⊢
  have HP := Lib.hid hp
  have HL3 := Lib.hid hL3
  clear hEF hl hp hL3 hs
  go_enter Tryz.func14, Tryz.ntmps14
  go_upto_region 1 with fail
  have HS0 : Hid (∀ W v l, FES w a r A bs.length c v l W → BlksAt W w.heap.size A bs) := fun W v l h => hs0.below (h.bl.blw.mono (by simp))
  clear hs0
  generalize (w.alloc (.cells #[.int .i64 a, .int .i64 r, .slice A bs.length c] 24)) = W0 at HF0
  go_cut [3] from 2 (fun s3 wx => Hid (FES w a r A bs.length c s3 L3 wx))
  case first =>
    have K1 : Hid (∀ W, FES w a r A bs.length c (.slice none 0 0) [] W → Calls Tryz.prog 35 #[.slice none 0 0, .int .i64 a] W fun e W' => ∃ v', e = .returned v' ∧ FES w a r A bs.length c v' (putS a.toNat) W') := fun W h => (rput18_any h.bl a ha.1 ha.2 (by simp)).mono (by
      rintro e W' ⟨v', rfl, h1, _⟩
      exact ⟨v', rfl, h.app h1⟩)
    have K2 : Hid (∀ v W, FES w a r A bs.length c v (putS a.toNat) W → Calls Tryz.prog 35 #[v, .int .i64 r] W fun e W' => ∃ v', e = .returned v' ∧ FES w a r A bs.length c v' (putS a.toNat ++ putS r.toNat) W') := fun v W h => (rput18_any h.bl r hr.1 hr.2 (by have := putS_le a.toNat; omega)).mono (by
      rintro e W' ⟨v', rfl, h1, _⟩
      exact ⟨v', rfl, h.app h1⟩)
    have K3 : Hid (∀ v W, FES w a r A bs.length c v (putS a.toNat ++ putS r.toNat) W → Calls Tryz.prog 35 #[v, .int .i64 bs.length] W fun e W' => ∃ v', e = .returned v' ∧ FES w a r A bs.length c v' L3 W') := fun v W h => (rput18_any h.bl bs.length (by omega) (by omega) (by have := putS_le a.toNat; have := putS_le r.toNat; rw [List.length_append]; omega)).mono (by
      rintro e W' ⟨v', rfl, h1, _⟩
      rw [Int.toNat_natCast, ← HL3.out] at h1
      exact ⟨v', rfl, h.app h1⟩)
    have hG := HF0.out
    obtain ⟨d0, d1, d2⟩ := hG.cells
    clear HF0 HP HLn HEq HL3 HS0 HB0
    go_wp2_with fail
    go_region_held3 (fun w' => w'.cell? ⟨w.heap.size, 0, none⟩ = some (.int .i64 a) ∧ w'.cell? ⟨w.heap.size, 1, none⟩ = some (.int .i64 r) ∧ w'.cell? ⟨w.heap.size, 2, none⟩ = some (.slice A bs.length c)) (first | exact hG.cells | exact hG.drew.cells | exact (hG.drewN _).cells) (first | (go_at_call 35; go_must (first
      | ((with_reducible refine (K1.out _ (by first | exact hG | exact hG.drew | exact hG.drewN _)).mono ?_); rintro e Wa ⟨v1, rfl, hG⟩)
      | ((with_reducible refine (K2.out _ _ (by first | exact hG | exact hG.drew | exact hG.drewN _)).mono ?_); rintro e Wa ⟨v2, rfl, hG⟩)
      | ((with_reducible refine (K3.out _ _ (by first | exact hG | exact hG.drew | exact hG.drewN _)).mono ?_); rintro e Wa ⟨v3, rfl, hG⟩))))
    go_wp2_with fail
    go_meet
    case rel => show FES _ _ _ _ _ _ _ _ _; first | exact hG | exact hG.drew | exact hG.drewN _
  case rest =>
    have HF1 := hcut
    clear HF0 hcut HL3
    generalize wc = W1 at *
    go_wp2_with fail
    go_loopg [3, 4] bs.length (fun g v3 v4 wr => ∃ k : Nat, k + g = bs.length ∧ v4 = .int .i64 k ∧ Hid (FES w a r A bs.length c v3 (L3 ++ encBs (bs.take k)) wr))
    case atStart => exact ⟨0, by omega, rfl, by show FES _ _ _ _ _ _ _ _ _; rw [List.take_zero]; show FES _ _ _ _ _ _ _ (L3 ++ []) _; rw [List.append_nil]; exact HF1.out⟩
    case round =>
      clear HF1
      obtain ⟨k, hkg, rfl, HF⟩ := hrel
      cases gk with
      | zero =>
        obtain rfl : k = bs.length := by omega
        rw [List.take_length, ← HEq.out] at HF
        obtain ⟨d0, d1, d2⟩ := HF.out.cells
        go_wp2
        go_ret
        exact RB.of HF.out.bl HB0.out
      | succ g =>
        have hlt : k < bs.length := by omega
        obtain ⟨b, o, hA, hb, hat⟩ := (HS0.out _ _ _ HF.out).at_ hlt
        obtain ⟨A1, c1, e0, hl1, hl2, hin⟩ := hat.code
        have e1 := hat.t0; have e2 := hat.t1; have e3 := hat.t2; have e4 := hat.t3
        have HIN := Lib.hid hin
        have HSU : Hid (encBs (bs.take (k + 1)) = encBs (bs.take k) ++ encB bs[k]) := fm_take_succ encB bs k hlt
        have HLE : Hid ((encBs (bs.take k)).length + (encB bs[k]).length ≤ (encBs bs).length) := fm_take_le encB bs k hlt
        have HPx := Lib.hid (HP.out bs[k] (List.getElem_mem hlt))
        obtain ⟨d0, d1, d2⟩ := HF.out.cells
        clear hat hin
        generalize bs[k] = x at *
        obtain ⟨LB, hLB⟩ : ∃ z, z = L3 ++ encBs (bs.take k) := ⟨_, rfl⟩
        have HBX : Hid (LB.length + (putS x.code.length).length + (encC x.code).length + (encT x.term).length ≤ 1000000000000) := by
          show _ ≤ _
          have h1 := HLE.out; have h2 := HLn.out
          rw [hLB, List.length_append]
          simp only [encB, List.length_append] at h1
          omega
        have HNX : Hid (L3 ++ encBs (bs.take (k + 1)) = LB ++ putS x.code.length ++ encC x.code ++ encT x.term) := by
          show _ = _
          rw [HSU.out, hLB]
          simp only [encB, List.append_assoc]
        rw [← hLB] at HF
        clear hLB HSU HLE
        subst hA
        go_upto_region 6 with fail
        have hblk := (Below.refl wr.heap.size wr).alloc (Nat.le_refl _) (.cells #[.slice A1 x.code.length c1, .int .i64 x.term.kind, .int .i64 x.term.a, .int .i64 x.term.to, .int .i64 x.term.el] 43)
        have HF2 := Lib.hid (HF.out.below hblk)
        have HX2 := Lib.hid (Row.new wr 43 #[.slice A1 x.code.length c1, .int .i64 x.term.kind, .int .i64 x.term.a, .int .i64 x.term.to, .int .i64 x.term.el])
        have HCD : Hid (∀ W v l, FES w a r (some ⟨b, o, none⟩) bs.length c v l W → InsAt W w.heap.size A1 x.code) := fun W v l h => HIN.out.keep fun p hp => ((h.bl.blw.mono (by simp)).cell hp).trans ((HF.out.bl.blw.mono (by simp)).cell hp).symm
        obtain ⟨wo, hwo⟩ : ∃ z, z = wr := ⟨_, rfl⟩
        subst hwo
        clear hblk HIN e0 e1 e2 e3 e4 d0 d1 d2 HF
        generalize (wo.alloc (.cells #[.slice A1 x.code.length c1, .int .i64 x.term.kind, .int .i64 x.term.a, .int .i64 x.term.to, .int .i64 x.term.el] 43)) = W2 at *
        have C := Lib.hid (rput18_any HF2.out.bl x.code.length (by omega) (by unfold maxLen at hl2; omega) (by have := HBX.out; omega))
        rw [Int.toNat_natCast] at C
        have b0 := HX2.out.cell 0
        simp only [List.getElem?_toArray, List.getElem?_cons_zero, List.getElem?_cons_succ] at b0
        go_wp2_with fail
        refine C.out.mono ?_
        rintro e W3 ⟨v3, rfl, hbl, hkt⟩
        have HF3 := Lib.hid (HF2.out.app hbl)
        have HX3 := Lib.hid (hkt _ _ _ (by decide) HX2.out)
        clear C hbl hkt b0 HF2 HX2
        go_wp2_with fail
        go_loopg [3, 6] x.code.length (fun g2 v3 v6 wx => ∃ j : Nat, j + g2 = x.code.length ∧ v6 = .int .i64 j ∧ Hid (FES w a r (some ⟨b, o, none⟩) bs.length c v3 (LB ++ putS x.code.length ++ encC (x.code.take j)) wx) ∧ Hid (Row wx wo.heap.size 43 #[.slice A1 x.code.length c1, .int .i64 x.term.kind, .int .i64 x.term.a, .int .i64 x.term.to, .int .i64 x.term.el]))
        case atStart => exact ⟨0, by omega, rfl, by show FES _ _ _ _ _ _ _ _ _; rw [List.take_zero]; show FES _ _ _ _ _ _ _ (LB ++ putS x.code.length ++ []) _; rw [List.append_nil]; exact HF3.out, HX3.out⟩
        case round =>
          clear HF3 HX3
          obtain ⟨j, hjg, rfl, HF, HX⟩ := hrel
          have b0 := HX.out.cell 0; have b1 := HX.out.cell 1; have b2 := HX.out.cell 2; have b3 := HX.out.cell 3; have b4 := HX.out.cell 4
          simp only [List.getElem?_toArray, List.getElem?_cons_zero, List.getElem?_cons_succ] at b0 b1 b2 b3 b4
          cases gk with
          | zero =>
            obtain rfl : j = x.code.length := by omega
            rw [List.take_length] at HF
            obtain ⟨LC, hLC⟩ : ∃ z, z = LB ++ putS x.code.length ++ encC x.code := ⟨_, rfl⟩
            have HLC : Hid (LC.length + (encT x.term).length ≤ 1000000000000) := by
              show _ ≤ _
              rw [hLC, List.length_append, List.length_append]
              exact HBX.out
            rw [← hLC] at HF HNX
            have C := Lib.hid fun W => rputt17_any (w := W) HPx.out.2.1 HPx.out.2.2.1 HPx.out.2.2.2.1 HPx.out.2.2.2.2
            clear hLC HBX HCD HPx
            go_wp2_with fail
            refine (C.out _).mono ?_
            rintro e W4 ⟨A4, c4, rfl, ho, hb4⟩
            have HF4 := Lib.hid (HF.out.below hb4)
            have hsee := Sees.of_own ho
            have hlo : (w.alloc (.cells #[.int .i64 a, .int .i64 r, .slice (some ⟨b, o, none⟩) bs.length c] 24)).heap.size ≤ W4.heap.size := HF4.out.bl.blw.size
            have hown := HF4.out.bl.own
            clear ho hb4 C HF HX b0 b1 b2 b3 b4
            go_wp2_with (at_builtin; refine wpList_append_sees _ rfl (.tmp 49) (.tmp 52) 33 rfl (w.alloc (.cells #[.int .i64 a, .int .i64 r, .slice (some ⟨b, o, none⟩) bs.length c] 24)).heap.size 5 i0 (.int .u8 0) 1 Tryz.underlying33 hi hz0 hz1 hz2 rfl _ LC.length (bts LC) rfl hown W4.heap.size _ _ _ (bts (encT x.term)) rfl hsee (bts_length _) (bts_one _) ?c1 ?c2 ?c3 ?_)
            case c1 => have := HLC.out; unfold maxLen; omega
            case c2 => have := HLC.out; omega
            case c3 => exact hlo
            intro v5 W5 ho5 hg5
            have HF5 := Lib.hid (HF4.out.app (HF4.out.bl.app (v' := v5) (W' := W5) (r := encT x.term) rfl (by rw [World.size_alloc]; exact ho5) hg5))
            rw [← HNX.out] at HF5
            clear ho5 hg5 hown hsee hlo HF4
            go_wp2_with fail
            go_roundg g
            case measure => omega
            case rel => exact ⟨k + 1, by omega, by go_num, HF5.out⟩
          | succ g2 =>
            have hjt : j < x.code.length := by omega
            have hj63 : j ≤ 9223372036854775806 := by unfold maxLen at hl2; omega
            obtain ⟨bi, oi, hA1, hbi, hati⟩ := (HCD.out _ _ _ HF.out).at_ hjt
            have y0 := hati.c0; have y1 := hati.c1; have y2 := hati.c2; have y3 := hati.c3; have y4 := hati.c4
            have HSU : Hid (encC (x.code.take (j + 1)) = encC (x.code.take j) ++ encM (inM x.code[j])) := fm_take_succ (fun x => encM (inM x)) x.code j hjt
            have HLE : Hid ((encC (x.code.take j)).length + (encM (inM x.code[j])).length ≤ (encC x.code).length) := fm_take_le (fun x => encM (inM x)) x.code j hjt
            have HPi := Lib.hid (HPx.out.1 x.code[j] (List.getElem_mem hjt))
            clear hati
            generalize x.code[j] = y at *
            obtain ⟨LC, hLC⟩ : ∃ z, z = LB ++ putS x.code.length ++ encC (x.code.take j) := ⟨_, rfl⟩
            have HLC : Hid (LC.length + (encM (inM y)).length ≤ 1000000000000) := by
              show _ ≤ _
              have h1 := HBX.out; have h2 := HLE.out
              rw [hLC, List.length_append, List.length_append]
              omega
            have HNC : Hid (LB ++ putS x.code.length ++ encC (x.code.take (j + 1)) = LC ++ encM (inM y)) := by
              show _ = _
              rw [HSU.out, hLC, List.append_assoc, List.append_assoc, List.append_assoc]
            rw [← hLC] at HF
            have C : Hid (∀ W, Calls Tryz.prog 36 #[.agg #[.int .i64 y.op, .int .i64 y.d, .int .i64 y.a, .int .i64 y.b, .int .i64 y.imm]] W (RB W (encM (inM y)))) := fun W => rputi17_any (w := W) (m := inM y) rfl rfl HPi.out.1 HPi.out.2.1 HPi.out.2.2.1 HPi.out.2.2.2.1 HPi.out.2.2.2.2.1
            clear hLC HSU HLE HPi
            subst hA1
            go_wp2_with fail
            refine (C.out _).mono ?_
            rintro e W4 ⟨A4, c4, rfl, ho, hb4⟩
            have HF4 := Lib.hid (HF.out.below hb4)
            have HX4 := Lib.hid (HX.out.below hb4 HX.out.lt)
            have hsee := Sees.of_own ho
            have hlo : (w.alloc (.cells #[.int .i64 a, .int .i64 r, .slice (some ⟨b, o, none⟩) bs.length c] 24)).heap.size ≤ W4.heap.size := HF4.out.bl.blw.size
            have hown := HF4.out.bl.own
            clear ho hb4 C HF HX b0 b1 b2 b3 b4 y0 y1 y2 y3 y4
            go_wp2_with (at_builtin; refine wpList_append_sees _ rfl (.tmp 41) (.tmp 47) 33 rfl (w.alloc (.cells #[.int .i64 a, .int .i64 r, .slice (some ⟨b, o, none⟩) bs.length c] 24)).heap.size 5 i0 (.int .u8 0) 1 Tryz.underlying33 hi hz0 hz1 hz2 rfl _ LC.length (bts LC) rfl hown W4.heap.size _ _ _ (bts (encM (inM y))) rfl hsee (bts_length _) (bts_one _) ?c1 ?c2 ?c3 ?_)
            case c1 => have := HLC.out; unfold maxLen; omega
            case c2 => have := HLC.out; omega
            case c3 => exact hlo
            intro v5 W5 ho5 hg5
            have HF5 := Lib.hid (HF4.out.app (HF4.out.bl.app (v' := v5) (W' := W5) (r := encM (inM y)) rfl (by rw [World.size_alloc]; exact ho5) hg5))
            have HX5 := Lib.hid ((KT.grown hown hg5) _ _ _ (by decide) HX4.out)
            rw [← HNC.out] at HF5
            clear ho5 hg5 hown hsee hlo HF4 HX4
            go_wp2_with fail
            go_roundg g2
            case measure => omega
            case rel => exact ⟨j + 1, by omega, by go_num, HF5.out, HX5.out⟩

end Go.Proofs.YtkapmfopfddmbaaGreat
