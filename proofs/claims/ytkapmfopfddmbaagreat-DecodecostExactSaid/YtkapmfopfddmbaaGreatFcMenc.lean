/-
  The reference of layer 18: PutMFunc (made by wip/lab/genfcmenc.py).
-/
import Derived.Test.YtkapmfopfddmbaaGreatPk8
import Derived.Deep.LoopGhost
import Derived.Deep.Cut
import Derived.Deep.CutRange
import Derived.Deep.RegionHeld3
import Derived.BigRegion
namespace Go.Proofs.YtkapmfopfddmbaaGreat
open Go.RowKit
set_option linter.unusedVariables false
set_option linter.unusedSimpArgs false

/-- What PutMFunc carries: the function in its box, the bytes so far. -/
structure GES (w : World) (a r s : Int) (A : Option Addr) (n c : Nat) (v : Value) (l : List Nat) (W : World) : Prop where
  box : Row W w.heap.size 27 #[.int .i64 a, .int .i64 r, .int .i64 s, .slice A n c]
  bl : BL (w.alloc (.cells #[.int .i64 a, .int .i64 r, .int .i64 s, .slice A n c] 27)) v l W

section
variable {w W W' : World} {a r s : Int} {A : Option Addr} {n c : Nat} {v v' : Value} {l l' : List Nat}

theorem GES.app (h : GES w a r s A n c v l W) (hb : BL (w.alloc (.cells #[.int .i64 a, .int .i64 r, .int .i64 s, .slice A n c] 27)) v' l' W') : GES w a r s A n c v' l' W' :=
  ⟨(Row.new w _ _).below hb.blw (by simp), hb⟩

theorem GES.below (h : GES w a r s A n c v l W) (hb : Below W.heap.size W W') : GES w a r s A n c v l W' := h.app (h.bl.next hb)

theorem GES.drewN (h : GES w a r s A n c v l W) (k : Nat) : GES w a r s A n c v l (W.drewN k) := h.below (let b := Below.refl W.heap.size W; ⟨b.os, b.tape, b.output, b.size, b.block⟩)

theorem GES.drew (h : GES w a r s A n c v l W) : GES w a r s A n c v l W.drew := h.below (let b := Below.refl W.heap.size W; ⟨b.os, b.tape, b.output, b.size, b.block⟩)

theorem GES.cells (h : GES w a r s A n c v l W) : W.cell? ⟨w.heap.size, 0, none⟩ = some (.int .i64 a) ∧ W.cell? ⟨w.heap.size, 1, none⟩ = some (.int .i64 r) ∧ W.cell? ⟨w.heap.size, 2, none⟩ = some (.int .i64 s) ∧ W.cell? ⟨w.heap.size, 3, none⟩ = some (.slice A n c) := by
  have d0 := h.box.cell 0; have d1 := h.box.cell 1; have d2 := h.box.cell 2; have d3 := h.box.cell 3
  simp only [List.getElem?_toArray, List.getElem?_cons_zero, List.getElem?_cons_succ] at d0 d1 d2 d3
  exact ⟨d0, d1, d2, d3⟩

theorem GES.lo (h : GES w a r s A n c v l W) : w.heap.size < W.heap.size := h.box.lt

end

set_option maxRecDepth 100000 in
set_option maxHeartbeats 16000000 in
theorem rputmf18_any (B : Nat) (A : Option Addr) (bs : List MBlk) (c : Nat) (a r s : Int) (w : World) (hs : MBlksAt w B A bs) (hB : B ≤ w.heap.size) (ha : 0 ≤ a ∧ a ≤ 9223372036854775807) (hr : 0 ≤ r ∧ r ≤ 9223372036854775807) (hsl : 0 ≤ s ∧ s ≤ 9223372036854775807)
    (hm : bs.length ≤ 1000000000) (hp : ∀ x ∈ bs, PMB x) (hl : (encG ⟨a, r, s, bs⟩).length ≤ 1000000000000) :
    Calls Tryz.prog 15 #[.agg #[.int .i64 a, .int .i64 r, .int .i64 s, .slice A bs.length c]] w (RB w (encG ⟨a, r, s, bs⟩)) := by
  obtain ⟨i0, hi, hz0, hz1, hz2⟩ := info_parts Tryz.infoU8c
  have HB0 := Lib.hid ((Below.refl w.heap.size w).alloc (Nat.le_refl _) (.cells #[.int .i64 a, .int .i64 r, .int .i64 s, .slice A bs.length c] 27))
  have HF0 : Hid (GES w a r s A bs.length c (.slice none 0 0) [] (w.alloc (.cells #[.int .i64 a, .int .i64 r, .int .i64 s, .slice A bs.length c] 27))) := ⟨Row.new w _ _, bl_nil _⟩
  have hs0 := (hs.more hB).alloc (Nat.le_refl _) (.cells #[.int .i64 a, .int .i64 r, .int .i64 s, .slice A bs.length c] 27)
  obtain ⟨L3, hL3⟩ : ∃ z, z = putS a.toNat ++ putS r.toNat ++ putS s.toNat ++ putS bs.length := ⟨_, rfl⟩
  have HEq : Hid (encG ⟨a, r, s, bs⟩ = L3 ++ encMBs bs) := by show _ = _; rw [hL3]; unfold encG; simp only [List.append_assoc]
  have HLn : Hid (L3.length + (encMBs bs).length ≤ 1000000000000) := by show _ ≤ _; rw [HEq.out, List.length_append] at hl; exact hl
  obtain ⟨EF, hEF⟩ : ∃ z, z = encG ⟨a, r, s, bs⟩ := ⟨_, rfl⟩
  rw [← hEF] at HEq ⊢
  have HP := Lib.hid hp
  have HL3 := Lib.hid hL3
  clear hEF hl hp hL3 hs
  go_enter Tryz.func15, Tryz.ntmps15
  go_upto_region 1 with fail
  have HS0 : Hid (∀ W v l, GES w a r s A bs.length c v l W → MBlksAt W w.heap.size A bs) := fun W v l h => hs0.below (h.bl.blw.mono (by simp))
  clear hs0
  generalize (w.alloc (.cells #[.int .i64 a, .int .i64 r, .int .i64 s, .slice A bs.length c] 27)) = W0 at HF0
  go_cut [3] from 2 (fun s3 wx => Hid (GES w a r s A bs.length c s3 L3 wx))
  case first =>
    have K1 : Hid (∀ W, GES w a r s A bs.length c (.slice none 0 0) [] W → Calls Tryz.prog 35 #[.slice none 0 0, .int .i64 a] W fun e W' => ∃ v', e = .returned v' ∧ GES w a r s A bs.length c v' (putS a.toNat) W') := fun W h => (rput18_any h.bl a ha.1 ha.2 (by simp)).mono (by
      rintro e W' ⟨v', rfl, h1, _⟩
      exact ⟨v', rfl, h.app h1⟩)
    have K2 : Hid (∀ v W, GES w a r s A bs.length c v (putS a.toNat) W → Calls Tryz.prog 35 #[v, .int .i64 r] W fun e W' => ∃ v', e = .returned v' ∧ GES w a r s A bs.length c v' (putS a.toNat ++ putS r.toNat) W') := fun v W h => (rput18_any h.bl r hr.1 hr.2 (by have := putS_le a.toNat; omega)).mono (by
      rintro e W' ⟨v', rfl, h1, _⟩
      exact ⟨v', rfl, h.app h1⟩)
    have K3 : Hid (∀ v W, GES w a r s A bs.length c v (putS a.toNat ++ putS r.toNat) W → Calls Tryz.prog 35 #[v, .int .i64 s] W fun e W' => ∃ v', e = .returned v' ∧ GES w a r s A bs.length c v' (putS a.toNat ++ putS r.toNat ++ putS s.toNat) W') := fun v W h => (rput18_any h.bl s hsl.1 hsl.2 (by have := putS_le a.toNat; have := putS_le r.toNat; rw [List.length_append]; omega)).mono (by
      rintro e W' ⟨v', rfl, h1, _⟩
      exact ⟨v', rfl, h.app h1⟩)
    have K4 : Hid (∀ v W, GES w a r s A bs.length c v (putS a.toNat ++ putS r.toNat ++ putS s.toNat) W → Calls Tryz.prog 35 #[v, .int .i64 bs.length] W fun e W' => ∃ v', e = .returned v' ∧ GES w a r s A bs.length c v' L3 W') := fun v W h => (rput18_any h.bl bs.length (by omega) (by omega) (by have := putS_le a.toNat; have := putS_le r.toNat; have := putS_le s.toNat; rw [List.length_append, List.length_append]; omega)).mono (by
      rintro e W' ⟨v', rfl, h1, _⟩
      rw [Int.toNat_natCast, ← HL3.out] at h1
      exact ⟨v', rfl, h.app h1⟩)
    have hG := HF0.out
    obtain ⟨d0, d1, d2, d3⟩ := hG.cells
    clear HF0 HP HLn HEq HL3 HS0 HB0
    go_wp2_with fail
    go_region_held3 (fun w' => w'.cell? ⟨w.heap.size, 0, none⟩ = some (.int .i64 a) ∧ w'.cell? ⟨w.heap.size, 1, none⟩ = some (.int .i64 r) ∧ w'.cell? ⟨w.heap.size, 2, none⟩ = some (.int .i64 s) ∧ w'.cell? ⟨w.heap.size, 3, none⟩ = some (.slice A bs.length c)) (first | exact hG.cells | exact hG.drew.cells | exact (hG.drewN _).cells) (first | (go_at_call 35; go_must (first
      | ((with_reducible refine (K1.out _ (by first | exact hG | exact hG.drew | exact hG.drewN _)).mono ?_); rintro e Wa ⟨v1, rfl, hG⟩)
      | ((with_reducible refine (K2.out _ _ (by first | exact hG | exact hG.drew | exact hG.drewN _)).mono ?_); rintro e Wa ⟨v2, rfl, hG⟩)
      | ((with_reducible refine (K3.out _ _ (by first | exact hG | exact hG.drew | exact hG.drewN _)).mono ?_); rintro e Wa ⟨v3, rfl, hG⟩)
      | ((with_reducible refine (K4.out _ _ (by first | exact hG | exact hG.drew | exact hG.drewN _)).mono ?_); rintro e Wa ⟨v4, rfl, hG⟩))))
    go_wp2_with fail
    go_meet
    case rel => show GES _ _ _ _ _ _ _ _ _ _; first | exact hG | exact hG.drew | exact hG.drewN _
  case rest =>
    have HF1 := hcut
    clear HF0 hcut HL3
    generalize wc = W1 at *
    go_wp2_with fail
    go_loopg [3, 4] bs.length (fun g v3 v4 wr => ∃ k : Nat, k + g = bs.length ∧ v4 = .int .i64 k ∧ Hid (GES w a r s A bs.length c v3 (L3 ++ encMBs (bs.take k)) wr))
    case atStart => exact ⟨0, by omega, rfl, by show GES _ _ _ _ _ _ _ _ _ _; rw [List.take_zero]; show GES _ _ _ _ _ _ _ _ (L3 ++ []) _; rw [List.append_nil]; exact HF1.out⟩
    case round =>
      clear HF1
      obtain ⟨k, hkg, rfl, HF⟩ := hrel
      cases gk with
      | zero =>
        obtain rfl : k = bs.length := by omega
        rw [List.take_length, ← HEq.out] at HF
        obtain ⟨d0, d1, d2, d3⟩ := HF.out.cells
        go_wp2
        go_ret
        exact RB.of HF.out.bl HB0.out
      | succ g =>
        have hlt : k < bs.length := by omega
        obtain ⟨b, o, hA, hb, hat⟩ := (HS0.out _ _ _ HF.out).at_ hlt
        obtain ⟨A1, c1, e0, hl1, hl2, hin⟩ := hat.code
        have e1 := hat.t0; have e2 := hat.t1; have e3 := hat.t2; have e4 := hat.t3
        have HIN := Lib.hid hin
        have HSU : Hid (encMBs (bs.take (k + 1)) = encMBs (bs.take k) ++ encMB bs[k]) := fm_take_succ encMB bs k hlt
        have HLE : Hid ((encMBs (bs.take k)).length + (encMB bs[k]).length ≤ (encMBs bs).length) := fm_take_le encMB bs k hlt
        have HPx := Lib.hid (HP.out bs[k] (List.getElem_mem hlt))
        obtain ⟨d0, d1, d2, d3⟩ := HF.out.cells
        clear hat hin
        generalize bs[k] = x at *
        obtain ⟨LB, hLB⟩ : ∃ z, z = L3 ++ encMBs (bs.take k) := ⟨_, rfl⟩
        have HBX : Hid (LB.length + (putS x.code.length).length + (encK x.code).length + (encT x.term).length ≤ 1000000000000) := by
          show _ ≤ _
          have h1 := HLE.out; have h2 := HLn.out
          rw [hLB, List.length_append]
          simp only [encMB, List.length_append] at h1
          omega
        have HNX : Hid (L3 ++ encMBs (bs.take (k + 1)) = LB ++ putS x.code.length ++ encK x.code ++ encT x.term) := by
          show _ = _
          rw [HSU.out, hLB]
          simp only [encMB, List.append_assoc]
        rw [← hLB] at HF
        clear hLB HSU HLE
        subst hA
        go_upto_region 6 with fail
        have hblk := (Below.refl wr.heap.size wr).alloc (Nat.le_refl _) (.cells #[.slice A1 x.code.length c1, .int .i64 x.term.kind, .int .i64 x.term.a, .int .i64 x.term.to, .int .i64 x.term.el] 46)
        have HF2 := Lib.hid (HF.out.below hblk)
        have HX2 := Lib.hid (Row.new wr 46 #[.slice A1 x.code.length c1, .int .i64 x.term.kind, .int .i64 x.term.a, .int .i64 x.term.to, .int .i64 x.term.el])
        have HCD : Hid (∀ W v l, GES w a r s (some ⟨b, o, none⟩) bs.length c v l W → MisAt W w.heap.size A1 x.code) := fun W v l h => HIN.out.keep fun p hp => ((h.bl.blw.mono (by simp)).cell hp).trans ((HF.out.bl.blw.mono (by simp)).cell hp).symm
        obtain ⟨wo, hwo⟩ : ∃ z, z = wr := ⟨_, rfl⟩
        subst hwo
        clear hblk HIN e0 e1 e2 e3 e4 d0 d1 d2 d3 HF
        generalize (wo.alloc (.cells #[.slice A1 x.code.length c1, .int .i64 x.term.kind, .int .i64 x.term.a, .int .i64 x.term.to, .int .i64 x.term.el] 46)) = W2 at *
        have C := Lib.hid (rput18_any HF2.out.bl x.code.length (by omega) (by unfold maxLen at hl2; omega) (by have := HBX.out; omega))
        rw [Int.toNat_natCast] at C
        have b0 := HX2.out.cell 0
        simp only [List.getElem?_toArray, List.getElem?_cons_zero, List.getElem?_cons_succ] at b0
        go_wp2_with fail
        refine C.out.mono ?_
        rintro e W3 ⟨v3, rfl, hbl, hkt⟩
        have HF3 := Lib.hid (HF2.out.app hbl)
        have HX3 := Lib.hid (hkt _ _ _ (by decide) HX2.out)
        clear C hbl hkt b0 HF2 HX2
        go_wp2_with fail
        go_loopg [3, 6] x.code.length (fun g2 v3 v6 wx => ∃ j : Nat, j + g2 = x.code.length ∧ v6 = .int .i64 j ∧ Hid (GES w a r s (some ⟨b, o, none⟩) bs.length c v3 (LB ++ putS x.code.length ++ encK (x.code.take j)) wx) ∧ Hid (Row wx wo.heap.size 46 #[.slice A1 x.code.length c1, .int .i64 x.term.kind, .int .i64 x.term.a, .int .i64 x.term.to, .int .i64 x.term.el]))
        case atStart => exact ⟨0, by omega, rfl, by show GES _ _ _ _ _ _ _ _ _ _; rw [List.take_zero]; show GES _ _ _ _ _ _ _ _ (LB ++ putS x.code.length ++ []) _; rw [List.append_nil]; exact HF3.out, HX3.out⟩
        case round =>
          clear HF3 HX3
          obtain ⟨j, hjg, rfl, HF, HX⟩ := hrel
          have b0 := HX.out.cell 0; have b1 := HX.out.cell 1; have b2 := HX.out.cell 2; have b3 := HX.out.cell 3; have b4 := HX.out.cell 4
          simp only [List.getElem?_toArray, List.getElem?_cons_zero, List.getElem?_cons_succ] at b0 b1 b2 b3 b4
          cases gk with
          | zero =>
            obtain rfl : j = x.code.length := by omega
            rw [List.take_length] at HF
            obtain ⟨LC, hLC⟩ : ∃ z, z = LB ++ putS x.code.length ++ encK x.code := ⟨_, rfl⟩
            have HLC : Hid (LC.length + (encT x.term).length ≤ 1000000000000) := by
              show _ ≤ _
              rw [hLC, List.length_append, List.length_append]
              exact HBX.out
            rw [← hLC] at HF HNX
            have C := Lib.hid fun W => rputt17_any (w := W) HPx.out.2.1 HPx.out.2.2.1 HPx.out.2.2.2.1 HPx.out.2.2.2.2
            clear hLC HBX HCD HPx
            go_wp2_with fail
            refine (C.out _).mono ?_
            rintro e W4 ⟨A4, c4, rfl, ho, hb4⟩
            have HF4 := Lib.hid (HF.out.below hb4)
            have hsee := Sees.of_own ho
            have hlo : (w.alloc (.cells #[.int .i64 a, .int .i64 r, .int .i64 s, .slice (some ⟨b, o, none⟩) bs.length c] 27)).heap.size ≤ W4.heap.size := HF4.out.bl.blw.size
            have hown := HF4.out.bl.own
            clear ho hb4 C HF HX b0 b1 b2 b3 b4
            go_wp2_with (at_builtin; refine wpList_append_sees _ rfl (.tmp 52) (.tmp 55) 33 rfl (w.alloc (.cells #[.int .i64 a, .int .i64 r, .int .i64 s, .slice (some ⟨b, o, none⟩) bs.length c] 27)).heap.size 5 i0 (.int .u8 0) 1 Tryz.underlying33 hi hz0 hz1 hz2 rfl _ LC.length (bts LC) rfl hown W4.heap.size _ _ _ (bts (encT x.term)) rfl hsee (bts_length _) (bts_one _) ?c1 ?c2 ?c3 ?_)
            case c1 => have := HLC.out; unfold maxLen; omega
            case c2 => have := HLC.out; omega
            case c3 => exact hlo
            intro v5 W5 ho5 hg5
            have HF5 := Lib.hid (HF4.out.app (HF4.out.bl.app (v' := v5) (W' := W5) (r := encT x.term) rfl (by rw [World.size_alloc]; exact ho5) hg5))
            rw [← HNX.out] at HF5
            clear ho5 hg5 hown hsee hlo HF4
            go_wp2_with fail
            go_roundg g
            case measure => omega
            case rel => exact ⟨k + 1, by omega, by go_num, HF5.out⟩
          | succ g2 =>
            have hjt : j < x.code.length := by omega
            have hj63 : j ≤ 9223372036854775806 := by unfold maxLen at hl2; omega
            obtain ⟨bi, oi, hA1, hbi, hati⟩ := (HCD.out _ _ _ HF.out).at_ hjt
            have y0 := hati.c0; have y1 := hati.c1; have y2 := hati.c2; have y3 := hati.c3; have y4 := hati.c4; have y5 := hati.c5; have y6 := hati.c6
            have HSU : Hid (encK (x.code.take (j + 1)) = encK (x.code.take j) ++ encM x.code[j]) := fm_take_succ encM x.code j hjt
            have HLE : Hid ((encK (x.code.take j)).length + (encM x.code[j]).length ≤ (encK x.code).length) := fm_take_le encM x.code j hjt
            have HPi := Lib.hid (HPx.out.1 x.code[j] (List.getElem_mem hjt))
            clear hati
            generalize x.code[j] = y at *
            obtain ⟨LC, hLC⟩ : ∃ z, z = LB ++ putS x.code.length ++ encK (x.code.take j) := ⟨_, rfl⟩
            have HLC : Hid (LC.length + (encM y).length ≤ 1000000000000) := by
              show _ ≤ _
              have h1 := HBX.out; have h2 := HLE.out
              rw [hLC, List.length_append, List.length_append]
              omega
            have HNC : Hid (LB ++ putS x.code.length ++ encK (x.code.take (j + 1)) = LC ++ encM y) := by
              show _ = _
              rw [HSU.out, hLC, List.append_assoc, List.append_assoc, List.append_assoc]
            rw [← hLC] at HF
            have C : Hid (∀ W, Calls Tryz.prog 38 #[.agg #[.int .i64 y.op, .int .i64 y.d, .int .i64 y.a, .int .i64 y.b, .int .i64 y.imm, .int .i64 y.dst, .int .i64 y.src]] W (RB W (encM y))) := fun W => rputm17_any (w := W) (m := y) HPi.out.1 HPi.out.2.1 HPi.out.2.2.1 HPi.out.2.2.2.1 HPi.out.2.2.2.2.1 HPi.out.2.2.2.2.2.1 HPi.out.2.2.2.2.2.2
            clear hLC HSU HLE HPi
            subst hA1
            go_wp2_with fail
            refine (C.out _).mono ?_
            rintro e W4 ⟨A4, c4, rfl, ho, hb4⟩
            have HF4 := Lib.hid (HF.out.below hb4)
            have HX4 := Lib.hid (HX.out.below hb4 HX.out.lt)
            have hsee := Sees.of_own ho
            have hlo : (w.alloc (.cells #[.int .i64 a, .int .i64 r, .int .i64 s, .slice (some ⟨b, o, none⟩) bs.length c] 27)).heap.size ≤ W4.heap.size := HF4.out.bl.blw.size
            have hown := HF4.out.bl.own
            clear ho hb4 C HF HX b0 b1 b2 b3 b4 y0 y1 y2 y3 y4 y5 y6
            go_wp2_with (at_builtin; refine wpList_append_sees _ rfl (.tmp 44) (.tmp 50) 33 rfl (w.alloc (.cells #[.int .i64 a, .int .i64 r, .int .i64 s, .slice (some ⟨b, o, none⟩) bs.length c] 27)).heap.size 5 i0 (.int .u8 0) 1 Tryz.underlying33 hi hz0 hz1 hz2 rfl _ LC.length (bts LC) rfl hown W4.heap.size _ _ _ (bts (encM y)) rfl hsee (bts_length _) (bts_one _) ?c1 ?c2 ?c3 ?_)
            case c1 => have := HLC.out; unfold maxLen; omega
            case c2 => have := HLC.out; omega
            case c3 => exact hlo
            intro v5 W5 ho5 hg5
            have HF5 := Lib.hid (HF4.out.app (HF4.out.bl.app (v' := v5) (W' := W5) (r := encM y) rfl (by rw [World.size_alloc]; exact ho5) hg5))
            have HX5 := Lib.hid ((KT.grown hown hg5) _ _ _ (by decide) HX4.out)
            rw [← HNC.out] at HF5
            clear ho5 hg5 hown hsee hlo HF4 HX4
            go_wp2_with fail
            go_roundg g2
            case measure => omega
            case rel => exact ⟨j + 1, by omega, by go_num, HF5.out, HX5.out⟩

end Go.Proofs.YtkapmfopfddmbaaGreat
