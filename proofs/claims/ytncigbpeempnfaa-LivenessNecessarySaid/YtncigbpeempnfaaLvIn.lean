/-
  In: the registers that are live at the entry of each block.
-/
import Derived.Test.YtncigbpeempnfaaLvSol
namespace Go.Proofs.Ytncigbpeempnfaa
open Go.RowKit
set_option linter.unusedVariables false

/-- A list that is new, stored as an element. -/
theorem NI.fill {W0 W W' : World} {g n i : Nat} {xs : List (List Int)} {x l : List Int} {u' : Value} (h : NI W0 g n xs W) (hx : xs[i]? = some x) (hi : IL0 W u' l W') :
    (∃ u, W'.cell? ⟨g, i, none⟩ = some u) ∧ W'.frozen? ⟨g, i, none⟩ = false ∧ NI W0 g n (xs.set i l) (W'.setCell ⟨g, i, none⟩ u') := by
  obtain ⟨vs, hv⟩ := h.nest
  have hil : i < xs.length := (List.getElem?_eq_some_iff.1 hx).1
  obtain ⟨u, hu, _⟩ := hv.got hil
  have ho := hv.outer
  rw [ii_flat vs xs hv.len] at ho
  have hc := ho.cells (g := g) rfl i u hu
  have hc : W.cell? ⟨g, i, none⟩ = some u := by simpa [Addr.add_lit] using hc
  have hf : W.frozen? ⟨g, i, none⟩ = false := own_frozen ho rfl
  have hlt := h.lt
  refine ⟨⟨u, (hi.blw.cell (p := ⟨g, i, none⟩) hlt).trans hc⟩, (Mods.of_below (S := No) hi.blw).frozen (p := ⟨g, i, none⟩) hlt (fun h => h) |>.trans hf, ⟨_, ii_turnN hv rfl hu hx (Mods.of_below hi.blw) (ownS_base hi.own (Nat.le_of_lt hlt)) fun q hq => .inr (ownS_lt hi.own q hq).1⟩, ?_, ?_⟩
  · exact (h.blw.trans (hi.blw.mono (Nat.le_of_lt hlt))).setCell (Nat.le_refl _) _
  · have := hi.blw.size
    simp [World.setCell]; omega

/-- What In and Out leave: a list of lists in blocks of its own. -/
def LLP (w : World) (n : Nat) (F : Nat → List Int) (e : Ending) (w' : World) : Prop := ∃ g, w.heap.size ≤ g ∧ e = .returned (.slice (some ⟨g, 0, none⟩) n n) ∧ (∃ vs, NestV ishp w' g (.slice (some ⟨g, 0, none⟩) n n) vs (fL23 F n)) ∧ Below w.heap.size w w'

/-- What is asked of a function. -/
structure FnOk (N : Nat) (bs : List Blk) : Prop where
  ne : 0 < bs.length
  hm : bs.length ≤ 100000
  hN : N ≤ 100000
  code : ∀ b ∈ bs, b.code.length ≤ 100000000
  succ : ∀ b ∈ bs, ∀ s ∈ succs b.term, 0 ≤ s ∧ s < bs.length
  ok : ∀ b ∈ bs, BlkOk N b
  use : ∀ i, i < bs.length → ∀ z, bUse (blkAt bs i) z = true → 0 ≤ z ∧ z < N

set_option maxRecDepth 100000 in
set_option maxHeartbeats 8000000 in
theorem pin_any (args regs : Int) (FA : Option Addr) (bs : List Blk) (bc N : Nat) (w : World) (hs : BlksAt w w.heap.size FA bs) (hF : FnOk N bs) :
    Calls Try.prog 17 #[.agg #[.int .i64 args, .int .i64 regs, .slice FA bs.length bc]] w (LLP w bs.length (inL bs N)) := by
  have hN := hF.hN
  have hm := hF.hm
  have hmk := fun w => run_make_row' (P := Try.prog) 39 28 (.slice none 0 0) 24 Try.underlying39 infoIl rfl .i64 .i64 bs.length (by omega) (by omega) w
  have HX := Row.new w 24 #[.int .i64 args, .int .i64 regs, .slice FA bs.length bc]
  have hb0 : Below w.heap.size w (w.alloc (.cells #[.int .i64 args, .int .i64 regs, .slice FA bs.length bc] 24)) := (Below.refl _ _).alloc (Nat.le_refl _) _
  have HSV := Lib.hid (psolve_any args regs FA bs bc N _ ((hs.below hb0).more hb0.size) hm hF.ne hN hF.code hF.succ hF.ok hF.use)
  have HB0 := Lib.hid hb0
  clear hs hb0 hF
  go_enter Try.func17, Try.ntmps17
  go_upto_region 1 with fail
  generalize (w.alloc (.cells #[.int .i64 args, .int .i64 regs, .slice FA bs.length bc] 24)) = W0 at *
  obtain ⟨b1, hb1⟩ : ∃ z, w.heap.size = z := ⟨_, rfl⟩
  rw [hb1] at HX
  rw [hb1]
  have y0 := HX.k0; have y1 := HX.k1; have y2 := HX.k2
  have HB1 := Lib.hid hb1
  clear hb1
  go_upto_region 2 with (go_at_call 37; refine (HSV.out).mono ?_; rintro e V1 ⟨g, c, rfl, B, vs, hv⟩; have HV := Lib.hid hv; clear hv)
  have HB2 := Lib.hid (HB0.out.trans (HV.out.blw.mono HB0.out.size))
  clear HSV y0 y1 y2 HX HB0
  go_upto_region 3 with fail
  have HNI : Hid (NI V1 V1.heap.size bs.length (fL23 (fun _ => []) bs.length) (V1.alloc (.cells (madeCells #[.slice none 0 0] bs.length) 28))) := by
    refine ⟨⟨List.replicate bs.length (.slice none 0 0), ?_⟩, (Below.refl _ _).alloc (Nat.le_refl _) _, by simp⟩
    have := ii_made V1 (n := bs.length) (by unfold maxLen; omega)
    rw [fL_nil] at this
    exact this
  clear hmk
  generalize (V1.alloc (.cells (madeCells #[.slice none 0 0] bs.length) 28)) = W1 at *
  have HVN : Hid (∀ W, Below V1.heap.size V1 W → GV23 W0 (.slice (some ⟨g, 0, none⟩) bs.length c) bs.length N (fun i => bUse (blkAt bs i)) (fun i => bDef (blkAt bs i)) B (fun i z => lvB bs z i) vs W) := fun W h => HV.out.next h
  obtain ⟨gi, hgi⟩ : ∃ z, V1.heap.size = z := ⟨_, rfl⟩
  rw [hgi] at HNI HVN
  rw [hgi]
  have hgm : w.heap.size ≤ gi := by have := HB2.out.size; omega
  clear hgi HV
  obtain ⟨G, hG⟩ : ∃ G : Nat → Nat → List Int, G = fun i j => if j < i then inL bs N j else [] := ⟨_, rfl⟩
  have HG0 : Hid (fL23 (fun _ => []) bs.length = fL23 (G 0) bs.length) := by subst hG; exact fL_congr fun i hi => by simp
  have HGn : Hid (fL23 (G bs.length) bs.length = fL23 (inL bs N) bs.length) := by subst hG; exact fL_congr fun i hi => by simp [hi]
  have HGs : Hid (∀ i, i < bs.length → (fL23 (G i) bs.length)[i]? = some [] ∧ (fL23 (G i) bs.length).set i (inL bs N i) = fL23 (G (i + 1)) bs.length) := fun i hi => by
    subst hG
    refine ⟨by rw [fL_get _ hi]; simp, fL_set (by simp) fun j hj hne => ?_⟩
    by_cases h : j < i
    · simp [h, show j < i + 1 by omega]
    · simp [h, show ¬ j < i + 1 by omega]
  rw [HG0.out] at HNI
  clear hG HG0
  go_upto_region 4 with fail
  go_loopg [14] bs.length (fun q s14 wr => ∃ k : Nat, k + q = bs.length ∧ s14 = .int .i64 (k : Int) ∧ Hid (NI V1 gi bs.length (fL23 (G k) bs.length) wr))
  case atStart => exact ⟨0, by omega, rfl, HNI.out⟩
  case round =>
    clear HNI
    obtain ⟨k, hk, rfl, HP⟩ := hrel
    cases gk with
    | zero =>
      obtain rfl : k = bs.length := by omega
      go_wp2_with fail
      go_ret
      exact ⟨gi, hgm, rfl, by rw [← HGn.out]; exact HP.out.nest, HB2.out.trans (HP.out.blw.mono hgm)⟩
    | succ g1 =>
      have hlt : k < bs.length := by omega
      have hv := HVN.out wr HP.out.blw
      have hvl : k < vs.length := by rw [hv.len]; exact hlt
      have hvx : vs[k]? = some vs[k] := List.getElem?_eq_getElem hvl
      obtain ⟨c1, c2, c3, c4⟩ := hv.cell hvx
      have hown := hv.sb k _ hvx
      have hsl := hv.sl k _ hvx
      generalize vs[k] = y at *
      obtain ⟨yu, yd, yb, yl⟩ := y
      dsimp only at c1 c2 c3 c4 hown hsl
      obtain ⟨Ab, cb, rfl, hb1, hb2⟩ := ownS_slice hown
      clear hvl hvx hown hb1 hb2 hv
      go_upto_region 6 with fail
      have HI := Row.new wr 63 #[.map yu, .map yd, .slice Ab (B k).length cb, .map yl]
      have hba : Below wr.heap.size wr (wr.alloc (.cells #[.map yu, .map yd, .slice Ab (B k).length cb, .map yl] 63)) := (Below.refl _ _).alloc (Nat.le_refl _) _
      have HSO := Lib.hid (sorted_any (.map yl) N _ _ (hsl.below hba) hN)
      have HP5 := Lib.hid (HP.out.next hba)
      clear HP c1 c2 c3 c4 hba hsl
      generalize (wr.alloc (.cells #[.map yu, .map yd, .slice Ab (B k).length cb, .map yl] 63)) = W5 at *
      obtain ⟨xb, hxb⟩ : ∃ z, wr.heap.size = z := ⟨_, rfl⟩
      rw [hxb] at HI ⊢
      clear hxb
      have f0 := HI.k0; have f1 := HI.k1; have f2 := HI.k2; have f3 := HI.k3
      have HSI : Hid (regL (fun z => lvB bs z k) N = inL bs N k) := rfl
      rw [HSI.out] at HSO
      have hil : (inL bs N k).length ≤ 100000 := Nat.le_trans (regL_len _ _) hN
      obtain ⟨hge, hgs⟩ := HGs.out k hlt
      have HGE := Lib.hid hge
      have HGS := Lib.hid hgs
      clear HI HSI hge hgs
      generalize inL bs N k = l at *
      go_wp2_with (go_at_call 36; refine (HSO.out).mono ?_; rintro e w6 ⟨A6, c6, rfl, h6⟩; have H6 := Lib.hid h6; clear h6; obtain ⟨⟨u, h11⟩, h12, h13⟩ := HP5.out.fill HGE.out H6.out; have H7 := Lib.hid h13; clear h13)
      go_roundg g1
      case measure => omega
      case rel => exact ⟨k + 1, by omega, by go_num, by rw [← HGS.out]; exact H7.out⟩

end Go.Proofs.Ytncigbpeempnfaa
