/-
  The program's move: a location's value is stored in another one.
-/
import Derived.Test.YtcimjghejclknaaExLoc
import Derived.Test.YtcimjghejclknaaAluEval
import Derived.Deep.RegionHeld3
import Derived.Deep.DeepMust
import Derived.RegionTactic
import Derived.ChangeAlike
namespace Go.Proofs.Ytcimjghejclknaa
open Go.RowKit
set_option linter.unusedVariables false
set_option linter.unusedSimpArgs false

abbrev exT : TypeId := 60
/-- A location of a run at a block: its address, and what is there before and behind a store. -/
structure LocAt (lo q : Nat) (T : TypeId) (ex : List Value) (RA : Option Addr) (rc : Nat) (SA : Option Addr) (sc : Nat) (TA : Option Addr) (tc : Nat) (r : Xn) (l : Int) (g k : Nat) : Prop where
  call : ∀ W : World, W.cell? ⟨q, 4, none⟩ = some (.slice RA r.regs.length rc) → W.cell? ⟨q, 5, none⟩ = some (.slice SA r.slots.length sc) → Calls Try.prog 28 #[.pointer (some ⟨q, 0, none⟩), .int .i64 l] W fun e w' => e = .returned (.pointer (some ⟨g, k, none⟩)) ∧ ∃ n, W.drewN n = w'
  low : lo ≤ g
  cell : ∀ W : World, Xp W lo q T ex RA rc SA sc TA tc r → W.cell? ⟨g, k, none⟩ = some (.int .i64 (rdX r l)) ∧ W.frozen? ⟨g, k, none⟩ = false ∧ g < W.heap.size ∧ g ≠ q
  put : ∀ (W : World) (v : Int), Xp W lo q T ex RA rc SA sc TA tc r → Xp (W.setCell ⟨g, k, none⟩ (.int .i64 v)) lo q T ex RA rc SA sc TA tc (putX r l v) ∧ Below lo W (W.setCell ⟨g, k, none⟩ (.int .i64 v))
theorem Xp.at_ {w : World} {lo q : Nat} {T : TypeId} {ex : List Value} {RA SA TA : Option Addr} {rc sc tc : Nat} {r : Xn} (h : Xp w lo q T ex RA rc SA sc TA tc r) {l : Int} (hl : LocOk r.regs.length r.slots.length l) (hr : r.regs.length ≤ 1000000) (hs : r.slots.length ≤ 1000000) :
    ∃ g k, LocAt lo q T ex RA rc SA sc TA tc r l g k := by
  obtain ⟨h0, ⟨h1, h2⟩ | ⟨h1, h2⟩⟩ := hl
  · obtain ⟨k, hk⟩ := Int.eq_ofNat_of_zero_le (show 0 ≤ l / 2 by omega)
    have hkn : k < r.slots.length := by omega
    obtain ⟨g, rfl, _⟩ := regs_at h.v.slots hkn
    refine ⟨g, k, fun W _ h5 => place_slot l k q g r.slots.length sc W h5 (by omega) hkn hs, (ownS_lt h.v.slots g rfl).1, fun W hW => ⟨?_, own_frozen hW.v.slots (g := g) rfl, (ownS_lt hW.v.slots g rfl).2, hW.ns g rfl⟩, fun W v hW => ?_⟩
    · rw [rdX, if_pos h1, hk]
      exact hW.v.slotc hkn
    · rw [putX, if_pos h1, hk]
      exact hW.setslot hkn
  · obtain ⟨k, hk⟩ := Int.eq_ofNat_of_zero_le (show 0 ≤ l / 2 by omega)
    have hkn : k < r.regs.length := by omega
    obtain ⟨g, rfl, _⟩ := regs_at h.v.regs hkn
    refine ⟨g, k, fun W h4 _ => place_reg l k q g r.regs.length rc W h4 (by omega) hkn hr, (ownS_lt h.v.regs g rfl).1, fun W hW => ⟨?_, own_frozen hW.v.regs (g := g) rfl, (ownS_lt hW.v.regs g rfl).2, hW.nr g rfl⟩, fun W v hW => ?_⟩
    · rw [rdX, if_neg (by omega), hk]
      exact hW.v.regc hkn
    · rw [putX, if_neg (by omega), hk]
      exact hW.setreg hkn
theorem cell_store {W : World} {g k g' k' : Nat} {x : Int} (h : W.cell? ⟨g', k', none⟩ = some (.int .i64 x)) : (W.setCell ⟨g, k, none⟩ (.int .i64 x)).cell? ⟨g', k', none⟩ = some (.int .i64 x) := by
  by_cases e : (⟨g, k, none⟩ : Addr) = ⟨g', k', none⟩
  · rw [← e] at h ⊢
    exact World.cell?_setCell_same _ _ _ h
  · rw [World.cell?_setCell_other _ _ _ _ e]
    exact h

set_option maxRecDepth 100000 in
set_option maxHeartbeats 4000000 in
theorem move_any (i : Mi) (r : Xn) (lo q : Nat) (ex : List Value) (RA SA TA : Option Addr) (rc sc tc : Nat) (w : World) (hI : Xp w lo q exT ex RA rc SA sc TA tc r) (hd : LocOk r.regs.length r.slots.length i.dst) (hs : LocOk r.regs.length r.slots.length i.src) (hrl : r.regs.length ≤ 1000000) (hsl : r.slots.length ≤ 1000000) :
    Calls Try.prog 45 #[.pointer (some ⟨q, 0, none⟩), .agg #[.int .i64 i.op, .int .i64 i.d, .int .i64 i.a, .int .i64 i.b, .int .i64 i.imm, .int .i64 i.dst, .int .i64 i.src]] w fun e w' => e = .returned (.bool true) ∧ Xp w' lo q exT ex RA rc SA sc TA tc (putX r i.dst (rdX r i.src)) ∧ Below lo w w' := by
  obtain ⟨gd, kd, HD⟩ := hI.at_ hd hrl hsl
  obtain ⟨gs, ks, HS⟩ := hI.at_ hs hrl hsl
  have hql : q < w.heap.size := hI.row.lt
  have hlq := hI.lt
  have hb0 := (Below.refl w.heap.size w).alloc (Nat.le_refl _) (.cells #[.int .i64 i.op, .int .i64 i.d, .int .i64 i.a, .int .i64 i.b, .int .i64 i.imm, .int .i64 i.dst, .int .i64 i.src] 52)
  have hI0 := hI.next hb0
  have hbx := Row.new w 52 #[.int .i64 i.op, .int .i64 i.d, .int .i64 i.a, .int .i64 i.b, .int .i64 i.imm, .int .i64 i.dst, .int .i64 i.src]
  have hB0 := hb0.mono (B' := lo) (by omega)
  obtain ⟨c1, c2, c3, c4⟩ := HS.cell _ hI0
  obtain ⟨d1, d2, d3, d4⟩ := HD.cell _ hI0
  obtain ⟨_, _, _, _, q4, q5, _, _⟩ := hI0.cells
  have b5 := hbx.cell 5; have b6 := hbx.cell 6
  simp only [List.getElem?_toArray, List.getElem?_cons_zero, List.getElem?_cons_succ] at b5 b6
  have hcd : w.heap.size ≠ gd ∧ w.heap.size ≠ q := ⟨fun e => by subst e; have := (HD.cell _ hI).2.2.1; omega, by omega⟩
  have CD := Lib.hid HD.call
  have CS := Lib.hid HS.call
  have HP := Lib.hid (And.intro hI0 hB0)
  have HPUT := Lib.hid HD.put
  clear hI hI0 hbx hb0 hB0 hd hs HS HD
  go_enter Try.func45, Try.ntmps45
  go_upto_region 1 with fail
  generalize w.alloc (.cells #[.int .i64 i.op, .int .i64 i.d, .int .i64 i.a, .int .i64 i.b, .int .i64 i.imm, .int .i64 i.dst, .int .i64 i.src] 52) = W0 at *
  generalize hxx : rdX r i.src = x at *
  have HXX := Lib.hid hxx
  clear hxx
  have HS0 : Hid (∀ W, Drawn W0 W → Drawn W0 W ∧ W.cell? ⟨q, 4, none⟩ = some (.slice RA r.regs.length rc) ∧ W.cell? ⟨q, 5, none⟩ = some (.slice SA r.slots.length sc) ∧ W.cell? ⟨w.heap.size, 5, none⟩ = some (.int .i64 i.dst) ∧ W.cell? ⟨w.heap.size, 6, none⟩ = some (.int .i64 i.src) ∧ W.cell? ⟨gs, ks, none⟩ = some (.int .i64 x)) := fun W h =>
    ⟨h, (h.cell _).trans q4, (h.cell _).trans q5, (h.cell _).trans b5, (h.cell _).trans b6, (h.cell _).trans c1⟩
  have HS1 : Hid (∀ W, Drawn W0 W → (W.setCell ⟨gd, kd, none⟩ (.int .i64 x)).cell? ⟨q, 4, none⟩ = some (.slice RA r.regs.length rc) ∧ (W.setCell ⟨gd, kd, none⟩ (.int .i64 x)).cell? ⟨q, 5, none⟩ = some (.slice SA r.slots.length sc) ∧ (W.setCell ⟨gd, kd, none⟩ (.int .i64 x)).cell? ⟨w.heap.size, 5, none⟩ = some (.int .i64 i.dst) ∧ (W.setCell ⟨gd, kd, none⟩ (.int .i64 x)).cell? ⟨w.heap.size, 6, none⟩ = some (.int .i64 i.src) ∧ (W.setCell ⟨gd, kd, none⟩ (.int .i64 x)).cell? ⟨gs, ks, none⟩ = some (.int .i64 x)) := fun W h =>
    ⟨(World.cell?_setCell_other _ _ _ _ (by simp [d4])).trans ((h.cell _).trans q4), (World.cell?_setCell_other _ _ _ _ (by simp [d4])).trans ((h.cell _).trans q5), (World.cell?_setCell_other _ _ _ _ (by simp [hcd.1.symm])).trans ((h.cell _).trans b5), (World.cell?_setCell_other _ _ _ _ (by simp [hcd.1.symm])).trans ((h.cell _).trans b6), cell_store ((h.cell _).trans c1)⟩
  have C1 := Lib.hid fun W (h : Drawn W0 W) => (CD.out W (HS0.out _ h).2.1 (HS0.out _ h).2.2.1).mono fun e w' ⟨he, n, hb⟩ => (⟨he, hb ▸ h.drewN n⟩ : e = _ ∧ Drawn W0 w')
  have C2 := Lib.hid fun W (h : Drawn W0 W) => (CS.out W (HS0.out _ h).2.1 (HS0.out _ h).2.2.1).mono fun e w' ⟨he, n, hb⟩ => (⟨he, hb ▸ h.drewN n⟩ : e = _ ∧ Drawn W0 w')
  have hG := Drawn.refl W0
  clear CD CS
  go_region_held3 (fun w' => w'.cell? ⟨q, 4, none⟩ = some (.slice RA r.regs.length rc) ∧ w'.cell? ⟨q, 5, none⟩ = some (.slice SA r.slots.length sc) ∧ w'.cell? ⟨w.heap.size, 5, none⟩ = some (.int .i64 i.dst) ∧ w'.cell? ⟨w.heap.size, 6, none⟩ = some (.int .i64 i.src) ∧ w'.cell? ⟨gs, ks, none⟩ = some (.int .i64 x)) (first | exact (HS0.out _ hG).2 | exact (HS0.out _ hG.drew).2 | exact (HS0.out _ (hG.drewN _)).2 | exact HS1.out _ hG | exact HS1.out _ hG.drew) (first
    | (go_at_call 28; go_must ((first | (with_reducible refine (C1.out _ (by first | exact hG | exact hG.drew | exact hG.drewN _)).mono ?_) | (with_reducible refine (C2.out _ (by first | exact hG | exact hG.drew | exact hG.drewN _)).mono ?_)); rintro e W3 ⟨rfl, hG⟩; have sd1 := (hG.cell ⟨gd, kd, none⟩).trans d1; have sd2 := (hG.frozen ⟨gd, kd, none⟩).trans d2))
    )
  have HX := Lib.hid (HPUT.out W3 x (HP.out.1.next (hG.below _)))
  have HB := Lib.hid (HP.out.2.trans (hG.below lo))
  clear HS0 HS1 C1 C2 HPUT HP
  go_wp2
  go_ret
  rw [HXX.out]
  exact ⟨rfl, HX.out.1, HB.out.trans HX.out.2⟩

end Go.Proofs.Ytcimjghejclknaa
