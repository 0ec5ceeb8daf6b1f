/-
  The program's compute and perform.
-/
import Derived.Test.YtcimjghejclknaaExEmit
namespace Go.Proofs.Ytcimjghejclknaa
open Go.RowKit
set_option linter.unusedVariables false
set_option linter.unusedSimpArgs false

/-- What compute and perform carry: the run and the instruction's box. -/
structure CW (w0 : World) (i : Mi) (lo q : Nat) (T : TypeId) (ex : List Value) (RA : Option Addr) (rc : Nat) (SA : Option Addr) (sc : Nat) (TA : Option Addr) (tc : Nat) (r : Xn) (W : World) : Prop where
  xp : Xp W lo q T ex RA rc SA sc TA tc r
  below : Below lo w0 W
  bx : Row W w0.heap.size 52 #[.int .i64 i.op, .int .i64 i.d, .int .i64 i.a, .int .i64 i.b, .int .i64 i.imm, .int .i64 i.dst, .int .i64 i.src]
section
variable {w0 w w' : World} {i : Mi} {lo q : Nat} {T : TypeId} {ex : List Value} {RA SA TA : Option Addr} {rc sc tc : Nat} {r : Xn}
theorem CW.next (h : CW w0 i lo q T ex RA rc SA sc TA tc r w) (hb : Below w.heap.size w w') : CW w0 i lo q T ex RA rc SA sc TA tc r w' :=
  ⟨h.xp.next hb, h.below.trans (hb.mono (by have := h.xp.row.lt; have := h.xp.lt; omega)), h.bx.below hb h.bx.lt⟩
theorem CW.drewN (h : CW w0 i lo q T ex RA rc SA sc TA tc r w) (n : Nat) : CW w0 i lo q T ex RA rc SA sc TA tc r (w.drewN n) := h.next (blw_drewN (Below.refl _ _) n)
theorem CW.drew (h : CW w0 i lo q T ex RA rc SA sc TA tc r w) : CW w0 i lo q T ex RA rc SA sc TA tc r w.drew := h.drewN 1
theorem CW.start (h : Xp w lo q T ex RA rc SA sc TA tc r) (i : Mi) : CW w i lo q T ex RA rc SA sc TA tc r (w.alloc (.cells #[.int .i64 i.op, .int .i64 i.d, .int .i64 i.a, .int .i64 i.b, .int .i64 i.imm, .int .i64 i.dst, .int .i64 i.src] 52)) :=
  have hb := (Below.refl w.heap.size w).alloc (Nat.le_refl _) (.cells #[.int .i64 i.op, .int .i64 i.d, .int .i64 i.a, .int .i64 i.b, .int .i64 i.imm, .int .i64 i.dst, .int .i64 i.src] 52)
  ⟨h.next hb, hb.mono (by have := h.row.lt; have := h.lt; omega), Row.new _ _ _⟩
end

set_option maxRecDepth 100000 in
set_option maxHeartbeats 4000000 in
theorem xcomp_any (i : Mi) (r : Xn) (lo q : Nat) (ex : List Value) (RA SA TA : Option Addr) (rc sc tc : Nat) (w : World) (hI : Xp w lo q exT ex RA rc SA sc TA tc r) (ha0 : 0 ≤ i.a) (ha1 : i.a < r.regs.length) (hd0 : 0 ≤ i.d) (hd1 : i.d < r.regs.length) (hb0 : 0 ≤ i.b) (hb1 : i.b < r.regs.length) (hw : ∀ v ∈ r.regs, InI v) (hrl : r.regs.length ≤ 1000000) :
    Calls Try.prog 44 #[.pointer (some ⟨q, 0, none⟩), .agg #[.int .i64 i.op, .int .i64 i.d, .int .i64 i.a, .int .i64 i.b, .int .i64 i.imm, .int .i64 i.dst, .int .i64 i.src]] w fun e w' => e = .returned (.bool (evo i.op (rg r.regs i.b))) ∧ Xp w' lo q exT ex RA rc SA sc TA tc (if evo i.op (rg r.regs i.b) = true then { r with regs := r.regs.set i.d.toNat (ev i.op (rg r.regs i.a) (rg r.regs i.b) i.imm) } else r) ∧ Below lo w w' := by
  have hG := CW.start hI i
  have hxa := hw _ (rg_mem ha0 ha1)
  have hxb := hw _ (rg_mem hb0 hb1)
  have hqw : q < w.heap.size := hI.row.lt
  obtain ⟨a, ha⟩ := Int.eq_ofNat_of_zero_le ha0
  obtain ⟨b, hb⟩ := Int.eq_ofNat_of_zero_le hb0
  obtain ⟨d, hd⟩ := Int.eq_ofNat_of_zero_le hd0
  obtain ⟨op, id, ia, ib, imm, dst, src⟩ := i
  dsimp only at *
  subst ha
  subst hb
  subst hd
  have han : a < r.regs.length := by omega
  have hbn : b < r.regs.length := by omega
  have hdn : d < r.regs.length := by omega
  rw [Int.toNat_natCast]
  obtain ⟨g, rfl, _⟩ := regs_at hI.v.regs han
  have HGC : Hid (∀ W, CW w ⟨op, (d : Int), (a : Int), (b : Int), imm, dst, src⟩ lo q exT ex (some ⟨g, 0, none⟩) rc SA sc TA tc r W → W.cell? ⟨w.heap.size, 0, none⟩ = some (.int .i64 op) ∧ W.cell? ⟨w.heap.size, 2, none⟩ = some (.int .i64 (a : Int)) ∧ W.cell? ⟨w.heap.size, 3, none⟩ = some (.int .i64 (b : Int)) ∧ W.cell? ⟨w.heap.size, 4, none⟩ = some (.int .i64 imm) ∧ W.cell? ⟨q, 4, none⟩ = some (.slice (some ⟨g, 0, none⟩) r.regs.length rc) ∧ W.cell? ⟨g, a, none⟩ = some (.int .i64 (rg r.regs (a : Int))) ∧ W.cell? ⟨g, b, none⟩ = some (.int .i64 (rg r.regs (b : Int)))) := fun W h =>
    ⟨h.bx.cell 0, h.bx.cell 2, h.bx.cell 3, h.bx.cell 4, h.xp.cells.2.2.2.2.1, h.xp.v.regc han, h.xp.v.regc hbn⟩
  have C1 := Lib.hid fun W (h : CW w ⟨op, (d : Int), (a : Int), (b : Int), imm, dst, src⟩ lo q exT ex (some ⟨g, 0, none⟩) rc SA sc TA tc r W) => (register_any a q g r.regs.length rc W (HGC.out _ h).2.2.2.2.1 han hrl).mono fun e w' ⟨he, n, hb⟩ => (⟨he, hb ▸ h.drewN n⟩ : e = _ ∧ CW w ⟨op, (d : Int), (a : Int), (b : Int), imm, dst, src⟩ lo q exT ex (some ⟨g, 0, none⟩) rc SA sc TA tc r w')
  have C2 := Lib.hid fun W (h : CW w ⟨op, (d : Int), (a : Int), (b : Int), imm, dst, src⟩ lo q exT ex (some ⟨g, 0, none⟩) rc SA sc TA tc r W) => (register_any b q g r.regs.length rc W (HGC.out _ h).2.2.2.2.1 hbn hrl).mono fun e w' ⟨he, n, hb⟩ => (⟨he, hb ▸ h.drewN n⟩ : e = _ ∧ CW w ⟨op, (d : Int), (a : Int), (b : Int), imm, dst, src⟩ lo q exT ex (some ⟨g, 0, none⟩) rc SA sc TA tc r w')
  have C3 := Lib.hid fun W (h : CW w ⟨op, (d : Int), (a : Int), (b : Int), imm, dst, src⟩ lo q exT ex (some ⟨g, 0, none⟩) rc SA sc TA tc r W) => (eval_any op (rg r.regs (a : Int)) (rg r.regs (b : Int)) imm W hxa hxb).mono fun e w' ⟨he, hb⟩ => (⟨he, h.next hb⟩ : e = _ ∧ CW w ⟨op, (d : Int), (a : Int), (b : Int), imm, dst, src⟩ lo q exT ex (some ⟨g, 0, none⟩) rc SA sc TA tc r w')
  have C4 := Lib.hid fun W (h : CW w ⟨op, (d : Int), (a : Int), (b : Int), imm, dst, src⟩ lo q exT ex (some ⟨g, 0, none⟩) rc SA sc TA tc r W) => (register_any d q g r.regs.length rc W (HGC.out _ h).2.2.2.2.1 hdn hrl).mono fun e w' ⟨he, n, hb⟩ => (⟨he, hb ▸ h.drewN n⟩ : e = _ ∧ CW w ⟨op, (d : Int), (a : Int), (b : Int), imm, dst, src⟩ lo q exT ex (some ⟨g, 0, none⟩) rc SA sc TA tc r w')
  have HST := Lib.hid fun W (v : Int) (h : CW w ⟨op, (d : Int), (a : Int), (b : Int), imm, dst, src⟩ lo q exT ex (some ⟨g, 0, none⟩) rc SA sc TA tc r W) => h.xp.setreg (v := v) hdn
  have HRF := Lib.hid fun W (h : CW w ⟨op, (d : Int), (a : Int), (b : Int), imm, dst, src⟩ lo q exT ex (some ⟨g, 0, none⟩) rc SA sc TA tc r W) => And.intro (h.xp.v.regc hdn) (own_frozen h.xp.v.regs (g := g) (k := d) rfl)
  clear hxa hxb ha0 ha1 hb0 hb1 hd0 hd1 hw hI
  go_enter Try.func44, Try.ntmps44
  generalize hV : rg r.regs (a : Int) = x at *
  generalize hY : rg r.regs (b : Int) = y at *
  generalize hE : ev op x y imm = v at *
  generalize hO : evo op y = ok at *
  have HV := Lib.hid (And.intro hV (And.intro hY (And.intro hE hO)))
  clear hV hY hE hO
  go_upto_region 1 with fail
  generalize w.alloc (.cells #[.int .i64 op, .int .i64 (d : Int), .int .i64 (a : Int), .int .i64 (b : Int), .int .i64 imm, .int .i64 dst, .int .i64 src] 52) = W0 at *
  obtain ⟨s1, s2, s3, s4, s5, s6, s7⟩ := HGC.out _ hG
  go_region_held3 (fun w' => w'.cell? ⟨w.heap.size, 0, none⟩ = some (.int .i64 op) ∧ w'.cell? ⟨w.heap.size, 2, none⟩ = some (.int .i64 (a : Int)) ∧ w'.cell? ⟨w.heap.size, 3, none⟩ = some (.int .i64 (b : Int)) ∧ w'.cell? ⟨w.heap.size, 4, none⟩ = some (.int .i64 imm) ∧ w'.cell? ⟨q, 4, none⟩ = some (.slice (some ⟨g, 0, none⟩) r.regs.length rc) ∧ w'.cell? ⟨g, a, none⟩ = some (.int .i64 x) ∧ w'.cell? ⟨g, b, none⟩ = some (.int .i64 y)) (first | exact HGC.out _ hG | exact HGC.out _ hG.drew | exact HGC.out _ (hG.drewN _)) (first
    | (go_at_call 47; go_must ((first | (with_reducible refine (C1.out _ (by first | exact hG | exact hG.drew | exact hG.drewN _)).mono ?_) | (with_reducible refine (C2.out _ (by first | exact hG | exact hG.drew | exact hG.drewN _)).mono ?_)); rintro e W3 ⟨rfl, hG⟩))
    | (go_at_call 52; go_must ((with_reducible refine (C3.out _ (by first | exact hG | exact hG.drew | exact hG.drewN _)).mono ?_); rintro e W3 ⟨rfl, hG⟩))
    )
  obtain ⟨hrc, hrf⟩ := HRF.out _ hG
  obtain ⟨_, _, _, _, q4, _⟩ := hG.xp.cells
  have b1 := hG.bx.cell 1
  simp only [List.getElem?_toArray, List.getElem?_cons_zero, List.getElem?_cons_succ] at b1
  have HG := Lib.hid hG
  have hgl : g < W3.heap.size := (ownS_lt hG.xp.v.regs g rfl).2
  clear HGC C1 C2 C3 HRF hG s1 s2 s3 s4 s5 s6 s7
  cases ok
  · clear C4 HST
    go_wp2
    go_ret
    exact ⟨rfl, HG.out.xp, HG.out.below⟩
  · go_wp2_with fail
    refine (C4.out _ HG.out).mono ?_
    rintro e W4 ⟨rfl, hG4⟩
    have hrc4 := hG4.xp.v.regc hdn
    have hrf4 := own_frozen hG4.xp.v.regs (g := g) (k := d) rfl
    have HX := Lib.hid (HST.out _ v hG4)
    have HB4 := Lib.hid hG4.below
    clear hG4 C4 HST HG
    go_wp2
    go_ret
    exact ⟨rfl, HX.out.1, HB4.out.trans HX.out.2⟩

end Go.Proofs.Ytcimjghejclknaa
