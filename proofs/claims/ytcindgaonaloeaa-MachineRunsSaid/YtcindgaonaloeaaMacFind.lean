/-
  The finder: newFinder, find, and the program's Instr.
-/
import Derived.Test.YtcindgaonaloeaaMacIns
import Derived.Deep.RegionWith
import Derived.Deep.RegionHeld3
import Derived.Deep.DeepMust
namespace Go.Proofs.Ytcindgaonaloeaa
open Go.RowKit
set_option linter.unusedVariables false

/-- The blocks p and q hold these numbers. -/
structure Fin2 (w : World) (p q : Nat) (regs slots : Int) : Prop where
  p : w.cell? ⟨p, 0, none⟩ = some (.int .i64 regs)
  q : w.cell? ⟨q, 0, none⟩ = some (.int .i64 slots)
theorem Fin2.lt {w : World} {p q : Nat} {regs slots : Int} (h : Fin2 w p q regs slots) : p < w.heap.size ∧ q < w.heap.size :=
  ⟨World.block_lt_of_cell? w _ h.p, World.block_lt_of_cell? w _ h.q⟩
theorem Fin2.below {w w' : World} {p q B : Nat} {regs slots : Int} (h : Fin2 w p q regs slots) (hb : Below B w w') (hp : p < B) (hq : q < B) : Fin2 w' p q regs slots :=
  ⟨(hb.cell (p := ⟨p, 0, none⟩) hp).trans h.p, (hb.cell (p := ⟨q, 0, none⟩) hq).trans h.q⟩
theorem Fin2.next {w w' : World} {p q : Nat} {regs slots : Int} (h : Fin2 w p q regs slots) (hb : Below w.heap.size w w') : Fin2 w' p q regs slots := h.below hb h.lt.1 h.lt.2

set_option maxRecDepth 100000 in
set_option maxHeartbeats 1000000 in
theorem find_any (x : Mi) (regs slots : Int) (p q : Nat) (w : World) (hx : x.Ok) (hf : Fin2 w p q regs slots) :
    Calls Try.prog 23 #[.agg #[.func (.func 28) #[] #[.pointer (some ⟨p, 0, none⟩), .pointer (some ⟨q, 0, none⟩)], .func (.func 30) #[] #[.pointer (some ⟨p, 0, none⟩)]], .agg #[.int .i64 x.op, .int .i64 x.d, .int .i64 x.a, .int .i64 x.b, .int .i64 x.imm, .int .i64 x.dst, .int .i64 x.src]] w fun e w' => e = .returned (.int .i64 (eM x regs slots)) ∧ Below w.heap.size w w' := by
  have HB := Lib.hid (((Below.refl w.heap.size w).alloc (Nat.le_refl _) (.cells #[.func (.func 28) #[] #[.pointer (some ⟨p, 0, none⟩), .pointer (some ⟨q, 0, none⟩)], .func (.func 30) #[] #[.pointer (some ⟨p, 0, none⟩)]] 49)).alloc (by simp) (.cells #[.int .i64 x.op, .int .i64 x.d, .int .i64 x.a, .int .i64 x.b, .int .i64 x.imm, .int .i64 x.dst, .int .i64 x.src] 27))
  have HR0 := Lib.hid ((Row.new w 49 #[.func (.func 28) #[] #[.pointer (some ⟨p, 0, none⟩), .pointer (some ⟨q, 0, none⟩)], .func (.func 30) #[] #[.pointer (some ⟨p, 0, none⟩)]]).alloc (.cells #[.int .i64 x.op, .int .i64 x.d, .int .i64 x.a, .int .i64 x.b, .int .i64 x.imm, .int .i64 x.dst, .int .i64 x.src] 27))
  have HR1 := Lib.hid (Row.new' (W := w.alloc (.cells #[.func (.func 28) #[] #[.pointer (some ⟨p, 0, none⟩), .pointer (some ⟨q, 0, none⟩)], .func (.func 30) #[] #[.pointer (some ⟨p, 0, none⟩)]] 49)) (p := w.heap.size + 1) (by simp) 27 #[.int .i64 x.op, .int .i64 x.d, .int .i64 x.a, .int .i64 x.b, .int .i64 x.imm, .int .i64 x.dst, .int .i64 x.src])
  have HF := Lib.hid hf
  have HE : Hid (eM x regs slots = if mopc x.op then if x.mv then eMv x regs slots else eOt x regs else 8) := rfl
  have HX := Lib.hid hx
  clear hf hx
  cases ho : mopc x.op
  · have HO := Lib.hid ho
    have HE2 : Hid (eM x regs slots = 8) := by rw [Hid, HE.out, ho]; rfl
    clear ho
    go_enter Try.func23, Try.ntmps23
    go_wp2_with fail
    refine (machine_any x.op false _ HO.out).mono ?_
    rintro e w' ⟨rfl, rfl⟩
    go_wp2
    go_ret
    exact ⟨by rw [HE2.out]; rfl, HB.out⟩
  · have HO := Lib.hid ho
    have HE2 : Hid (eM x regs slots = if x.mv then eMv x regs slots else eOt x regs) := by rw [Hid, HE.out, ho]; rfl
    clear ho
    go_enter Try.func23, Try.ntmps23
    go_wp2_with fail
    refine (machine_any x.op true _ HO.out).mono ?_
    rintro e w' ⟨rfl, rfl⟩
    go_wp2_with fail
    refine (ismove_any x _).mono ?_
    rintro e W1 ⟨rfl, hb⟩
    have HB1 := Lib.hid (HB.out.trans (hb.mono HB.out.size))
    have hr0 := HR0.out.below hb HR0.out.lt
    have hr1 := HR1.out.below hb HR1.out.lt
    have HF1 := Lib.hid (HF.out.next HB1.out)
    have f0 := hr0.cell 0; have f1 := hr0.cell 1
    have c0 := hr1.cell 0; have c1 := hr1.cell 1; have c2 := hr1.cell 2; have c3 := hr1.cell 3; have c4 := hr1.cell 4; have c5 := hr1.cell 5; have c6 := hr1.cell 6
    simp only [List.getElem?_toArray, List.getElem?_cons_zero, List.getElem?_cons_succ] at f0 f1 c0 c1 c2 c3 c4 c5 c6
    clear hb hr0 hr1
    cases hm : x.mv
    · have HE3 : Hid (eM x regs slots = eOt x regs) := by rw [Hid, HE2.out, hm]; rfl
      clear hm
      go_wp2_with fail
      refine (otherC x regs p _ HF1.out.p).mono ?_
      rintro e W2 ⟨rfl, hb⟩
      have HB2 := Lib.hid (HB1.out.trans (hb.mono HB1.out.size))
      clear hb
      go_wp2
      go_ret
      exact ⟨by rw [HE3.out]; rfl, HB2.out⟩
    · have HE3 : Hid (eM x regs slots = eMv x regs slots) := by rw [Hid, HE2.out, hm]; rfl
      clear hm
      go_wp2_with fail
      refine (moveC x regs slots p q _ HX.out HF1.out.p HF1.out.q).mono ?_
      rintro e W2 ⟨rfl, hb⟩
      have HB2 := Lib.hid (HB1.out.trans (hb.mono HB1.out.size))
      clear hb
      go_wp2
      go_ret
      exact ⟨by rw [HE3.out]; rfl, HB2.out⟩

set_option maxRecDepth 100000 in
set_option maxHeartbeats 1000000 in
theorem newfind_any (regs slots : Int) (w : World) :
    Calls Try.prog 20 #[.int .i64 regs, .int .i64 slots] w fun e w' => ∃ p q, e = .returned (.agg #[.func (.func 28) #[] #[.pointer (some ⟨p, 0, none⟩), .pointer (some ⟨q, 0, none⟩)], .func (.func 30) #[] #[.pointer (some ⟨p, 0, none⟩)]]) ∧ Fin2 w' p q regs slots ∧ w.heap.size ≤ p ∧ w.heap.size ≤ q ∧ Below w.heap.size w w' := by
  have hmf : ∀ (fn : Fn) (first cap : Array Value) (w : World), (Instr.makeFunc fn first cap).run Try.prog w = .ok (.func fn first cap) w := fun _ _ _ _ => rfl
  go_enter Try.func20, Try.ntmps20
  go_wp2
  (try simp only [Exit.inBlock, Exit.then])
  refine bodyPost_ret (v := .agg #[.func (.func 28) #[] #[.pointer (some ⟨w.heap.size, 0, none⟩), .pointer (some ⟨w.heap.size + 1, 0, none⟩)], .func (.func 30) #[] #[.pointer (some ⟨w.heap.size, 0, none⟩)]]) ?_ rfl ⟨w.heap.size, w.heap.size + 1, rfl, ⟨?_, ?_⟩, Nat.le_refl _, Nat.le_succ _, ?_⟩
  · exact results_cell_row rfl _ _ (w.heap.size + 1 + 1) 49 _ (0, 0) _ rfl (Row.new' (p := w.heap.size + 1 + 1) (by simp) _ _) Try.underlying49 rfl (by kernel_rfl)
  · exact (((Row.new w _ _).alloc _).alloc _).cell 0
  · exact ((Row.new' (p := w.heap.size + 1) (by simp) _ _).alloc _).cell 0
  · exact (((Below.refl w.heap.size w).alloc (Nat.le_refl _) _).alloc (by simp) _).alloc (by simp; omega) _

/-- What a walk carries that holds one instruction in its first block. -/
structure GI (w : World) (x : Mi) (W : World) : Prop where
  below : Below w.heap.size w W
  i : Row W w.heap.size 27 #[.int .i64 x.op, .int .i64 x.d, .int .i64 x.a, .int .i64 x.b, .int .i64 x.imm, .int .i64 x.dst, .int .i64 x.src]
section
variable {w : World} {x : Mi} {W W' : World}
theorem GI.next (h : GI w x W) (hb : Below W.heap.size W W') : GI w x W' := ⟨h.below.trans (hb.mono h.below.size), h.i.below hb h.i.lt⟩
theorem blw_drew (w : World) (n : Nat) : Below w.heap.size w (w.drewN n) := blw_drewN (Below.refl _ _) n
theorem GI.drewN (h : GI w x W) (n : Nat) : GI w x (W.drewN n) := h.next (blw_drew W n)
theorem GI.drew (h : GI w x W) : GI w x W.drew := h.drewN 1
theorem Fin2.drewN {p q : Nat} {regs slots : Int} (h : Fin2 W p q regs slots) (n : Nat) : Fin2 (W.drewN n) p q regs slots := h.next (blw_drew W n)
theorem Fin2.drew {p q : Nat} {regs slots : Int} (h : Fin2 W p q regs slots) : Fin2 W.drew p q regs slots := h.drewN 1
def GI.S (w : World) (x : Mi) (W : World) : Prop :=
  GI w x W ∧ W.cell? ⟨w.heap.size, 0, none⟩ = some (.int .i64 x.op) ∧ W.cell? ⟨w.heap.size, 1, none⟩ = some (.int .i64 x.d) ∧ W.cell? ⟨w.heap.size, 2, none⟩ = some (.int .i64 x.a) ∧ W.cell? ⟨w.heap.size, 3, none⟩ = some (.int .i64 x.b) ∧ W.cell? ⟨w.heap.size, 4, none⟩ = some (.int .i64 x.imm) ∧ W.cell? ⟨w.heap.size, 5, none⟩ = some (.int .i64 x.dst) ∧ W.cell? ⟨w.heap.size, 6, none⟩ = some (.int .i64 x.src)
theorem GI.cells (h : GI w x W) : GI.S w x W := ⟨h, h.i.cell 0, h.i.cell 1, h.i.cell 2, h.i.cell 3, h.i.cell 4, h.i.cell 5, h.i.cell 6⟩
end

theorem newfind_gi {x : Mi} {w : World} (regs slots : Int) (W : World) (h : GI w x W) :
    Calls Try.prog 20 #[.int .i64 regs, .int .i64 slots] W fun e w' => ∃ p q, e = .returned (.agg #[.func (.func 28) #[] #[.pointer (some ⟨p, 0, none⟩), .pointer (some ⟨q, 0, none⟩)], .func (.func 30) #[] #[.pointer (some ⟨p, 0, none⟩)]]) ∧ Fin2 w' p q regs slots ∧ GI w x w' :=
  (newfind_any regs slots W).mono fun e w' ⟨p, q, he, hf, hp, hq, hb⟩ => ⟨p, q, he, hf, h.next hb⟩

set_option maxRecDepth 100000 in
set_option maxHeartbeats 1000000 in
theorem minstr_any (x : Mi) (regs slots : Int) (w : World) (hx : x.Ok) :
    Calls Try.prog 13 #[.agg #[.int .i64 x.op, .int .i64 x.d, .int .i64 x.a, .int .i64 x.b, .int .i64 x.imm, .int .i64 x.dst, .int .i64 x.src], .int .i64 regs, .int .i64 slots] w fun e w' => e = .returned (.int .i64 (eM x regs slots)) ∧ Below w.heap.size w w' := by
  have hG : GI w x (w.alloc (.cells #[.int .i64 x.op, .int .i64 x.d, .int .i64 x.a, .int .i64 x.b, .int .i64 x.imm, .int .i64 x.dst, .int .i64 x.src] 27)) := ⟨(Below.refl w.heap.size w).alloc (Nat.le_refl _) _, Row.new w _ _⟩
  have C1 := Lib.hid fun W (h : GI w x W) => newfind_gi regs slots W h
  have C2 := Lib.hid fun p q W (h : GI w x W) (hf : Fin2 W p q regs slots) => (find_any x regs slots p q W hx hf).mono fun e w' ⟨he, hb⟩ => (⟨he, h.next hb⟩ : e = _ ∧ GI w x w')
  clear hx
  generalize eM x regs slots = v at *
  go_enter Try.func13, Try.ntmps13
  go_wp2_with fail
  go_region_held3 (fun w' => GI w x w' ∧ w'.cell? ⟨w.heap.size, 0, none⟩ = some (.int .i64 x.op) ∧ w'.cell? ⟨w.heap.size, 1, none⟩ = some (.int .i64 x.d) ∧ w'.cell? ⟨w.heap.size, 2, none⟩ = some (.int .i64 x.a) ∧ w'.cell? ⟨w.heap.size, 3, none⟩ = some (.int .i64 x.b) ∧ w'.cell? ⟨w.heap.size, 4, none⟩ = some (.int .i64 x.imm) ∧ w'.cell? ⟨w.heap.size, 5, none⟩ = some (.int .i64 x.dst) ∧ w'.cell? ⟨w.heap.size, 6, none⟩ = some (.int .i64 x.src)) (first | exact hG.cells | exact hG.drew.cells | exact (hG.drewN _).cells) (first
    | (go_at_call 20; go_must ((with_reducible refine (C1.out _ (by first | exact hG | exact hG.drew | exact hG.drewN _)).mono ?_); rintro e W3 ⟨p, q, rfl, hf, hG⟩))
    | (go_at_call 23; go_must ((with_reducible refine (C2.out p q _ (by first | exact hG | exact hG.drew | exact hG.drewN _) (by first | exact hf | exact hf.drew | exact hf.drewN _)).mono ?_); rintro e W3 ⟨rfl, hG⟩))
    )
  go_wp2
  go_ret
  exact ⟨rfl, hG.below⟩

end Go.Proofs.Ytcindgaonaloeaa
