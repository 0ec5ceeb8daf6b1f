/-
  The program's Instr.
-/
import Derived.Test.YtcindgaonaloeaaSrcFld
import Derived.Test.YtcindgaonaloeaaOpcOf
import Derived.Test.YtcindgaonaloeaaMem
namespace Go.Proofs.Ytcindgaonaloeaa
open Go.RowKit
set_option linter.unusedVariables false

theorem sees_new' {W : World} {p : Nat} (hp : W.heap.size = p) (cs : Array Value) (t : TypeId) {xs : List Value} (hx : xs = cs.toList) : Sees (W.alloc (.cells cs t)) (p + 1) (some ⟨p, 0, none⟩) xs := by
  subst hp
  subst hx
  exact sees_new W cs t
theorem Row.new' {W : World} {p : Nat} (hp : W.heap.size = p) (T : TypeId) (cs : Array Value) : Row (W.alloc (.cells cs T)) p T cs := by
  subst hp
  exact Row.new W T cs

/-- Fields laid one behind the other, and what a later world still shows of them. -/
theorem rows5 {W1 W3 : World} {s0 f0 f1 f2 f3 g : Array Value} {ts t : TypeId} (hb : Below ((((((W1.alloc (.cells s0 ts)).alloc (.cells f0 t)).alloc (.cells f1 t)).alloc (.cells f2 t)).alloc (.cells f3 t)).alloc (.cells g t)).heap.size ((((((W1.alloc (.cells s0 ts)).alloc (.cells f0 t)).alloc (.cells f1 t)).alloc (.cells f2 t)).alloc (.cells f3 t)).alloc (.cells g t)) W3) :
    (∀ i, W3.cell? ⟨W1.heap.size + 1, i, none⟩ = f0[i]?) ∧ (∀ i, W3.cell? ⟨W1.heap.size + 1 + 1, i, none⟩ = f1[i]?) ∧ (∀ i, W3.cell? ⟨W1.heap.size + 1 + 1 + 1, i, none⟩ = f2[i]?) ∧ (∀ i, W3.cell? ⟨W1.heap.size + 1 + 1 + 1 + 1, i, none⟩ = f3[i]?) ∧ Below W1.heap.size W1 W3 := by
  have r0 := (((((Row.new' (W := W1.alloc (.cells s0 ts)) (p := W1.heap.size + 1) (by simp) t f0).alloc (.cells f1 t)).alloc (.cells f2 t)).alloc (.cells f3 t)).alloc (.cells g t)).below hb (by simp)
  have r1 := ((((Row.new' (W := (W1.alloc (.cells s0 ts)).alloc (.cells f0 t)) (p := W1.heap.size + 1 + 1) (by simp) t f1).alloc (.cells f2 t)).alloc (.cells f3 t)).alloc (.cells g t)).below hb (by simp)
  have r2 := (((Row.new' (W := ((W1.alloc (.cells s0 ts)).alloc (.cells f0 t)).alloc (.cells f1 t)) (p := W1.heap.size + 1 + 1 + 1) (by simp) t f2).alloc (.cells f3 t)).alloc (.cells g t)).below hb (by simp)
  have r3 := ((Row.new' (W := (((W1.alloc (.cells s0 ts)).alloc (.cells f0 t)).alloc (.cells f1 t)).alloc (.cells f2 t)) (p := W1.heap.size + 1 + 1 + 1 + 1) (by simp) t f3).alloc (.cells g t)).below hb (by simp)
  refine ⟨r0.cell, r1.cell, r2.cell, r3.cell, ?_⟩
  have h0 := ((((((Below.refl W1.heap.size W1).alloc (Nat.le_refl _) (.cells s0 ts)).alloc (by simp) (.cells f0 t)).alloc (by simp; omega) (.cells f1 t)).alloc (by simp; omega) (.cells f2 t)).alloc (by simp; omega) (.cells f3 t)).alloc (by simp; omega) (.cells g t)
  exact h0.trans (hb.mono h0.size)

set_option maxRecDepth 100000 in
set_option maxHeartbeats 1000000 in
theorem instr_any (x : In) (regs : Int) (w : World) :
    Calls Try.prog 40 #[.agg #[.int .i64 x.op, .int .i64 x.d, .int .i64 x.a, .int .i64 x.b, .int .i64 x.imm], .int .i64 regs] w fun e w' => e = .returned (.int .i64 (eI x regs)) ∧ Below w.heap.size w w' := by
  have hbox := Row.new w 56 #[.int .i64 x.op, .int .i64 x.d, .int .i64 x.a, .int .i64 x.b, .int .i64 x.imm]
  have HB := Lib.hid ((Below.refl w.heap.size w).alloc (Nat.le_refl _) (.cells #[.int .i64 x.op, .int .i64 x.d, .int .i64 x.a, .int .i64 x.b, .int .i64 x.imm] 56))
  cases hO : srcO x.op
  · have HE : Hid (eI x regs = 8) := by rw [Hid, eI, hO]; rfl
    have HO := Lib.hid hO
    clear hO hbox
    go_enter Try.func40, Try.ntmps40
    go_wp2_with fail
    refine (source_any x.op false _ HO.out).mono ?_
    rintro e w' ⟨rfl, rfl⟩
    go_wp2
    go_ret
    exact ⟨by rw [HE.out]; rfl, HB.out⟩
  · have HO := Lib.hid hO
    have HE : Hid (eI x regs = if okR regs x.regF then if okZ x.allF then 0 else 12 else 9) := by rw [Hid, eI, hO]; rfl
    obtain ⟨d, hd⟩ : ∃ z, uD x.op = z := ⟨_, rfl⟩
    obtain ⟨a, ha⟩ : ∃ z, uA x.op = z := ⟨_, rfl⟩
    obtain ⟨b, hb⟩ : ∃ z, uB x.op = z := ⟨_, rfl⟩
    obtain ⟨i, hi⟩ : ∃ z, uI x.op = z := ⟨_, rfl⟩
    have HR : Hid (x.regF = [(d, x.d), (a, x.a), (b, x.b)]) := by rw [Hid, In.regF, hd, ha, hb]
    have HZ : Hid (x.allF = [(d, x.d), (a, x.a), (b, x.b), (i, x.imm)]) := by rw [Hid, In.allF, hd, ha, hb, hi]
    have HF := Lib.hid fun W => of_at x.op d a b i (uO x.op) W hd ha hb hi rfl
    clear hO hd ha hb hi
    go_enter Try.func40, Try.ntmps40
    go_wp2_with fail
    refine (source_any x.op true _ HO.out).mono ?_
    rintro e w' ⟨rfl, rfl⟩
    go_wp2_with fail
    refine (HF.out _).mono ?_
    rintro e W1 ⟨rfl, hb1⟩
    have hr1 := hbox.below hb1 hbox.lt
    have HB1 := Lib.hid (HB.out.trans (hb1.mono HB.out.size))
    have hl1 : w.heap.size < W1.heap.size := hr1.lt
    have hl2 : w.heap.size < W1.heap.size + 1 := by omega
    have hl3 : w.heap.size < W1.heap.size + 1 + 1 := by omega
    have hl4 : w.heap.size < W1.heap.size + 1 + 1 + 1 := by omega
    have hl5 : w.heap.size < W1.heap.size + 1 + 1 + 1 + 1 := by omega
    have c0 := hr1.cell 0; have c1 := hr1.cell 1; have c2 := hr1.cell 2; have c3 := hr1.cell 3; have c4 := hr1.cell 4
    simp only [List.getElem?_toArray, List.getElem?_cons_zero, List.getElem?_cons_succ] at c0 c1 c2 c3 c4
    have H1 := Lib.hid hr1
    clear hr1 hb1 hbox
    go_wp2_with fail
    refine (inrange_any (W1.heap.size + 1 + 1 + 1 + 1 + 1 + 1) _ [(d, x.d), (a, x.a), (b, x.b)] 3 regs _ ?s1 ?s2 ?s3).mono ?_
    case s1 => exact sees_new' (by simp) _ _ rfl
    case s2 => simp
    case s3 => simp
    rintro e W3 ⟨rfl, hb3⟩
    obtain ⟨q0, q1, q2, q3, hb⟩ := rows5 hb3
    have HB3 := Lib.hid (HB1.out.trans (hb.mono HB1.out.size))
    have c0 := q0 0; have c1 := q0 1; have c2 := q1 0; have c3 := q1 1; have c4 := q2 0; have c5 := q2 1; have c6 := q3 0; have c7 := q3 1
    simp only [List.getElem?_toArray, List.getElem?_cons_zero, List.getElem?_cons_succ] at c0 c1 c2 c3 c4 c5 c6 c7
    clear q0 q1 q2 q3 hb hb3 hl1 hl2 hl3 hl4 hl5
    rw [← HR.out]
    cases hok : okR regs x.regF
    · have HE2 : Hid (eI x regs = 9) := by rw [Hid, HE.out, hok]; rfl
      clear hok
      go_wp2
      go_ret
      exact ⟨by rw [HE2.out]; rfl, HB3.out⟩
    · have HE2 : Hid (eI x regs = if okZ x.allF then 0 else 12) := by rw [Hid, HE.out, hok]; rfl
      clear hok
      go_wp2_with fail
      refine (unused_any (W3.heap.size + 1) _ [(d, x.d), (a, x.a), (b, x.b), (i, x.imm)] 4 _ ?s4 ?s5 ?s6).mono ?_
      case s4 => exact sees_new' rfl _ _ rfl
      case s5 => simp
      case s6 => simp
      rintro e W4 ⟨rfl, hb4⟩
      have hb5 := HB3.out.alloc HB3.out.size (.cells #[.bool d, .int .i64 x.d, .bool a, .int .i64 x.a, .bool b, .int .i64 x.b, .bool i, .int .i64 x.imm] 61)
      have HB4 := Lib.hid (hb5.trans (hb4.mono hb5.size))
      clear hb4 hb5
      rw [← HZ.out]
      cases hok : okZ x.allF
      · have HE3 : Hid (eI x regs = 12) := by rw [Hid, HE2.out, hok]; rfl
        clear hok
        go_wp2
        go_ret
        exact ⟨by rw [HE3.out]; rfl, HB4.out⟩
      · have HE3 : Hid (eI x regs = 0) := by rw [Hid, HE2.out, hok]; rfl
        clear hok
        go_wp2
        go_ret
        exact ⟨by rw [HE3.out]; rfl, HB4.out⟩

end Go.Proofs.Ytcindgaonaloeaa
