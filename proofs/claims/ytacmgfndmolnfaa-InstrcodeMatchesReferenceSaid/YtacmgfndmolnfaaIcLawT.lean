/-
  The walk of InstrcodeTruncated.
-/
import Derived.Test.YtacmgfndmolnfaaIcAwake
import Derived.Test.YtacmgfndmolnfaaIcLaw
import Derived.Test.YtacmgfndmolnfaaIcEnc
import Derived.Test.YtacmgfndmolnfaaMacRef
import Derived.Test.YtacmgfndmolnfaaMacIn
namespace Go.Proofs.Ytacmgfndmolnfaa
open Go.RowKit
set_option linter.unusedVariables false

theorem u16_of17 {x : Int} (h : (Lit.int .u16 x).wf = true) : 0 ≤ x ∧ x ≤ 65535 := by
  simp [Lit.wf, IntKind.min, IntKind.max, IntKind.signed, IntKind.bits] at h
  omega
theorem u8_of17 {x : Int} (h : (Lit.int .u8 x).wf = true) : 0 ≤ x ∧ x ≤ 255 := by
  simp [Lit.wf, IntKind.min, IntKind.max, IntKind.signed, IntKind.bits] at h
  omega

theorem locS_rng {v r n : Int} (h : locS v r n = true) (hr : r ≤ 65535) (hn : n ≤ 65535) : 0 ≤ v ∧ v ≤ 1000000 := by
  have h0 := locS_nn h
  unfold locS at h
  rw [if_neg (by omega)] at h
  split at h
  · have := of_decide_eq_true h; omega
  · have := of_decide_eq_true h; omega
/-- A valid instruction's numbers are small. -/
theorem MOk.rng {r n : Int} {m : Mi} (h : MOk r n m) (hr : r ≤ 65535) (hn : n ≤ 65535) :
    (0 ≤ m.d ∧ m.d ≤ 1000000) ∧ (0 ≤ m.a ∧ m.a ≤ 1000000) ∧ (0 ≤ m.b ∧ m.b ≤ 1000000) ∧ (0 ≤ m.dst ∧ m.dst ≤ 1000000) ∧ (0 ≤ m.src ∧ m.src ≤ 1000000) := by
  have h1 := fR_iff.1 h.r1
  have h2 := fR_iff.1 h.r2
  have h3 := fR_iff.1 h.r3
  have z1 := fZ_iff.1 h.z1
  have z2 := fZ_iff.1 h.z2
  have z3 := fZ_iff.1 h.z3
  have l1 := h.l1
  have l2 := h.l2
  refine ⟨?_, ?_, ?_, ?_, ?_⟩
  · cases hb : uD m.op
    · rw [z1 hb]; decide
    · have := h1 hb; omega
  · cases hb : uA m.op
    · rw [z2 hb]; decide
    · have := h2 hb; omega
  · cases hb : uB m.op
    · rw [z3 hb]; decide
    · have := h3 hb; omega
  · cases hb : (m.op == 18)
    · rw [l1.2 hb]; decide
    · exact locS_rng (l1.1 hb) hr hn
  · cases hb : (m.op == 18)
    · rw [l2.2 hb]; decide
    · exact locS_rng (l2.1 hb) hr hn
theorem encO_byt {b : Bool} {v : Int} (h : v ≤ 18446744073709551615) : Byt (encO b v) := by
  unfold encO
  split
  · exact putS_byt _ (by have : (18446744073709551616 : Nat) < 128 ^ 10 := by decide
                         omega)
  · intro x hx; cases hx
theorem encO_len {b : Bool} {v : Int} : (encO b v).length ≤ 10 := by
  have := len_enc (l := []) (n := 0) (by simp) (b := b) (v := v)
  simpa using this
theorem encM_len (m : Mi) : 0 < (encM m).length ∧ (encM m).length ≤ 61 := by
  unfold encM
  have h1 := encO_len (b := uD m.op) (v := m.d)
  have h2 := encO_len (b := uA m.op) (v := m.a)
  have h3 := encO_len (b := uB m.op) (v := m.b)
  have h4 := encO_len (b := m.op == 1) (v := zz m.imm)
  have h5 := encO_len (b := m.op == 18) (v := m.dst)
  have h6 := encO_len (b := m.op == 18) (v := m.src)
  simp only [List.length_cons, List.length_append]
  omega
theorem encM_byt {r n : Int} {m : Mi} (h : MOk r n m) (hr : r ≤ 65535) (hn : n ≤ 65535) (ho : m.op ≤ 18) (hi : InI m.imm) : Byt (encM m) := by
  obtain ⟨h1, h2, h3, h4, h5⟩ := h.rng hr hn
  have hz := zz_in hi
  unfold InU at hz
  have hc : ∀ {a b : List Nat}, Byt a → Byt b → Byt (a ++ b) := fun ha hb x hx => (List.mem_append.1 hx).elim (ha x) (hb x)
  unfold encM
  intro x hx
  rcases List.mem_cons.1 hx with rfl | hx
  · omega
  · exact hc (encO_byt (by omega)) (hc (encO_byt (by omega)) (hc (encO_byt (by omega)) (hc (encO_byt (by omega)) (hc (encO_byt (by omega)) (encO_byt (by omega)))))) x hx

set_option maxRecDepth 100000 in
set_option maxHeartbeats 4000000 in
theorem InstrcodeTruncated_walk (a0 : Array Value) (a1 a2 a3 : Int) (w : World) (w0 : IsMi w a0) (w1 : (Lit.int .u16 a1).wf = true) (w2 : (Lit.int .u16 a2).wf = true) (w3 : (Lit.int .u8 a3).wf = true) :
    Calls Try.prog 6 #[.agg a0, .int .u16 a1, .int .u16 a2, .int .u8 a3] w fun e w' => e = .returned (.bool true) ∧ Below w.heap.size w w' := by
  obtain ⟨x, rfl, hx⟩ := w0
  obtain ⟨r0, r1⟩ := u16_of17 w1
  obtain ⟨s0, s1⟩ := u16_of17 w2
  obtain ⟨k0, k1⟩ := u8_of17 w3
  clear w1 w2 w3
  have hrow := Row.new w 34 #[.int .i64 x.op, .int .i64 x.d, .int .i64 x.a, .int .i64 x.b, .int .i64 x.imm, .int .i64 x.dst, .int .i64 x.src]
  have HB := Lib.hid ((Below.refl w.heap.size w).alloc (Nat.le_refl _) (.cells #[.int .i64 x.op, .int .i64 x.d, .int .i64 x.a, .int .i64 x.b, .int .i64 x.imm, .int .i64 x.dst, .int .i64 x.src] 34))
  go_enter Try.func6, Try.ntmps6
  go_wp2_with fail
  refine (awake17_any _).mono ?_
  rintro e W1 ⟨rfl, hb⟩
  have HB1 := Lib.hid (HB.out.trans (hb.mono HB.out.size))
  have h1 := hrow.below hb hrow.lt
  have p0 := h1.cell 0; have p1 := h1.cell 1; have p2 := h1.cell 2; have p3 := h1.cell 3; have p4 := h1.cell 4; have p5 := h1.cell 5; have p6 := h1.cell 6
  simp only [List.getElem?_toArray, List.getElem?_cons_zero, List.getElem?_cons_succ] at p0 p1 p2 p3 p4 p5 p6
  have R1 := Lib.hid h1
  clear hb h1 hrow HB
  have C1 := Lib.hid (rminstr_any x a1 a2 W1 hx.ok)
  by_cases hv : eM x a1 a2 = 0
  · rw [hv] at C1
    obtain ⟨⟨o1, o2, o3⟩, hok⟩ := eM_iff.1 hv
    have hin : InI x.imm := i64_of_wf hx.2.2.2.2.1
    obtain ⟨g1, g2, g3, g4, g5⟩ := hok.rng r1 s1
    have C2 := Lib.hid fun W => rputm17_any (w := W) (m := x) ⟨by omega, by omega⟩ hin (fun _ => ⟨g1.1, by omega⟩) (fun _ => ⟨g2.1, by omega⟩) (fun _ => ⟨g3.1, by omega⟩) (fun _ => ⟨g4.1, by omega⟩) (fun _ => ⟨g5.1, by omega⟩)
    have HBY := Lib.hid (encM_byt hok r1 s1 o2 hin)
    have HCUT := Lib.hid fun j (hj : j < (encM x).length) => machE_cut hv hin (by omega : a1 ≤ 1000000000) (by omega : a2 ≤ 1000000000) hj
    obtain ⟨l0, l1⟩ := encM_len x
    clear hv hok o1 o2 o3 g1 g2 g3 g4 g5 hin
    obtain ⟨l, hl⟩ : ∃ z, z = encM x := ⟨_, rfl⟩
    rw [← hl] at C2 HBY HCUT l0 l1
    clear hl hx
    go_wp2_with fail
    refine C1.out.mono ?_
    rintro e W2 ⟨rfl, hb⟩
    have HB2 := Lib.hid (HB1.out.trans (hb.mono HB1.out.size))
    have h2 := R1.out.below hb R1.out.lt
    clear p0 p1 p2 p3 p4 p5 p6
    have p0 := h2.cell 0; have p1 := h2.cell 1; have p2 := h2.cell 2; have p3 := h2.cell 3; have p4 := h2.cell 4; have p5 := h2.cell 5; have p6 := h2.cell 6
    simp only [List.getElem?_toArray, List.getElem?_cons_zero, List.getElem?_cons_succ] at p0 p1 p2 p3 p4 p5 p6
    clear hb h2 HB1 R1 C1
    go_wp2_with fail
    refine (C2.out _).mono ?_
    rintro e W3 ⟨A3, c3, rfl, ho, hb⟩
    have HB3 := Lib.hid (HB2.out.trans (hb.mono HB2.out.size))
    have HS := Lib.hid (Sees.of_own ho)
    have hc3 : l.length ≤ c3 := by
      obtain ⟨A, c, he, hc, _⟩ := own_slice ho (bts_length _)
      injection he with e1 e2 e3
      omega
    clear ho hb HB2 C2 p0 p1 p2 p3 p4 p5 p6
    have m0 : 0 ≤ a3 % (l.length : Int) := Int.emod_nonneg _ (by omega)
    have m1 : a3 % (l.length : Int) < (l.length : Int) := Int.emod_lt_of_pos _ (by omega)
    have m2 : a3 % (l.length : Int) ≤ (c3 : Int) := by omega
    go_wp2_with fail
    generalize (a3 % (l.length : Int)) = z at *
    obtain ⟨k, rfl⟩ : ∃ k : Nat, z = k := ⟨z.toNat, by omega⟩
    have hk : k < l.length := by omega
    have C4 := new_any A3 (l.take k) W3.heap.size c3 W3 (by have := HS.out.take (k := k); unfold bts at *; rwa [List.map_take]) (Nat.le_refl _) (fun x hx => HBY.out x (List.mem_of_mem_take hx)) (by rw [List.length_take]; omega)
    have hlk : (l.take k).length = k := by rw [List.length_take]; omega
    rw [hlk] at C4
    have HC := Lib.hid (HCUT.out k hk)
    clear HCUT HBY HS
    refine C4.mono ?_
    rintro e W4 ⟨p, A4, c4, rfl, hp, hc, hb⟩
    have HB4 := Lib.hid (HB3.out.trans (hb.mono HB3.out.size))
    have HP := Lib.hid hp
    have C5 := Lib.hid (picmach_any hc a1 a2 ⟨r0, r1⟩ ⟨s0, s1⟩ (m := Mi0) (t := ⟨[], 1⟩) (by rw [List.drop_zero]; exact HC.out))
    have HW3 := Lib.hid HB3.out.size
    clear hb hc hp HB3 HC C4
    go_wp2_with fail
    refine C5.out.mono ?_
    rintro e W5 ⟨rfl, hm, i5, hc5, _⟩
    have HB5 := Lib.hid ((HB4.out.trans (hm.below HB4.out.size (fun k hk => by unfold Is at hk; have := HP.out; have := HW3.out; omega))).alloc (Nat.le_trans HB4.out.size hm.size) (.cells #[.int .i64 0, .int .i64 0, .int .i64 0, .int .i64 0, .int .i64 0, .int .i64 0, .int .i64 0] 34))
    have HC5 := Lib.hid (hc5.alloc (.cells #[.int .i64 0, .int .i64 0, .int .i64 0, .int .i64 0, .int .i64 0, .int .i64 0, .int .i64 0] 34))
    clear hm hc5 HB4 C5
    simp only [Mi0]
    go_wp2_with fail
    refine (err_any HC5.out).mono ?_
    rintro e W6 ⟨rfl, rfl⟩
    go_wp2
    go_ret
    exact ⟨rfl, HB5.out⟩
  · have HV := Lib.hid hv
    go_wp2_with fail
    refine C1.out.mono ?_
    rintro e W2 ⟨rfl, hb⟩
    have HB2 := Lib.hid (HB1.out.trans (hb.mono HB1.out.size))
    clear hb HB1 C1 p0 p1 p2 p3 p4 p5 p6
    go_wp2_with fail
    refine (awake17_any _).mono ?_
    rintro e W3 ⟨rfl, hb⟩
    have HB3 := Lib.hid (HB2.out.trans (hb.mono HB2.out.size))
    go_wp2
    go_ret
    exact ⟨rfl, HB3.out⟩

end Go.Proofs.Ytacmgfndmolnfaa
