/-
  The reference of layer 17: a location.
-/
import Derived.Test.YtacmgfndmolnfaaIcNum
import Derived.Test.YtacmgfndmolnfaaPk1
namespace Go.Proofs.Ytacmgfndmolnfaa
open Go.RowKit
set_option linter.unusedVariables false
set_option linter.unusedSimpArgs false

set_option maxRecDepth 100000 in
set_option maxHeartbeats 4000000 in
theorem rloc_any {w : World} {B : Nat} {A : Option Addr} {c : Nat} {s : Ip} (r n : Int) (h : IpV w B A c s) (hB : B ≤ w.heap.size) :
    Calls Try.prog 76 #[.agg #[.slice A s.rest.length c, .int .i64 s.err], .int .i64 r, .int .i64 n] w (RQ w B (locE r n s).1 (locE r n s).2) := by
  have hb1 := (Below.refl w.heap.size w).alloc (Nat.le_refl _) (.cells #[.slice A s.rest.length c, .int .i64 s.err] 28)
  have HB2 := Lib.hid (hb1.alloc hb1.size (.cells #[.slice none 0 0, .int .i64 0] 28))
  have hr1 := (Row.new w 28 #[.slice A s.rest.length c, .int .i64 s.err]).alloc (.cells #[.slice none 0 0, .int .i64 0] 28)
  have hr2 := Row.new (w.alloc (.cells #[.slice A s.rest.length c, .int .i64 s.err] 28)) 28 #[.slice none 0 0, .int .i64 0]
  simp only [World.size_alloc] at hr2
  have C1 := Lib.hid (rnum_any 4611686018427387904 10 (h.below (HB2.out.mono hB)) (Nat.le_trans hB HB2.out.size) (by decide) (by decide) (by decide))
  have HBB := Lib.hid hB
  obtain ⟨y, hy⟩ : ∃ z, z = locE r n s := ⟨_, rfl⟩
  rw [← hy]
  have HY : Hid (y = if (numE 4611686018427387904 10 s).2.err = 0 ∧ locS (numE 4611686018427387904 10 s).1 r n = false then (0, ⟨[], 10⟩) else numE 4611686018427387904 10 s) := hy
  have HV : Hid (0 ≤ (numE 4611686018427387904 10 s).1 ∧ (numE 4611686018427387904 10 s).1 < 4611686018427387904) := by
    show _ ∧ _
    by_cases h9 : (numE 4611686018427387904 10 s).2.err = 0
    · obtain ⟨_, k2, k3, _⟩ := numE_ok h.byt (by decide) h9
      exact ⟨k2, k3⟩
    · have : (numE 4611686018427387904 10 s).1 = 0 := by
        unfold numE at h9 ⊢
        split
        · rfl
        · split
          · rfl
          · split
            · rfl
            · rename_i g1 g2 g3
              rw [if_neg g1, if_neg g2, if_neg g3] at h9
              exact absurd rfl h9
      rw [this]
      exact ⟨by decide, by decide⟩
  obtain ⟨⟨v, t⟩, hx⟩ : ∃ z, z = numE 4611686018427387904 10 s := ⟨_, rfl⟩
  rw [← hx] at C1 HY HV
  clear h hB hy hb1 hx
  have hv := HV.out
  dsimp only at C1 hv
  go_enter Try.func76, Try.ntmps76
  go_upto_region 1 with fail
  generalize ((w.alloc (.cells #[.slice A s.rest.length c, .int .i64 s.err] 28)).alloc (.cells #[.slice none 0 0, .int .i64 0] 28)) = W0 at *
  have HR2 := Lib.hid hr2
  have p0 := hr1.cell 0; have p1 := hr1.cell 1
  have pf0 := hr1.frozen 0; have pf1 := hr1.frozen 1
  simp only [List.getElem?_toArray, List.getElem?_cons_zero, List.getElem?_cons_succ] at p0 p1
  clear hr1 hr2
  go_wp2_with fail
  refine C1.out.mono ?_
  rintro e W1 ⟨A1, c1, rfl, hI, hb⟩
  have HB1 := Lib.hid (HB2.out.trans (hb.mono HB2.out.size))
  have HQ1 := Lib.hid (HR2.out.below hb HR2.out.lt)
  have HI1 := Lib.hid hI
  clear hb hI C1 HB2 HR2 p0 p1 pf0 pf1 HV
  go_upto_region 2 with fail
  have hrow := Row.new W1 28 #[.slice A1 t.rest.length c1, .int .i64 t.err]
  have hba := (Below.refl W1.heap.size W1).alloc (Nat.le_refl _) (.cells #[.slice A1 t.rest.length c1, .int .i64 t.err] 28)
  have HB3 := Lib.hid (HB1.out.trans (hba.mono HB1.out.size))
  have HR3 := Lib.hid (HQ1.out.below hba HQ1.out.lt)
  have HI3 := Lib.hid (HI1.out.below (hba.mono (Nat.le_trans HBB.out HB1.out.size)))
  have hne : ¬ W1.heap.size = w.heap.size + 1 := by have := HQ1.out.lt; omega
  clear hba HB1 HQ1 HI1
  generalize (W1.alloc (.cells #[.slice A1 t.rest.length c1, .int .i64 t.err] 28)) = W3 at *
  generalize W1.heap.size = b9 at *
  have p0 := hrow.cell 0; have p1 := hrow.cell 1
  have pf0 := hrow.frozen 0; have pf1 := hrow.frozen 1
  simp only [List.getElem?_toArray, List.getElem?_cons_zero, List.getElem?_cons_succ] at p0 p1
  have q0 := HR3.out.cell 0; have q1 := HR3.out.cell 1
  have qf0 := HR3.out.frozen 0; have qf1 := HR3.out.frozen 1
  simp only [List.getElem?_toArray, List.getElem?_cons_zero, List.getElem?_cons_succ] at q0 q1
  have hbw : Below w.heap.size W3 ((W3.setCell ⟨w.heap.size + 1, 0, none⟩ (.slice A1 t.rest.length c1)).setCell ⟨w.heap.size + 1, 1, none⟩ (.int .i64 t.err)).drew := (((Below.refl _ W3).setCell (p := ⟨w.heap.size + 1, 0, none⟩) (by show _ ≤ w.heap.size + 1; omega) (.slice A1 t.rest.length c1)).setCell (p := ⟨w.heap.size + 1, 1, none⟩) (by show _ ≤ w.heap.size + 1; omega) (.int .i64 t.err)).drew
  by_cases he : t.err = 0
  · have d0 : (t.err == 0) = true := by simp [he]
    have HEE := Lib.hid he
    clear he
    obtain ⟨lb, hlb⟩ : ∃ z, z = locS v r n := ⟨_, rfl⟩
    have C2 := Lib.hid (rlocin_any v r n W3 ⟨by omega, by omega⟩)
    rw [← hlb] at C2
    have HL := Lib.hid hlb
    clear hlb
    go_wp2_with fail
    refine C2.out.mono ?_
    rintro e W4 ⟨rfl, rfl⟩
    clear C2
    cases lb
    · have HE : Hid (y = (0, ⟨[], 10⟩)) := by show _ = _; rw [HY.out]; exact if_pos ⟨HEE.out, HL.out.symm⟩
      clear HY
      go_wp2
      have hb := (HB3.out.setCell (p := ⟨w.heap.size + 1, 0, none⟩) (by show _ ≤ w.heap.size + 1; omega) (.slice none 0 0)).setCell (p := ⟨w.heap.size + 1, 1, none⟩) (by show _ ≤ w.heap.size + 1; omega) (.int .i64 10)
      (try simp only [Exit.inBlock, Exit.then])
      refine bodyPost_ret (v := .tuple #[.int .i64 0, .agg #[.slice none (⟨[], 10⟩ : Ip).rest.length 0, .int .i64 (⟨[], 10⟩ : Ip).err]]) ?_ rfl ⟨none, 0, ?_, ?_, ?_⟩
      · exact results_tmp_row rfl _ _ (w.heap.size + 1) 28 #[.slice none (⟨[], 10⟩ : Ip).rest.length 0, .int .i64 (⟨[], 10⟩ : Ip).err] (0, 0) _ rfl rfl ((HR3.out.put 0 (.slice none 0 0)).put 1 (.int .i64 10)) Try.underlying28 rfl (by kernel_rfl)
      · rw [HE.out]
      · rw [HE.out]; exact IpV.nil _ _ _
      · exact hb
    · have HE : Hid (y = (v, t)) := by show _ = _; rw [HY.out]; exact if_neg fun hh => by have := HL.out; rw [hh.2] at this; cases this
      clear HY
      go_wp2_with fail
      go_region
      go_wp2
      have hb := ((HB3.out.setCell (p := ⟨w.heap.size + 1, 0, none⟩) (by show _ ≤ w.heap.size + 1; omega) (.slice A1 t.rest.length c1)).setCell (p := ⟨w.heap.size + 1, 1, none⟩) (by show _ ≤ w.heap.size + 1; omega) (.int .i64 t.err)).drew
      (try simp only [Exit.inBlock, Exit.then])
      refine bodyPost_ret (v := .tuple #[.int .i64 v, .agg #[.slice A1 t.rest.length c1, .int .i64 t.err]]) ?_ rfl ⟨A1, c1, ?_, ?_, ?_⟩
      · exact results_tmp_row rfl _ _ (w.heap.size + 1) 28 #[.slice A1 t.rest.length c1, .int .i64 t.err] (0, 0) _ rfl rfl (((HR3.out.put 0 (.slice A1 t.rest.length c1)).put 1 (.int .i64 t.err)).drew) Try.underlying28 rfl (by kernel_rfl)
      · rw [HE.out]
      · rw [HE.out]; exact HI3.out.below (hbw.mono HBB.out)
      · exact hb
  · have d0 : (t.err == 0) = false := by simp [he]
    have HE : Hid (y = (v, t)) := by show _ = _; rw [HY.out]; exact if_neg fun hh => he hh.1
    clear HY
    go_wp2_with fail
    go_region
    go_wp2
    have hb := ((HB3.out.setCell (p := ⟨w.heap.size + 1, 0, none⟩) (by show _ ≤ w.heap.size + 1; omega) (.slice A1 t.rest.length c1)).setCell (p := ⟨w.heap.size + 1, 1, none⟩) (by show _ ≤ w.heap.size + 1; omega) (.int .i64 t.err)).drew
    (try simp only [Exit.inBlock, Exit.then])
    refine bodyPost_ret (v := .tuple #[.int .i64 v, .agg #[.slice A1 t.rest.length c1, .int .i64 t.err]]) ?_ rfl ⟨A1, c1, ?_, ?_, ?_⟩
    · exact results_tmp_row rfl _ _ (w.heap.size + 1) 28 #[.slice A1 t.rest.length c1, .int .i64 t.err] (0, 0) _ rfl rfl (((HR3.out.put 0 (.slice A1 t.rest.length c1)).put 1 (.int .i64 t.err)).drew) Try.underlying28 rfl (by kernel_rfl)
    · rw [HE.out]
    · rw [HE.out]; exact HI3.out.below (hbw.mono HBB.out)
    · exact hb

end Go.Proofs.Ytacmgfndmolnfaa
