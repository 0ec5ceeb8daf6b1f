/-
  The reference of layer 17: the first byte.
-/
import Derived.Test.YtacmgfndmolnfaaIcNum
namespace Go.Proofs.Ytacmgfndmolnfaa
open Go.RowKit
set_option linter.unusedVariables false
set_option linter.unusedSimpArgs false

set_option maxRecDepth 100000 in
set_option maxHeartbeats 4000000 in
theorem rfirst_any {w : World} {B : Nat} {A : Option Addr} {c : Nat} {s : Ip} (most nt why : Int) (h : IpV w B A c s) (hB : B ≤ w.heap.size) (hw : why ≠ 0) :
    Calls Try.prog 47 #[.agg #[.slice A s.rest.length c, .int .i64 s.err], .int .i64 most, .int .i64 nt, .int .i64 why] w (RQ w B (firstE most nt why s).1 (firstE most nt why s).2) := by
  have hb1 := (Below.refl w.heap.size w).alloc (Nat.le_refl _) (.cells #[.slice A s.rest.length c, .int .i64 s.err] 28)
  have HB2 := Lib.hid (hb1.alloc hb1.size (.cells #[.slice none 0 0, .int .i64 0] 28))
  have hr1 := (Row.new w 28 #[.slice A s.rest.length c, .int .i64 s.err]).alloc (.cells #[.slice none 0 0, .int .i64 0] 28)
  have hr2 := Row.new (w.alloc (.cells #[.slice A s.rest.length c, .int .i64 s.err] 28)) 28 #[.slice none 0 0, .int .i64 0]
  simp only [World.size_alloc] at hr2
  have HI := Lib.hid h
  have HBB := Lib.hid hB
  have hmx : s.rest.length ≤ 9223372036854775807 := by have := h.sm; omega
  obtain ⟨y, hy⟩ : ∃ z, z = firstE most nt why s := ⟨_, rfl⟩
  rw [← hy]
  have HY := Lib.hid hy
  clear h hB hy hb1
  go_enter Try.func47, Try.ntmps47
  go_upto_region 1 with fail
  generalize ((w.alloc (.cells #[.slice A s.rest.length c, .int .i64 s.err] 28)).alloc (.cells #[.slice none 0 0, .int .i64 0] 28)) = W0 at *
  have HR2 := Lib.hid hr2
  have p0 := hr1.cell 0; have p1 := hr1.cell 1
  have pf0 := hr1.frozen 0; have pf1 := hr1.frozen 1
  simp only [List.getElem?_toArray, List.getElem?_cons_zero, List.getElem?_cons_succ] at p0 p1
  have q0 := hr2.cell 0; have q1 := hr2.cell 1
  have qf0 := hr2.frozen 0; have qf1 := hr2.frozen 1
  simp only [List.getElem?_toArray, List.getElem?_cons_zero, List.getElem?_cons_succ] at q0 q1
  clear hr1 hr2
  by_cases he : s.err ≠ 0
  · have d0 : (s.err != 0) = true := by simp [he]
    have HE : Hid (y = (0, s)) := by show _ = _; rw [HY.out]; unfold firstE; rw [if_pos he]
    clear he HY
    go_wp2_with fail
    go_region
    go_wp2
    have hb := ((HB2.out.setCell (p := ⟨w.heap.size + 1, 0, none⟩) (by show _ ≤ w.heap.size + 1; omega) (.slice A s.rest.length c)).setCell (p := ⟨w.heap.size + 1, 1, none⟩) (by show _ ≤ w.heap.size + 1; omega) (.int .i64 s.err)).drew
    (try simp only [Exit.inBlock, Exit.then])
    refine bodyPost_ret (v := .tuple #[.int .i64 0, .agg #[.slice A s.rest.length c, .int .i64 s.err]]) ?_ rfl ⟨A, c, ?_, ?_, ?_⟩
    · exact results_tmp_row rfl _ _ (w.heap.size + 1) 28 #[.slice A s.rest.length c, .int .i64 s.err] (0, 0) _ rfl rfl (((HR2.out.put 0 (.slice A s.rest.length c)).put 1 (.int .i64 s.err)).drew) Try.underlying28 rfl (by kernel_rfl)
    · rw [HE.out]
    · rw [HE.out]; exact HI.out.below (hb.mono HBB.out)
    · exact hb
  · have d0 : (s.err != 0) = false := by simpa using he
    obtain ⟨l, e⟩ := s
    dsimp only at *
    rcases l with _ | ⟨x, r⟩
    · have HE : Hid (y = (0, ⟨[], 1⟩)) := by show _ = _; rw [HY.out]; unfold firstE; rw [if_neg he]
      clear he HY hmx
      simp only [List.length_nil] at p0 ⊢
      go_wp2
      have hb := (HB2.out.setCell (p := ⟨w.heap.size + 1, 0, none⟩) (by show _ ≤ w.heap.size + 1; omega) (.slice none 0 0)).setCell (p := ⟨w.heap.size + 1, 1, none⟩) (by show _ ≤ w.heap.size + 1; omega) (.int .i64 1)
      (try simp only [Exit.inBlock, Exit.then])
      refine bodyPost_ret (v := .tuple #[.int .i64 0, .agg #[.slice none (⟨[], 1⟩ : Ip).rest.length 0, .int .i64 (⟨[], 1⟩ : Ip).err]]) ?_ rfl ⟨none, 0, ?_, ?_, ?_⟩
      · exact results_tmp_row rfl _ _ (w.heap.size + 1) 28 #[.slice none (⟨[], 1⟩ : Ip).rest.length 0, .int .i64 (⟨[], 1⟩ : Ip).err] (0, 0) _ rfl rfl ((HR2.out.put 0 (.slice none 0 0)).put 1 (.int .i64 1)) Try.underlying28 rfl (by kernel_rfl)
      · rw [HE.out]
      · rw [HE.out]; exact IpV.nil _ _ _
      · exact hb
    · have hx : x < 256 := HI.out.byt x (by simp)
      have HYN : Hid (y = if (x : Int) < 1 ∨ most < (x : Int) ∨ (x : Int) = nt then (0, ⟨[], why⟩) else ((x : Int), ⟨r, 0⟩)) := by show _ = _; rw [HY.out]; unfold firstE; rw [if_neg he]
      obtain ⟨b, o, rfl, hb, hc⟩ := HI.out.see (by simp [bts])
      have hc0 := (HB2.out.cell (p := ⟨b, o + 0, none⟩) (Nat.lt_of_lt_of_le hb HBB.out)).trans (hc 0 (.int .u8 (x : Int)) (by simp [bts]))
      rw [Nat.add_zero] at hc0
      obtain ⟨A2, hA2, hA3, hI2⟩ := HI.out.drop (n := 1) (by simp) 0
      have hle := HI.out.le
      have hcm := HI.out.cm
      dsimp only [List.drop_succ_cons, List.drop_zero] at hI2
      have hI2 : IpV w B A2 (c - 1) ⟨r, 0⟩ := hI2
      simp only [List.length_cons] at p0 hle ⊢
      have hite : (if c = 1 then some ⟨b, o, none⟩ else some (⟨b, o + 1, none⟩ : Addr)) = A2 := (hA2 b o rfl).symm
      obtain ⟨k, hk⟩ : ∃ z, z = r.length := ⟨_, rfl⟩
      rw [← hk] at p0 hle
      have HK := Lib.hid hk
      have hk9 : k ≤ 100000 := by have := HI.out.sm; simp at this; omega
      rw [show k + 1 = 1 + k by omega] at p0 hle
      clear hc hA2 hA3 he HY hk hmx
      unfold maxLen at hcm
      by_cases h1 : (x : Int) < 1
      · have HE : Hid (y = (0, ⟨[], why⟩)) := by show _ = _; rw [HYN.out, if_pos (.inl h1)]
        go_wp2
        have hb := (HB2.out.setCell (p := ⟨w.heap.size + 1, 0, none⟩) (by show _ ≤ w.heap.size + 1; omega) (.slice none 0 0)).setCell (p := ⟨w.heap.size + 1, 1, none⟩) (by show _ ≤ w.heap.size + 1; omega) (.int .i64 why)
        (try simp only [Exit.inBlock, Exit.then])
        refine bodyPost_ret (v := .tuple #[.int .i64 0, .agg #[.slice none (⟨[], why⟩ : Ip).rest.length 0, .int .i64 (⟨[], why⟩ : Ip).err]]) ?_ rfl ⟨none, 0, ?_, ?_, ?_⟩
        · exact results_tmp_row rfl _ _ (w.heap.size + 1) 28 #[.slice none (⟨[], why⟩ : Ip).rest.length 0, .int .i64 (⟨[], why⟩ : Ip).err] (0, 0) _ rfl rfl ((HR2.out.put 0 (.slice none 0 0)).put 1 (.int .i64 why)) Try.underlying28 rfl (by kernel_rfl)
        · rw [HE.out]
        · rw [HE.out]; exact IpV.nil _ _ _
        · exact hb
      · by_cases h2 : most < (x : Int)
        · have HE : Hid (y = (0, ⟨[], why⟩)) := by show _ = _; rw [HYN.out, if_pos (.inr (.inl h2))]
          have d1 : decide ((x : Int) < 1) = false := by simpa using h1
          go_wp2
          have hb := (HB2.out.setCell (p := ⟨w.heap.size + 1, 0, none⟩) (by show _ ≤ w.heap.size + 1; omega) (.slice none 0 0)).setCell (p := ⟨w.heap.size + 1, 1, none⟩) (by show _ ≤ w.heap.size + 1; omega) (.int .i64 why)
          (try simp only [Exit.inBlock, Exit.then])
          refine bodyPost_ret (v := .tuple #[.int .i64 0, .agg #[.slice none (⟨[], why⟩ : Ip).rest.length 0, .int .i64 (⟨[], why⟩ : Ip).err]]) ?_ rfl ⟨none, 0, ?_, ?_, ?_⟩
          · exact results_tmp_row rfl _ _ (w.heap.size + 1) 28 #[.slice none (⟨[], why⟩ : Ip).rest.length 0, .int .i64 (⟨[], why⟩ : Ip).err] (0, 0) _ rfl rfl ((HR2.out.put 0 (.slice none 0 0)).put 1 (.int .i64 why)) Try.underlying28 rfl (by kernel_rfl)
          · rw [HE.out]
          · rw [HE.out]; exact IpV.nil _ _ _
          · exact hb
        · by_cases h3 : (x : Int) = nt
          · have HE : Hid (y = (0, ⟨[], why⟩)) := by show _ = _; rw [HYN.out, if_pos (.inr (.inr h3))]
            have d1 : decide ((x : Int) < 1) = false := by simpa using h1
            have d2 : decide (most < (x : Int)) = false := by simpa using h2
            have d3 : ((x : Int) == nt) = true := by simp [h3]
            clear h3
            go_wp2
            have hb := (HB2.out.setCell (p := ⟨w.heap.size + 1, 0, none⟩) (by show _ ≤ w.heap.size + 1; omega) (.slice none 0 0)).setCell (p := ⟨w.heap.size + 1, 1, none⟩) (by show _ ≤ w.heap.size + 1; omega) (.int .i64 why)
            (try simp only [Exit.inBlock, Exit.then])
            refine bodyPost_ret (v := .tuple #[.int .i64 0, .agg #[.slice none (⟨[], why⟩ : Ip).rest.length 0, .int .i64 (⟨[], why⟩ : Ip).err]]) ?_ rfl ⟨none, 0, ?_, ?_, ?_⟩
            · exact results_tmp_row rfl _ _ (w.heap.size + 1) 28 #[.slice none (⟨[], why⟩ : Ip).rest.length 0, .int .i64 (⟨[], why⟩ : Ip).err] (0, 0) _ rfl rfl ((HR2.out.put 0 (.slice none 0 0)).put 1 (.int .i64 why)) Try.underlying28 rfl (by kernel_rfl)
            · rw [HE.out]
            · rw [HE.out]; exact IpV.nil _ _ _
            · exact hb
          · have HE : Hid (y = ((x : Int), ⟨r, 0⟩)) := by show _ = _; rw [HYN.out, if_neg (by omega)]
            have d1 : decide ((x : Int) < 1) = false := by simpa using h1
            have d2 : decide (most < (x : Int)) = false := by simpa using h2
            have d3 : ((x : Int) == nt) = false := by simp [h3]
            clear h3 HYN
            go_wp2_with fail
            go_region
            go_wp2
            obtain rfl : k = r.length := HK.out
            have hb := ((HB2.out.setCell (p := ⟨w.heap.size + 1, 0, none⟩) (by show _ ≤ w.heap.size + 1; omega) (.slice A2 r.length (c - 1))).setCell (p := ⟨w.heap.size + 1, 1, none⟩) (by show _ ≤ w.heap.size + 1; omega) (.int .i64 0)).drew
            (try simp only [Exit.inBlock, Exit.then])
            refine bodyPost_ret (v := .tuple #[.int .i64 (x : Int), .agg #[.slice A2 (⟨r, 0⟩ : Ip).rest.length (c - 1), .int .i64 (⟨r, 0⟩ : Ip).err]]) ?_ rfl ⟨A2, (c - 1), ?_, ?_, ?_⟩
            · exact results_tmp_row rfl _ _ (w.heap.size + 1) 28 #[.slice A2 (⟨r, 0⟩ : Ip).rest.length (c - 1), .int .i64 (⟨r, 0⟩ : Ip).err] (0, 0) _ rfl rfl (((HR2.out.put 0 (.slice A2 r.length (c - 1))).put 1 (.int .i64 0)).drew) Try.underlying28 rfl (by kernel_rfl)
            · rw [HE.out]
            · rw [HE.out]; exact hI2.below (hb.mono HBB.out)
            · exact hb

end Go.Proofs.Ytacmgfndmolnfaa
