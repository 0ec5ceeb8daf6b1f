/-
  Code of the program.
-/
import Derived.Test.YtimmnnadoeagfaaAlLead
namespace Go.Proofs.Ytimmnnadoeagfaa
open Go.RowKit
set_option linter.unusedVariables false

theorem infoRow : (Try.prog.info? 45).map (fun i => (i.zero, i.size, i.bytes)) = some (some (.agg #[.int .i64 0, .int .i64 0, .int .i64 0, .int .i64 0, .int .i64 0, .int .i64 0]), 6, 48) := by kernel_rfl
theorem info_row : ∃ i : TypeInfo, Try.prog.info? 45 = some i ∧ i.zero = some (.agg #[.int .i64 0, .int .i64 0, .int .i64 0, .int .i64 0, .int .i64 0, .int .i64 0]) ∧ i.size = 6 ∧ i.bytes = 48 := by
  have h := infoRow
  rcases hi : Try.prog.info? 45 with _ | i
  · rw [hi] at h; simp at h
  · rw [hi] at h
    simp only [Option.map_some, Option.some.injEq, Prod.mk.injEq] at h
    exact ⟨i, rfl, h.1, h.2.1, h.2.2⟩

theorem rwl_one (a b c d e f : Int) : ∀ u ∈ (#[Value.int .i64 a, .int .i64 b, .int .i64 c, .int .i64 d, .int .i64 e, .int .i64 f] : Array Value).toList, u.oneCell' = true := fun u hu => by
  simp only [List.mem_cons, List.not_mem_nil, or_false] at hu
  rcases hu with rfl | rfl | rfl | rfl | rfl | rfl <;> rfl

theorem RL.aside {α : Type} {f : α → List Value} {s : Nat} {T : TypeId} {w wr : World} {v : Value} {l : List α} (h : RL f s T w v l wr) {q o : Nat} (hq : ∀ k, v.ownBlock = some k → ¬ k = q) (hB : w.heap.size ≤ q) (u : Value) : RL f s T w v l (wr.setCell ⟨q, o, none⟩ u) := by
  have hm : Mods (Is q) wr (wr.setCell ⟨q, o, none⟩ u) := (Mods.refl _ wr).put o u
  exact ⟨hm.ownS h.own fun k hk hs => hq k hk hs, h.blw.setCell (p := ⟨q, o, none⟩) hB u⟩
theorem RL.none {α : Type} {f : α → List Value} {s : Nat} {T : TypeId} {w wr : World} (hb : Below w.heap.size w wr) : RL f s T w (.slice none 0 0) ([] : List α) wr := (RL.nil w).next hb

theorem triple {α β γ : Type} {a a' : α} {b b' : β} {c c' : γ} (h : (a, b, c) = (a', b', c')) : a = a' ∧ b = b' ∧ c = c' := by
  injection h with h1 h2
  injection h2 with h2 h3
  exact ⟨h1, h2, h3⟩

/-- What Code returns. -/
def CodeP (T : TypeId) (w : World) (R : List Rw × Nat × Int) (e : Ending) (w' : World) : Prop := ∃ v, e = .returned (.tuple #[v, .int .i64 (R.2.1 : Nat), .int .i64 R.2.2]) ∧ RL Rw.cells 6 T w v R.1 w'

set_option maxRecDepth 100000 in
set_option maxHeartbeats 4000000 in
theorem alcode_any {A1 : Option Addr} {n1 c1 : Nat} {code : List In} {A2 : Option Addr} {n2 c2 : Nat} {mach : List Mi} {w : World} (h1 : CS w A1 n1 c1 code) (h2 : MS w A2 n2 c2 mach) (hm1 : n1 ≤ 100000) (hm2 : n2 ≤ 100000) :
    Calls Try.prog 9 #[.slice A1 n1 c1, .slice A2 n2 c2] w fun e w' => CodeP 45 w (alC code mach) e w' := by
  obtain ⟨i0, hi0, hz0, hz1, hz2⟩ := info_row
  have H1 := Lib.hid h1
  have H2 := Lib.hid h2
  have q1 := h1.cap; have q2 := h1.cmx; have q3 := h2.cap; have q4 := h2.cmx
  obtain ⟨R, HR0⟩ : ∃ R, Hid (alS code mach 0 0 [] = R) := ⟨_, rfl⟩
  rw [show alC code mach = R from HR0.out]
  have mixed : Try.prog.follows .mixedOrders = true := by kernel_rfl
  clear h1 h2
  go_enter Try.func9, Try.ntmps9
  go_wp2
  go_loopg [7, 8, 9] n1 (fun g v7 v8 v9 wr => ∃ (s m : Nat) (acc : List Rw), s + g = n1 ∧ m ≤ n2 ∧ v8 = .int .i64 s ∧ v9 = .int .i64 m ∧ acc.length ≤ s ∧ Hid (alS code mach s m acc = R) ∧ Hid (RL Rw.cells 6 45 w v7 acc wr))
  case atStart => exact ⟨0, 0, [], by omega, by omega, by go_num, by go_num, Nat.le_refl _, HR0.out, RL.nil w⟩
  case round =>
    clear HR0
    obtain ⟨s, m, acc, hg, hm, rfl, rfl, hla, HR, HP⟩ := hrel
    have hs : s ≤ n1 := by omega
    have C1 := Lib.hid (rowFrom_any A1 n1 c1 code A2 n2 c2 mach s m wr (H1.out.below HP.out.blw) (H2.out.below HP.out.blw) (by omega) (by omega) hs hm)
    have l1 := ld_le isC (code.drop s)
    have l2 := ld_le isM (mach.drop m)
    rw [List.length_drop, H1.out.len] at l1
    rw [List.length_drop, H2.out.len] at l2
    obtain ⟨ct, HCT⟩ : ∃ ct, Hid (ct = s + ld isC (code.drop s)) := ⟨_, rfl⟩
    obtain ⟨mt, HMT⟩ : ∃ mt, Hid (mt = m + ld isM (mach.drop m)) := ⟨_, rfl⟩
    rw [← HCT.out, ← HMT.out] at C1
    have hct : s ≤ ct ∧ ct ≤ n1 := by have := HCT.out; omega
    have hmt : m ≤ mt ∧ mt ≤ n2 := by have := HMT.out; omega
    clear l1 l2
    go_wp2_with fail
    refine C1.out.mono ?_
    rintro e W1 ⟨rfl, hb⟩
    have HP1 := Lib.hid ((HP.out.next hb).alloc (.cells #[.int .i64 (s : Int), .int .i64 (ct : Int), .int .i64 (m : Int), .int .i64 (mt : Int), .int .i64 (ct : Int), .int .i64 (mt : Int)] 45))
    have HR1 := Lib.hid (Row.new W1 45 #[.int .i64 (s : Int), .int .i64 (ct : Int), .int .i64 (m : Int), .int .i64 (mt : Int), .int .i64 (ct : Int), .int .i64 (mt : Int)])
    have HQ : Hid (∀ k, u7.ownBlock = some k → ¬ k = W1.heap.size) := fun k hk e => by
      have := (ownS_lt (HP.out.next hb).own k hk).2
      omega
    have hq : w.heap.size ≤ W1.heap.size := (HP.out.next hb).blw.size
    clear hb C1 HP
    go_upto_region 4 with fail
    generalize (W1.alloc (.cells #[.int .i64 (s : Int), .int .i64 (ct : Int), .int .i64 (m : Int), .int .i64 (mt : Int), .int .i64 (ct : Int), .int .i64 (mt : Int)] 45)) = W2 at *
    generalize W1.heap.size = q at *
    have f0 := HR1.out.cell 0; have f1 := HR1.out.cell 1; have f2 := HR1.out.cell 2; have f3 := HR1.out.cell 3; have f4 := HR1.out.cell 4; have f5 := HR1.out.cell 5
    simp only [List.getElem?_toArray, List.getElem?_cons_zero, List.getElem?_cons_succ] at f0 f1 f2 f3 f4 f5
    go_wp2_with fail
    go_quiet (fail)
    have HP3 := Lib.hid (HP1.out.next (blw_drewN (Below.refl _ _) nq))
    have HR3 := Lib.hid (HR1.out.drewN nq)
    clear f0 f1 f2 f3 f4 f5 HP1 HR1
    generalize W2.drewN nq = W3 at *
    by_cases h1 : ct = n1
    · have e1 : ((ct : Int) == (n1 : Int)) = true := by simp [h1]
      by_cases h2 : mt = n2
      · have e2 : ((mt : Int) == (n2 : Int)) = true := by simp [h2]
        have HE := Lib.hid (HR.out.symm.trans (alS_end (by rw [H1.out.len]; exact hs) (by rw [H2.out.len]; exact hm) HCT.out HMT.out (h1.trans H1.out.len.symm) (h2.trans H2.out.len.symm)))
        clear h1 h2 HR HCT HMT
        have f0 := HR3.out.cell 0; have f1 := HR3.out.cell 1; have f2 := HR3.out.cell 2; have f3 := HR3.out.cell 3; have f4 := HR3.out.cell 4; have f5 := HR3.out.cell 5
        simp only [List.getElem?_toArray, List.getElem?_cons_zero, List.getElem?_cons_succ] at f0 f1 f2 f3 f4 f5
        have g4 := HR3.out.frozen 4; have g5 := HR3.out.frozen 5
        go_upto_region 7 with fail
        have HR4 : Hid (Row ((W3.setCell ⟨q, 4, none⟩ (.int .i64 (-1))).setCell ⟨q, 5, none⟩ (.int .i64 (-1))) q 45 #[.int .i64 (s : Int), .int .i64 (ct : Int), .int .i64 (m : Int), .int .i64 (mt : Int), .int .i64 (-1), .int .i64 (-1)]) := Lib.hid ((HR3.out.put 4 (.int .i64 (-1))).put 5 (.int .i64 (-1)))
        have HP4 := Lib.hid ((HP3.out.aside (o := 4) HQ.out hq (.int .i64 (-1))).aside (o := 5) HQ.out hq (.int .i64 (-1)))
        clear f0 f1 f2 f3 f4 f5 g4 g5 HP3 HR3
        generalize ((W3.setCell ⟨q, 4, none⟩ (.int .i64 (-1))).setCell ⟨q, 5, none⟩ (.int .i64 (-1))) = W4 at *
        have f0 := HR4.out.cell 0; have f1 := HR4.out.cell 1; have f2 := HR4.out.cell 2; have f3 := HR4.out.cell 3; have f4 := HR4.out.cell 4; have f5 := HR4.out.cell 5
        simp only [List.getElem?_toArray, List.getElem?_cons_zero, List.getElem?_cons_succ] at f0 f1 f2 f3 f4 f5
        have hown := (HP4.out.alloc (.cells #[.int .i64 (s : Int), .int .i64 (ct : Int), .int .i64 (m : Int), .int .i64 (mt : Int), .int .i64 (-1), .int .i64 (-1)] 45)).own
        have hnew := sees_new W4 #[.int .i64 (s : Int), .int .i64 (ct : Int), .int .i64 (m : Int), .int .i64 (mt : Int), .int .i64 (-1), .int .i64 (-1)] 45
        go_wp2_with (at_builtin; refine wpList_append_any _ rfl (.tmp 32) (.tmp 34) 32 rfl _ 45 i0 (.agg #[.int .i64 0, .int .i64 0, .int .i64 0, .int .i64 0, .int .i64 0, .int .i64 0]) 6 48 Try.underlying32 hi0 hz0 hz1 hz2 rfl (by decide) _ _ _ rfl hown (W4.heap.size + 1) _ 1 1 _ rfl hnew rfl (rwl_one _ _ _ _ _ _) ?c1 ?c2 ?c3 ?_)
        case c1 => have := (show acc.length ≤ 100000 by omega); unfold maxLen; omega
        case c2 => have := (show acc.length ≤ 100000 by omega); omega
        case c3 => have := HP4.out.blw.size; simp; omega
        intro v5 W5 ho2 hg2 hb2
        have HP5 := Lib.hid (HP4.out.push ⟨s, ct, m, mt, -1, -1⟩ rfl ho2 hg2)
        clear ho2 hg2 hown hnew
        go_wp2
        go_ret3
        rw [HE.out]
        exact ⟨_, rfl, HP5.out⟩
      · have e2 : ((mt : Int) == (n2 : Int)) = false := by simp; omega
        have HE := Lib.hid (HR.out.symm.trans (alS_src (by rw [H1.out.len]; exact hs) (by rw [H2.out.len]; exact hm) HCT.out HMT.out (h1.trans H1.out.len.symm) (by rw [H2.out.len]; omega)))
        clear h1 h2 HR HCT HMT
        go_wp2_with fail
        go_quiet (fail)
        go_wp2
        go_ret3
        rw [HE.out]
        exact ⟨_, rfl, RL.none (blw_drewN HP3.out.blw _)⟩
    · have e1 : ((ct : Int) == (n1 : Int)) = false := by simp; omega
      by_cases h2 : mt = n2
      · have e2 : ((mt : Int) == (n2 : Int)) = true := by simp [h2]
        have HE := Lib.hid (HR.out.symm.trans (alS_mach (by rw [H1.out.len]; exact hs) (by rw [H2.out.len]; exact hm) HCT.out HMT.out (by rw [H1.out.len]; omega) (h2.trans H2.out.len.symm)))
        clear h1 h2 HR HCT HMT
        go_wp2_with fail
        go_quiet (fail)
        go_wp2
        go_ret3
        rw [HE.out]
        exact ⟨_, rfl, RL.none (blw_drewN HP3.out.blw _)⟩
      · have e2 : ((mt : Int) == (n2 : Int)) = false := by simp; omega
        have k1 : ct < code.length := by rw [H1.out.len]; omega
        have k2 : mt < mach.length := by rw [H2.out.len]; omega
        have HF := Lib.hid (fun (h : smP code[ct] mach[mt] = false) => HR.out.symm.trans (alS_bad (by rw [H1.out.len]; exact hs) (by rw [H2.out.len]; exact hm) HCT.out HMT.out k1 k2 h))
        have HT := Lib.hid (fun (h : smP code[ct] mach[mt] = true) => (alS_ok (acc := acc) (by rw [H1.out.len]; exact hs) (by rw [H2.out.len]; exact hm) HCT.out HMT.out k1 k2 h).symm.trans HR.out)
        obtain ⟨b1, o1, rfl, hb1, hx1⟩ := H1.out.see.at_ k1
        obtain ⟨b2, o2, rfl, hb2, hx2⟩ := H2.out.see.at_ k2
        have hx3 := hx1.keep hb1 fun _ hp => HP3.out.blw.cell hp
        have hx4 := hx2.keep hb2 fun _ hp => HP3.out.blw.cell hp
        have z1 : (ct : Int) < (n1 : Int) := by omega
        have z2 : (mt : Int) < (n2 : Int) := by omega
        clear hx1 hx2 h1 h2 HR HCT HMT
        generalize code[ct] = x at *
        generalize mach[mt] = y at *
        obtain ⟨x0, x1, x2, x3, x4⟩ := x
        obtain ⟨y0, y1, y2, y3, y4, y5, y6⟩ := y
        obtain ⟨c0, c1', c2', c3, c4⟩ := hx3
        obtain ⟨_, d0, d1, d2, d3, d4, d5, d6⟩ := hx4
        dsimp only at c0 c1' c2' c3 c4 d0 d1 d2 d3 d4 d5 d6
        have C2 : Hid (∀ n os, Calls Try.prog 13 #[.agg #[.int .i64 x0, .int .i64 x1, .int .i64 x2, .int .i64 x3, .int .i64 x4], .agg #[.int .i64 y0, .int .i64 y1, .int .i64 y2, .int .i64 y3, .int .i64 y4, .int .i64 y5, .int .i64 y6]] (Go.Sort.grow (W3.drewN n) os) fun e w' => e = .returned (.bool (smP ⟨x0, x1, x2, x3, x4⟩ ⟨y0, y1, y2, y3, y4, y5, y6⟩)) ∧ ∃ q os', w' = Go.Sort.grow ((Go.Sort.grow (W3.drewN n) os).drewN q) os') := fun n os => alsame_any ⟨x0, x1, x2, x3, x4⟩ ⟨y0, y1, y2, y3, y4, y5, y6⟩ _
        have t0 := fun n os => Go.cell_grown (World.block_lt_of_cell? _ _ c0) c0 n os
        have t1 := fun n os => Go.cell_grown (World.block_lt_of_cell? _ _ c1') c1' n os
        have t2 := fun n os => Go.cell_grown (World.block_lt_of_cell? _ _ c2') c2' n os
        have t3 := fun n os => Go.cell_grown (World.block_lt_of_cell? _ _ c3) c3 n os
        have t4 := fun n os => Go.cell_grown (World.block_lt_of_cell? _ _ c4) c4 n os
        have s0 := fun n os => Go.cell_grown (World.block_lt_of_cell? _ _ d0) d0 n os
        have s1 := fun n os => Go.cell_grown (World.block_lt_of_cell? _ _ d1) d1 n os
        have s2 := fun n os => Go.cell_grown (World.block_lt_of_cell? _ _ d2) d2 n os
        have s3 := fun n os => Go.cell_grown (World.block_lt_of_cell? _ _ d3) d3 n os
        have s4 := fun n os => Go.cell_grown (World.block_lt_of_cell? _ _ d4) d4 n os
        have s5 := fun n os => Go.cell_grown (World.block_lt_of_cell? _ _ d5) d5 n os
        have s6 := fun n os => Go.cell_grown (World.block_lt_of_cell? _ _ d6) d6 n os
        clear c0 c1' c2' c3 c4 d0 d1 d2 d3 d4 d5 d6
        generalize smP ⟨x0, x1, x2, x3, x4⟩ ⟨y0, y1, y2, y3, y4, y5, y6⟩ = bb at *
        cases bb
        · have HE := Lib.hid (HF.out (by first | rfl | trivial))
          clear HF HT
          go_wp2_with fail
          go_quiet_grown (first | (go_at_call 13; refine Calls.grown_of (C2.out _ _)))
          go_wp2
          go_ret3
          rw [HE.out]
          exact ⟨_, rfl, RL.none (HP3.out.grew ⟨nq, osq, rfl⟩).blw⟩
        · have HE := Lib.hid (HT.out (by first | rfl | trivial))
          clear HF HT
          go_wp2_with fail
          go_quiet_grown (first | (go_at_call 13; refine Calls.grown_of (C2.out _ _)))
          go_upto_region 10 with fail
          have HP5 := Lib.hid (HP3.out.grew ⟨nq, osq, rfl⟩)
          have HR5 := Lib.hid ((show Grew W3 _ from ⟨nq, osq, rfl⟩).row HR3.out)
          clear t0 t1 t2 t3 t4 s0 s1 s2 s3 s4 s5 s6 C2 HP3 HR3
          generalize Go.Sort.grow (W3.drewN nq) osq = W5 at *
          have f0 := HR5.out.cell 0; have f1 := HR5.out.cell 1; have f2 := HR5.out.cell 2; have f3 := HR5.out.cell 3; have f4 := HR5.out.cell 4; have f5 := HR5.out.cell 5
          simp only [List.getElem?_toArray, List.getElem?_cons_zero, List.getElem?_cons_succ] at f0 f1 f2 f3 f4 f5
          have hown := (HP5.out.alloc (.cells #[.int .i64 (s : Int), .int .i64 (ct : Int), .int .i64 (m : Int), .int .i64 (mt : Int), .int .i64 (ct : Int), .int .i64 (mt : Int)] 45)).own
          have hnew := sees_new W5 #[.int .i64 (s : Int), .int .i64 (ct : Int), .int .i64 (m : Int), .int .i64 (mt : Int), .int .i64 (ct : Int), .int .i64 (mt : Int)] 45
          go_wp2_with (at_builtin; refine wpList_append_any _ rfl (.tmp 60) (.tmp 62) 32 rfl _ 45 i0 (.agg #[.int .i64 0, .int .i64 0, .int .i64 0, .int .i64 0, .int .i64 0, .int .i64 0]) 6 48 Try.underlying32 hi0 hz0 hz1 hz2 rfl (by decide) _ _ _ rfl hown (W5.heap.size + 1) _ 1 1 _ rfl hnew rfl (rwl_one _ _ _ _ _ _) ?c1 ?c2 ?c3 ?_)
          case c1 => have := (show acc.length ≤ 100000 by omega); unfold maxLen; omega
          case c2 => have := (show acc.length ≤ 100000 by omega); omega
          case c3 => have := HP5.out.blw.size; simp; omega
          intro v6 W6 ho2 hg2 hb2
          have HP6 := Lib.hid (HP5.out.push ⟨s, ct, m, mt, ct, mt⟩ rfl ho2 hg2)
          clear ho2 hg2 hown hnew
          clear f0 f1 f2 f3 f4 f5 HR5 HP5
          go_wp2
          go_roundg (n1 - (ct + 1))
          case measure => omega
          case rel => exact ⟨ct + 1, mt + 1, _, by omega, by omega, by go_num, by go_num, by simp; omega, HE.out, HP6.out⟩

end Go.Proofs.Ytimmnnadoeagfaa
