/-
  Code of the reference.
-/
import Derived.Test.YtimmnnadoeagfaaAlCode
import Derived.Test.YtimmnnadoeagfaaAlOps
import Derived.Deep.RegionHeldLaw
namespace Go.Proofs.Ytimmnnadoeagfaa
open Go.RowKit
set_option linter.unusedVariables false

theorem infoRrow : (Try.prog.info? 55).map (fun i => (i.zero, i.size, i.bytes)) = some (some (.agg #[.int .i64 0, .int .i64 0, .int .i64 0, .int .i64 0, .int .i64 0, .int .i64 0]), 6, 48) := by kernel_rfl
theorem info_rrow : ∃ i : TypeInfo, Try.prog.info? 55 = some i ∧ i.zero = some (.agg #[.int .i64 0, .int .i64 0, .int .i64 0, .int .i64 0, .int .i64 0, .int .i64 0]) ∧ i.size = 6 ∧ i.bytes = 48 := by
  have h := infoRrow
  rcases hi : Try.prog.info? 55 with _ | i
  · rw [hi] at h; simp at h
  · rw [hi] at h
    simp only [Option.map_some, Option.some.injEq, Prod.mk.injEq] at h
    exact ⟨i, rfl, h.1, h.2.1, h.2.2⟩

theorem nat_at {w : World} {B : Nat} {A : Option Addr} {l : List Nat} (h : Sees w B A (l.flatMap natC)) {i : Nat} (hi : i < l.length) : ∃ b o, A = some ⟨b, o, none⟩ ∧ b < B ∧ w.cell? ⟨b, o + i, none⟩ = some (.int .i64 (l[i] : Int)) := by
  obtain ⟨b, o, e, hb, hc⟩ := h (flat_ne natC_len (by decide) (by intro e; subst e; simp at hi))
  have := flat_get natC 1 natC_len l i l[i] (List.getElem?_eq_getElem hi) 0 _ rfl
  rw [Nat.mul_one, Nat.add_zero] at this
  exact ⟨b, o, e, hb, hc i _ this⟩

section
variable {code : List In} {mach : List Mi} {a b : List Nat} {n i k : Nat} {acc : List Rw}
theorem al_src (hb : n < b.length) (ha : ¬ n < a.length) : al code mach (a.drop n) (b.drop n) i k acc = ([], b[n], 20) := by
  rw [List.drop_eq_getElem_cons hb, List.drop_eq_nil_of_le (by omega), al]
theorem al_bad (hb : n < b.length) (ha : n < a.length) (h : smA code mach a[n] b[n] = false) : al code mach (a.drop n) (b.drop n) i k acc = ([], b[n], 20) := by
  rw [List.drop_eq_getElem_cons hb, List.drop_eq_getElem_cons ha, al, h, if_neg (by simp)]
theorem al_ok (hb : n < b.length) (ha : n < a.length) (h : smA code mach a[n] b[n] = true) : al code mach (a.drop n) (b.drop n) i k acc = al code mach (a.drop (n + 1)) (b.drop (n + 1)) (a[n] + 1) (b[n] + 1) (acc ++ [⟨i, a[n], k, b[n], a[n], b[n]⟩]) := by
  rw [List.drop_eq_getElem_cons hb, List.drop_eq_getElem_cons ha, al, h, if_pos rfl]
theorem al_more (hb : ¬ n < b.length) (ha : n < a.length) : al code mach (a.drop n) (b.drop n) i k acc = ([], mach.length, 20) := by
  rw [List.drop_eq_getElem_cons ha, List.drop_eq_nil_of_le (Nat.le_of_not_lt hb), al]
theorem al_end (hb : ¬ n < b.length) (ha : ¬ n < a.length) : al code mach (a.drop n) (b.drop n) i k acc = (acc ++ [⟨i, code.length, k, mach.length, -1, -1⟩], mach.length, 0) := by
  rw [List.drop_eq_nil_of_le (Nat.le_of_not_lt hb), List.drop_eq_nil_of_le (Nat.le_of_not_lt ha), al]
end

set_option maxRecDepth 100000 in
set_option maxHeartbeats 4000000 in
theorem ralcode_any {A1 : Option Addr} {n1 c1 : Nat} {code : List In} {A2 : Option Addr} {n2 c2 : Nat} {mach : List Mi} {w : World} (h1 : CS w A1 n1 c1 code) (h2 : MS w A2 n2 c2 mach) (hm1 : n1 ≤ 100000) (hm2 : n2 ≤ 100000) :
    Calls Try.prog 10 #[.slice A1 n1 c1, .slice A2 n2 c2] w fun e w' => CodeP 55 w (alC code mach) e w' := by
  obtain ⟨i0, hi0, hz0, hz1, hz2⟩ := info_rrow
  have mixed : Try.prog.follows .mixedOrders = true := by kernel_rfl
  have H1 := Lib.hid h1
  have H2 := Lib.hid h2
  obtain ⟨R, HR0⟩ : ∃ R, Hid (al code mach (idx isC code 0) (idx isM mach 0) 0 0 [] = R) := ⟨_, rfl⟩
  rw [show alC code mach = R from HR0.out]
  have HIA : Hid (∀ x ∈ idx isC code 0, x < n1) := fun x hx => by have := (idx_lt isC code 0 x hx).2.1; rw [h1.len] at this; omega
  have HIB : Hid (∀ x ∈ idx isM mach 0, x < n2) := fun x hx => by have := (idx_lt isM mach 0 x hx).2.1; rw [h2.len] at this; omega
  have la : (idx isC code 0).length ≤ 100000 := by have := idx_le isC code 0; rw [h1.len] at this; omega
  have lb : (idx isM mach 0).length ≤ 100000 := by have := idx_le isM mach 0; rw [h2.len] at this; omega
  have C1 := Lib.hid (operations_any h1 hm1)
  generalize idx isC code 0 = a at *
  clear h1 h2
  go_enter Try.func10, Try.ntmps10
  go_wp2_with fail
  refine C1.out.mono ?_
  rintro e W1 ⟨v, rfl, hA⟩
  obtain ⟨Aa, ca, rfl, _, _⟩ := hA.slice
  have HA := Lib.hid hA
  have C2 := Lib.hid (others_any (H2.out.below hA.blw) hm2)
  generalize idx isM mach 0 = b at *
  clear hA C1
  go_wp2_with fail
  refine C2.out.mono ?_
  rintro e W2 ⟨v, rfl, hB⟩
  obtain ⟨Ab, cb, rfl, _, _⟩ := hB.slice
  have HB := Lib.hid (HA.out.blw.trans (hB.blw.mono HA.out.blw.size))
  have HSB := Lib.hid hB.sees
  have HSA := Lib.hid ((HA.out.next hB.blw).sees)
  have G1 := Lib.hid (H1.out.below HB.out)
  have G2 := Lib.hid (H2.out.below HB.out)
  clear hB C2 HA H1 H2
  go_wp2
  go_loopg [9, 10, 11, 12] b.length (fun g v9 v10 v11 v12 wr => ∃ (n i k : Nat) (acc : List Rw), n + g = b.length ∧ v10 = .int .i64 i ∧ v11 = .int .i64 k ∧ v12 = .int .i64 n ∧ i ≤ 200000 ∧ k ≤ 200000 ∧ acc.length ≤ n ∧ Hid (al code mach (a.drop n) (b.drop n) i k acc = R) ∧ Hid (RL Rw.cells 6 55 W2 v9 acc wr))
  case atStart => exact ⟨0, 0, 0, [], by omega, by go_num, by go_num, by go_num, by omega, by omega, Nat.le_refl _, HR0.out, RL.nil W2⟩
  case round =>
    clear HR0
    obtain ⟨n, i, k, acc, hg, rfl, rfl, rfl, hi, hk, hla, HR, HP⟩ := hrel
    by_cases hlb : n < b.length
    · have hbz : (n : Int) < (b.length : Int) := by omega
      obtain ⟨gb, ob, rfl, hgb, cb0⟩ := nat_at HSB.out hlb
      have cb1 := (HP.out.blw.cell (p := ⟨gb, ob + n, none⟩) hgb).trans cb0
      by_cases hla2 : n < a.length
      · have haz : (n : Int) < (a.length : Int) := by omega
        have haz2 : ¬ (a.length : Int) ≤ (n : Int) := by omega
        have haz3 : decide ((a.length : Int) ≤ (n : Int)) = false := decide_eq_false haz2
        obtain ⟨ga, oa, rfl, hga, ca0⟩ := nat_at HSA.out hla2
        have ca1 := (HP.out.blw.cell (p := ⟨ga, oa + n, none⟩) hga).trans ca0
        have hx := HIA.out a[n] (List.getElem_mem hla2)
        have hy := HIB.out b[n] (List.getElem_mem hlb)
        have k1 : a[n] < code.length := by rw [G1.out.len]; exact hx
        have k2 : b[n] < mach.length := by rw [G2.out.len]; exact hy
        have HF := Lib.hid (fun (h : smP code[a[n]] mach[b[n]] = false) => HR.out.symm.trans (al_bad hlb hla2 ((smA_eq k1 k2).trans h)))
        have HT := Lib.hid (fun (h : smP code[a[n]] mach[b[n]] = true) => (al_ok (acc := acc) hlb hla2 ((smA_eq k1 k2).trans h)).symm.trans HR.out)
        generalize a[n] = x at *
        generalize b[n] = y at *
        obtain ⟨b1, o1, rfl, hb1, hx1⟩ := G1.out.see.at_ k1
        obtain ⟨b2, o2, rfl, hb2, hx2⟩ := G2.out.see.at_ k2
        have hx3 := hx1.keep hb1 fun _ hp => HP.out.blw.cell hp
        have hx4 := hx2.keep hb2 fun _ hp => HP.out.blw.cell hp
        have z1 : (x : Int) < (n1 : Int) := by omega
        have z2 : (y : Int) < (n2 : Int) := by omega
        clear hx1 hx2 HR
        generalize code[x] = u at *
        generalize mach[y] = v at *
        obtain ⟨x0, x1, x2, x3, x4⟩ := u
        obtain ⟨y0, y1, y2, y3, y4, y5, y6⟩ := v
        obtain ⟨r0, r1, r2, r3, r4⟩ := hx3
        obtain ⟨_, d0, d1, d2, d3, d4, d5, d6⟩ := hx4
        dsimp only at r0 r1 r2 r3 r4 d0 d1 d2 d3 d4 d5 d6
        have C2 : Hid (∀ n os, Calls Try.prog 14 #[.agg #[.int .i64 x0, .int .i64 x1, .int .i64 x2, .int .i64 x3, .int .i64 x4], .agg #[.int .i64 y0, .int .i64 y1, .int .i64 y2, .int .i64 y3, .int .i64 y4, .int .i64 y5, .int .i64 y6]] (Go.Sort.grow (wr.drewN n) os) fun e w' => e = .returned (.bool (smP ⟨x0, x1, x2, x3, x4⟩ ⟨y0, y1, y2, y3, y4, y5, y6⟩)) ∧ ∃ q os', w' = Go.Sort.grow ((Go.Sort.grow (wr.drewN n) os).drewN q) os') := fun n os => ralsame_any ⟨x0, x1, x2, x3, x4⟩ ⟨y0, y1, y2, y3, y4, y5, y6⟩ _
        have t0 := fun n os => Go.cell_grown (World.block_lt_of_cell? _ _ r0) r0 n os
        have t1 := fun n os => Go.cell_grown (World.block_lt_of_cell? _ _ r1) r1 n os
        have t2 := fun n os => Go.cell_grown (World.block_lt_of_cell? _ _ r2) r2 n os
        have t3 := fun n os => Go.cell_grown (World.block_lt_of_cell? _ _ r3) r3 n os
        have t4 := fun n os => Go.cell_grown (World.block_lt_of_cell? _ _ r4) r4 n os
        have s0 := fun n os => Go.cell_grown (World.block_lt_of_cell? _ _ d0) d0 n os
        have s1 := fun n os => Go.cell_grown (World.block_lt_of_cell? _ _ d1) d1 n os
        have s2 := fun n os => Go.cell_grown (World.block_lt_of_cell? _ _ d2) d2 n os
        have s3 := fun n os => Go.cell_grown (World.block_lt_of_cell? _ _ d3) d3 n os
        have s4 := fun n os => Go.cell_grown (World.block_lt_of_cell? _ _ d4) d4 n os
        have s5 := fun n os => Go.cell_grown (World.block_lt_of_cell? _ _ d5) d5 n os
        have s6 := fun n os => Go.cell_grown (World.block_lt_of_cell? _ _ d6) d6 n os
        have p0 := fun n os => Go.cell_grown (World.block_lt_of_cell? _ _ ca1) ca1 n os
        have p1 := fun n os => Go.cell_grown (World.block_lt_of_cell? _ _ cb1) cb1 n os
        have CF : Hid (∀ W, Below W2.heap.size W2 W → W.cell? ⟨ga, oa + n, none⟩ = some (.int .i64 (x : Int)) ∧ W.cell? ⟨gb, ob + n, none⟩ = some (.int .i64 (y : Int))) := fun W h => ⟨(h.cell (p := ⟨ga, oa + n, none⟩) hga).trans ca0, (h.cell (p := ⟨gb, ob + n, none⟩) hgb).trans cb0⟩
        clear r0 r1 r2 r3 r4 d0 d1 d2 d3 d4 d5 d6 ca1 cb1 ca0 cb0
        generalize smP ⟨x0, x1, x2, x3, x4⟩ ⟨y0, y1, y2, y3, y4, y5, y6⟩ = bb at *
        cases bb
        · have HE := Lib.hid (HF.out (by first | rfl | trivial))
          clear HF HT
          go_wp2_with fail
          go_quiet_grown (first | (go_at_call 14; refine Calls.grown_of (C2.out _ _)))
          go_upto_region 10 with fail
          have HP5 := Lib.hid (HP.out.grew ⟨nq, osq, rfl⟩)
          clear t0 t1 t2 t3 t4 s0 s1 s2 s3 s4 s5 s6 p0 p1 C2 HP
          generalize Go.Sort.grow (wr.drewN nq) osq = W5 at *
          obtain ⟨p0, p1⟩ := CF.out _ HP5.out.blw
          go_wp2_with fail
          go_quiet (fail)
          go_wp2
          go_ret3
          rw [HE.out]
          exact ⟨_, rfl, RL.none (blw_drewN (HB.out.trans (HP5.out.blw.mono HB.out.size)) _)⟩
        · have HE := Lib.hid (HT.out (by first | rfl | trivial))
          clear HF HT
          go_wp2_with fail
          go_quiet_grown (first | (go_at_call 14; refine Calls.grown_of (C2.out _ _)))
          go_upto_region 11 with fail
          have HP5 := Lib.hid (HP.out.grew ⟨nq, osq, rfl⟩)
          clear t0 t1 t2 t3 t4 s0 s1 s2 s3 s4 s5 s6 p0 p1 C2 HP
          generalize Go.Sort.grow (wr.drewN nq) osq = W5 at *
          have hG0 := Grew.refl W5
          have HPW := Lib.hid fun W (h : Grew W5 W) => HP5.out.grew h
          have HS := Lib.hid fun W (h : Grew W5 W) => CF.out W (HP5.out.grew h).blw
          have hnew := sees_new W5 #[.int .i64 (i : Int), .int .i64 (x : Int), .int .i64 (k : Int), .int .i64 (y : Int), .int .i64 (x : Int), .int .i64 (y : Int)] 55
          have hsz := HP5.out.blw.size
          have hln := (show acc.length ≤ 100000 by omega)
          clear HP5
          go_wp2_with fail
          go_region_held_law (fun w' => w'.cell? ⟨ga, oa + n, none⟩ = some (.int .i64 (x : Int)) ∧ w'.cell? ⟨gb, ob + n, none⟩ = some (.int .i64 (y : Int))) (first | exact HS.out _ hG0 | exact HS.out _ hG0.drew | exact HS.out _ (hG0.alloc _) | exact HS.out _ (hG0.drew.alloc _) | exact HS.out _ (hG0.alloc _).drew | exact hXb) (first
            | (refine step_append_any _ rfl (.tmp 49) (.tmp 69) 36 rfl _ 55 i0 _ _ 48 Try.underlying36 hi0 hz0 hz1 hz2 rfl (by decide) _ _ _ rfl (HPW.out _ (by first | exact (hG0.alloc _).drew | exact hG0.drew.alloc _ | exact hG0.alloc _)).own (W5.heap.size + 1) _ 1 1 _ rfl hnew rfl (rwl_one _ _ _ _ _ _) (by unfold maxLen; omega) (by omega) (by simp; omega) ?_; intro v6 W6 ho2 hg2 hb2; have HP6 := Lib.hid ((HPW.out _ (by first | exact (hG0.alloc _).drew | exact hG0.drew.alloc _ | exact hG0.alloc _)).snoc ⟨i, x, k, y, x, y⟩ rfl ho2 hg2); have hXb := CF.out _ HP6.out.blw)
            )
          obtain ⟨p0, p1⟩ := CF.out _ HP6.out.blw
          clear hG0 hnew HPW HS hXb
          go_wp2
          go_roundg (b.length - (n + 1))
          case measure => omega
          case rel => exact ⟨n + 1, x + 1, y + 1, _, by omega, by go_num, by go_num, by go_num, by omega, by omega, by simp; omega, HE.out, HP6.out⟩
      · have haz : (a.length : Int) ≤ (n : Int) := by omega
        have haz2 : ¬ (n : Int) < (a.length : Int) := by omega
        have haz3 : decide ((a.length : Int) ≤ (n : Int)) = true := decide_eq_true haz
        have haz4 : a.length ≤ n := by omega
        have HE := Lib.hid (HR.out.symm.trans (al_src hlb hla2))
        have CF : Hid (∀ W, Below W2.heap.size W2 W → W.cell? ⟨gb, ob + n, none⟩ = some (.int .i64 (b[n] : Int))) := fun W h => (h.cell (p := ⟨gb, ob + n, none⟩) hgb).trans cb0
        generalize b[n] = y at *
        clear HR cb0
        go_wp2_with fail
        go_quiet (fail)
        go_upto_region 10 with fail
        have HP5 := Lib.hid (HP.out.next (blw_drewN (Below.refl _ _) nq))
        clear cb1 HP
        generalize wr.drewN nq = W5 at *
        have cb1 := CF.out _ HP5.out.blw
        go_wp2_with fail
        go_quiet (fail)
        go_wp2
        go_ret3
        rw [HE.out]
        exact ⟨_, rfl, RL.none (blw_drewN (HB.out.trans (HP5.out.blw.mono HB.out.size)) _)⟩
    · have hbz : ¬ (n : Int) < (b.length : Int) := by omega
      by_cases hla2 : n < a.length
      · have haz : (b.length : Int) < (a.length : Int) := by omega
        have HE := Lib.hid (HR.out.symm.trans (al_more hlb hla2))
        rw [G2.out.len] at HE
        clear HR
        go_wp2
        go_ret3
        rw [HE.out]
        exact ⟨_, rfl, RL.none (HB.out.trans (HP.out.blw.mono HB.out.size))⟩
      · have haz : ¬ (b.length : Int) < (a.length : Int) := by omega
        have HE := Lib.hid (HR.out.symm.trans (al_end hlb hla2))
        rw [G1.out.len, G2.out.len] at HE
        clear HR
        go_upto_region 16 with fail
        have hown := (HP.out.alloc (.cells #[.int .i64 (i : Int), .int .i64 (n1 : Int), .int .i64 (k : Int), .int .i64 (n2 : Int), .int .i64 (-1), .int .i64 (-1)] 55)).own
        have hnew := sees_new wr #[.int .i64 (i : Int), .int .i64 (n1 : Int), .int .i64 (k : Int), .int .i64 (n2 : Int), .int .i64 (-1), .int .i64 (-1)] 55
        go_wp2_with (at_builtin; refine wpList_append_any _ rfl (.tmp 88) (.tmp 96) 36 rfl _ 55 i0 (.agg #[.int .i64 0, .int .i64 0, .int .i64 0, .int .i64 0, .int .i64 0, .int .i64 0]) 6 48 Try.underlying36 hi0 hz0 hz1 hz2 rfl (by decide) _ _ _ rfl hown (wr.heap.size + 1) _ 1 1 _ rfl hnew rfl (rwl_one _ _ _ _ _ _) ?c1 ?c2 ?c3 ?_)
        case c1 => have := (show acc.length ≤ 100000 by omega); unfold maxLen; omega
        case c2 => have := (show acc.length ≤ 100000 by omega); omega
        case c3 => have := HP.out.blw.size; simp; omega
        intro v5 W5 ho2 hg2 hb2
        have HP5 := Lib.hid (HP.out.push ⟨i, n1, k, n2, -1, -1⟩ rfl ho2 hg2)
        clear ho2 hg2 hown hnew
        go_wp2
        go_ret3
        rw [HE.out]
        exact ⟨_, rfl, HP5.out.base HB.out⟩

end Go.Proofs.Ytimmnnadoeagfaa
