/-
  The walk of the statement on copies and moves that are put in (its two regions are written by wip/lab/genalins.py).
-/
import Derived.Test.YtimmnnadoeagfaaAlAwake
import Derived.Test.YtimmnnadoeagfaaAlIn
import Derived.Test.YtimmnnadoeagfaaAlCrr
import Derived.Test.YtimmnnadoeagfaaAlInfo
import Derived.Test.YtimmnnadoeagfaaTake
import Derived.Deep.Cut
import Derived.Deep.CutRange
namespace Go.Proofs.Ytimmnnadoeagfaa
open Go.RowKit
set_option linter.unusedVariables false
set_option linter.unusedSimpArgs false

theorem u16_nat {a : Int} (h : (Lit.int .u16 a).wf = true) : ∃ d : Nat, a = (d : Int) ∧ d ≤ 65535 := by
  simp [Lit.wf, IntKind.min, IntKind.max, IntKind.signed, IntKind.bits] at h
  exact ⟨a.toNat, by omega, by omega⟩
theorem rem_nat (d n : Nat) : ∃ i : Nat, (d : Int) % ((n : Int) + 1) = (i : Int) ∧ i ≤ n := ⟨d % (n + 1), by rw [Int.natCast_emod]; rfl, Nat.le_of_lt_succ (Nat.mod_lt _ (Nat.succ_pos n))⟩

theorem sees_aside {V V' : World} {B p o : Nat} {xs : List Value} {row : Option Nat} (h : Sees V B (some ⟨p, o, none⟩) xs) (hg : V.grownBy V' row) (hp : p < V.heap.size) (hn : row ≠ some p) : Sees V' B (some ⟨p, o, none⟩) xs := fun hx => by
  obtain ⟨b, o', e, hb, hc⟩ := h hx
  injection e with e
  injection e with e1 e2
  subst e1 e2
  exact ⟨p, o, rfl, hb, fun i u hu => (World.cell?_of_block (w := V) (hg.block p hp fun h9 => hn h9.symm)).trans (hc i u hu)⟩
theorem InsAt.take {w : World} {B : Nat} {A : Option Addr} {xs : List In} (h : InsAt w B A xs) (k : Nat) : InsAt w B A (xs.take k) := fun hn => by
  obtain ⟨b, o, e, hb, hc⟩ := h (by intro e; subst e; simp at hn)
  refine ⟨b, o, e, hb, fun i x hx => hc i x ?_⟩
  rw [List.getElem?_take] at hx
  split at hx
  · exact hx
  · cases hx

/-- The boxes. -/
structure KI (w : World) (c : In) (m : Mi) (W : World) : Prop where
  blw : Below w.heap.size w W
  c : Row W w.heap.size 25 #[.int .i64 c.op, .int .i64 c.d, .int .i64 c.a, .int .i64 c.b, .int .i64 c.imm]
  m : Row W (w.heap.size + 1) 28 #[.int .i64 m.op, .int .i64 m.d, .int .i64 m.a, .int .i64 m.b, .int .i64 m.imm, .int .i64 m.dst, .int .i64 m.src]
theorem KI.below {w : World} {c : In} {m : Mi} {W W' : World} (h : KI w c m W) (hb : Below W.heap.size W W') : KI w c m W' := ⟨h.blw.trans (hb.mono h.blw.size), h.c.below hb h.c.lt, h.m.below hb h.m.lt⟩
theorem KI.new (w : World) (c : In) (m : Mi) : KI w c m ((w.alloc (.cells #[.int .i64 c.op, .int .i64 c.d, .int .i64 c.a, .int .i64 c.b, .int .i64 c.imm] 25)).alloc (.cells #[.int .i64 m.op, .int .i64 m.d, .int .i64 m.a, .int .i64 m.b, .int .i64 m.imm, .int .i64 m.dst, .int .i64 m.src] 28)) := by
  have s1 : (w.alloc (.cells #[.int .i64 c.op, .int .i64 c.d, .int .i64 c.a, .int .i64 c.b, .int .i64 c.imm] 25)).heap.size = w.heap.size + 1 := by simp
  have h1 := Row.new w 25 #[.int .i64 c.op, .int .i64 c.d, .int .i64 c.a, .int .i64 c.b, .int .i64 c.imm]
  have h2 := Row.new (w.alloc (.cells #[.int .i64 c.op, .int .i64 c.d, .int .i64 c.a, .int .i64 c.b, .int .i64 c.imm] 25)) 28 #[.int .i64 m.op, .int .i64 m.d, .int .i64 m.a, .int .i64 m.b, .int .i64 m.imm, .int .i64 m.dst, .int .i64 m.src]
  rw [s1] at h2
  exact ⟨((Below.refl w.heap.size w).alloc (Nat.le_refl _) _).alloc (by omega) _, h1.alloc _, h2⟩
theorem KI.put {w : World} {c : In} {m : Mi} {W : World} (h : KI w c m W) : KI w { c with op := 2 } { m with op := 18 } ((W.setCell ⟨w.heap.size, 0, none⟩ (.int .i64 2)).setCell ⟨w.heap.size + 1, 0, none⟩ (.int .i64 18)) :=
  ⟨(h.blw.setCell (p := ⟨w.heap.size, 0, none⟩) (Nat.le_refl _) _).setCell (p := ⟨w.heap.size + 1, 0, none⟩) (Nat.le_succ _) _,
    (h.c.put 0 (.int .i64 2)).far (q := ⟨w.heap.size + 1, 0, none⟩) (by show w.heap.size ≠ w.heap.size + 1; omega) _,
    (h.m.far (q := ⟨w.heap.size, 0, none⟩) (by show w.heap.size + 1 ≠ w.heap.size; omega) _).put 0 (.int .i64 18)⟩

set_option maxRecDepth 100000 in
set_option maxHeartbeats 4000000 in
theorem alI_big (A0 A1 : Option Addr) (n0 c0 n1 c1 : Nat) (a2 a3 : Int) (c : In) (m : Mi) (w : World) (h : 300 < n0 ∨ 300 < n1) :
    Calls Try.prog 5 #[.slice A0 n0 c0, .slice A1 n1 c1, .int .u16 a2, .int .u16 a3, .agg #[.int .i64 c.op, .int .i64 c.d, .int .i64 c.a, .int .i64 c.b, .int .i64 c.imm], .agg #[.int .i64 m.op, .int .i64 m.d, .int .i64 m.a, .int .i64 m.b, .int .i64 m.imm, .int .i64 m.dst, .int .i64 m.src]] w fun e w' => e = .returned (.bool true) ∧ Below w.heap.size w w' := by
  have AW := Lib.hid fun W => awake_any W
  have HB0 := Lib.hid (KI.new w c m).blw
  go_enter Try.func5, Try.ntmps5
  by_cases h0 : 300 < n0
  · have z0 : (300 : Int) < (n0 : Int) := by omega
    clear h
    go_wp2_with fail
    refine (AW.out _).mono ?_
    rintro e W1 ⟨rfl, hb⟩
    have HB := Lib.hid (HB0.out.trans (hb.mono HB0.out.size))
    clear hb
    go_wp2_with fail
    refine (AW.out _).mono ?_
    rintro e W2 ⟨rfl, hb⟩
    have HB2 := Lib.hid (HB.out.trans (hb.mono HB.out.size))
    clear hb
    go_wp2
    go_ret
    exact ⟨rfl, HB2.out⟩
  · have z0 : ¬ (300 : Int) < (n0 : Int) := by omega
    have z1 : (300 : Int) < (n1 : Int) := by omega
    clear h
    go_wp2_with fail
    refine (AW.out _).mono ?_
    rintro e W1 ⟨rfl, hb⟩
    have HB := Lib.hid (HB0.out.trans (hb.mono HB0.out.size))
    clear hb
    go_wp2_with fail
    refine (AW.out _).mono ?_
    rintro e W2 ⟨rfl, hb⟩
    have HB2 := Lib.hid (HB.out.trans (hb.mono HB.out.size))
    clear hb
    go_wp2
    go_ret
    exact ⟨rfl, HB2.out⟩

set_option maxRecDepth 100000 in
set_option maxHeartbeats 16000000 in
theorem AlignIgnoresMoves_walk (a0 : Option Addr) (len0 cap0 : Nat) (a1 : Option Addr) (len1 cap1 : Nat) (a2 a3 : Int) (a4 a5 : Array Value) (w : World) (w0 : IsIns w a0 len0 cap0) (w1 : IsMis w a1 len1 cap1) (w2 : (Lit.int .u16 a2).wf = true) (w3 : (Lit.int .u16 a3).wf = true) (w4 : IsIn w a4) (w5 : IsMi w a5) :
    Calls Try.prog 5 #[.slice a0 len0 cap0, .slice a1 len1 cap1, .int .u16 a2, .int .u16 a3, .agg a4, .agg a5] w fun e w' => e = .returned (.bool true) ∧ Below w.heap.size w w' := by
  obtain ⟨code, _, hc⟩ := w0
  obtain ⟨mach, _, hm⟩ := w1
  obtain ⟨c, rfl, _⟩ := w4
  obtain ⟨m, rfl, hmw⟩ := w5
  by_cases hbig : 300 < len0 ∨ 300 < len1
  · exact alI_big _ _ _ _ _ _ a2 a3 c m w hbig
  · have z0 : ¬ (300 : Int) < (len0 : Int) := by omega
    have z1 : ¬ (300 : Int) < (len1 : Int) := by omega
    have n0 : len0 ≤ 300 := by omega
    have n1 : len1 ≤ 300 := by omega
    obtain ⟨d2, rfl, hd2⟩ := u16_nat w2
    obtain ⟨d3, rfl, hd3⟩ := u16_nat w3
    obtain ⟨i, hri, hi⟩ := rem_nat d2 len0
    obtain ⟨k, hrk, hk⟩ := rem_nat d3 len1
    have mixed : Try.prog.follows .mixedOrders = true := by kernel_rfl
    obtain ⟨i0, hi0, hz0, hz1, hz2⟩ := info_ins
    obtain ⟨j0, hj0, hy0, hy1, hy2⟩ := info_mis
    have AW := Lib.hid fun W => awake_any W
    have HOK := Lib.hid hmw.ok
    have HK0 := Lib.hid (KI.new w c m)
    have HC0 := Lib.hid hc
    have HM0 := Lib.hid hm
    clear hc hm hbig hmw w2 w3
    obtain ⟨x0, x1, x2, x3, x4⟩ := c
    obtain ⟨y0, y1, y2, y3, y4, y5, y6⟩ := m
    dsimp only at HK0 ⊢
    go_enter Try.func5, Try.ntmps5
    go_upto_region 1 with fail
    generalize ((w.alloc (.cells #[.int .i64 x0, .int .i64 x1, .int .i64 x2, .int .i64 x3, .int .i64 x4] 25)).alloc (.cells #[.int .i64 y0, .int .i64 y1, .int .i64 y2, .int .i64 y3, .int .i64 y4, .int .i64 y5, .int .i64 y6] 28)) = W0 at *
    go_wp2_with fail
    refine (AW.out _).mono ?_
    rintro e W1 ⟨rfl, hb⟩
    have HK1 := Lib.hid (HK0.out.below hb)
    clear hb HK0 AW
    have f0 := HK1.out.c.cell 0
    have g0 := HK1.out.c.frozen 0
    have f1 := HK1.out.m.cell 0
    have g1 := HK1.out.m.frozen 0
    simp only [List.getElem?_toArray, List.getElem?_cons_zero] at f0 f1
    go_upto_region 5 with fail
    have HK2 := Lib.hid HK1.out.put
    dsimp only at HK2
    clear f0 g0 f1 g1 HK1
    generalize ((W1.setCell ⟨w.heap.size, 0, none⟩ (.int .i64 2)).setCell ⟨w.heap.size + 1, 0, none⟩ (.int .i64 18)) = W2 at *
    have HC := Lib.hid (HC0.out.below HK2.out.blw)
    go_upto_region 7 with fail
    rw [hri, hrk]
    clear hri hrk hd2 hd3
    obtain ⟨A3, hitecode⟩ : ∃ z, (if cap0 = i then a0 else a0.map fun x => x.add (i * 5)) = z := ⟨_, rfl⟩
    have HSE : Hid (Sees W2 W2.heap.size a0 ((code.take i).flatMap In.cells)) := (HC.out.see.take i).sees
    have HSD : Hid (Sees W2 W2.heap.size A3 ((code.drop i).flatMap In.cells)) := by
      rw [← hitecode]
      exact (HC.out.see.cut (by rw [HC.out.len]; exact HC.out.cap)).sees
    have HTL : Hid ((code.take i).length = i) := by show _ = _; rw [List.length_take, HC.out.len]; omega
    have HDL : Hid ((code.drop i).length = len0 - i) := by show _ = _; rw [List.length_drop, HC.out.len]
    have HN4 : Hid (([] ++ code.take i).length = i) := HTL.out
    have HN7 : Hid (([] ++ code.take i ++ [(⟨2, x1, x2, x3, x4⟩ : In)]).length = i + 1) := by show _ = _; rw [List.length_append, HN4.out]; rfl
    have HLN : Hid (([] ++ code.take i ++ [(⟨2, x1, x2, x3, x4⟩ : In)] ++ code.drop i).length = len0 + 1) := by show _ = _; rw [List.length_append, HN7.out, HDL.out]; omega
    have hcapcode := HC.out.cap
    have hcmcode := HC.out.cmx
    have hizcode : (i : Int) ≤ (len0 : Int) := by omega
    have HSC : Hid (∀ w', Below W2.heap.size W2 w' → w'.cell? ⟨w.heap.size, 0, none⟩ = some (.int .i64 2) ∧ w'.cell? ⟨w.heap.size, 1, none⟩ = some (.int .i64 x1) ∧ w'.cell? ⟨w.heap.size, 2, none⟩ = some (.int .i64 x2) ∧ w'.cell? ⟨w.heap.size, 3, none⟩ = some (.int .i64 x3) ∧ w'.cell? ⟨w.heap.size, 4, none⟩ = some (.int .i64 x4)) := fun V h => have k := HK2.out.c.below h HK2.out.c.lt; ⟨k.cell 0, k.cell 1, k.cell 2, k.cell 3, k.cell 4⟩
    go_cut [15] from 50 (fun s9 wx => ∃ A9 c9, s9 = .slice A9 (len0 + 1) c9 ∧ Hid (RL In.cells 5 25 W2 (.slice A9 (len0 + 1) c9) ([] ++ code.take i ++ [(⟨2, x1, x2, x3, x4⟩ : In)] ++ code.drop i) wx))
    case first =>
      refine wp_region_held_drew (S := fun w' => w'.cell? ⟨w.heap.size, 0, none⟩ = some (.int .i64 2) ∧ w'.cell? ⟨w.heap.size, 1, none⟩ = some (.int .i64 x1) ∧ w'.cell? ⟨w.heap.size, 2, none⟩ = some (.int .i64 x2) ∧ w'.cell? ⟨w.heap.size, 3, none⟩ = some (.int .i64 x3) ∧ w'.cell? ⟨w.heap.size, 4, none⟩ = some (.int .i64 x4)) (by kernel_rfl) (HSC.out _ (Below.refl _ _).drew) (fun hHeld => ?_)
      have HV : Hid (Below W2.heap.size W2 W2.drew) := (Below.refl _ _).drew
      generalize W2.drew = V0 at *
      refine take_at 1 51 (.slice a0 len0 cap0) rfl rfl (by kernel_rfl) (by kernel_rfl) (by kernel_rfl) (fun _ _ _ h => h) (Or.inl ⟨by rfl, ?_⟩) hHeld ?_
      · intro w9 hSw
        (try dsimp only at hSw)
        go_simp
        all_goals (intro h9; omega)
      (try simp only [Act.put, List.setIfInBounds_toArray, List.set_cons_zero, List.set_cons_succ])
      refine take_at 2 52 (.int .i64 i) rfl rfl (by kernel_rfl) (by kernel_rfl) (by kernel_rfl) (fun _ _ _ h => h) (Or.inl ⟨by rfl, ?_⟩) hHeld ?_
      · intro w9 hSw
        (try dsimp only at hSw)
        go_simp
        all_goals (intro h9; omega)
      (try simp only [Act.put, List.setIfInBounds_toArray, List.set_cons_zero, List.set_cons_succ])
      refine take_at 3 53 (.slice a0 i cap0) rfl rfl (by kernel_rfl) (by kernel_rfl) (by kernel_rfl) (fun _ _ _ h => h) (Or.inl ⟨by rfl, ?_⟩) hHeld ?_
      · intro w9 hSw
        (try dsimp only at hSw)
        go_simp
        all_goals (intro h9; omega)
      (try simp only [Act.put, List.setIfInBounds_toArray, List.set_cons_zero, List.set_cons_succ])
      refine take_at 5 55 (.agg #[.int .i64 2, .int .i64 x1, .int .i64 x2, .int .i64 x3, .int .i64 x4]) rfl rfl (by kernel_rfl) (by kernel_rfl) (by kernel_rfl) (fun _ _ _ h => h) (Or.inl ⟨by rfl, ?_⟩) hHeld ?_
      · intro w9 hSw
        (try dsimp only at hSw)
        go_simp
        all_goals (intro h9; omega)
      (try simp only [Act.put, List.setIfInBounds_toArray, List.set_cons_zero, List.set_cons_succ])
      refine take_at 8 58 (.slice a0 len0 cap0) rfl rfl (by kernel_rfl) (by kernel_rfl) (by kernel_rfl) (fun _ _ _ h => h) (Or.inl ⟨by rfl, ?_⟩) hHeld ?_
      · intro w9 hSw
        (try dsimp only at hSw)
        go_simp
        all_goals (intro h9; omega)
      (try simp only [Act.put, List.setIfInBounds_toArray, List.set_cons_zero, List.set_cons_succ])
      refine take_at 9 59 (.int .i64 i) rfl rfl (by kernel_rfl) (by kernel_rfl) (by kernel_rfl) (fun _ _ _ h => h) (Or.inl ⟨by rfl, ?_⟩) hHeld ?_
      · intro w9 hSw
        (try dsimp only at hSw)
        go_simp
        all_goals (intro h9; omega)
      (try simp only [Act.put, List.setIfInBounds_toArray, List.set_cons_zero, List.set_cons_succ])
      refine take_at 10 60 (.slice A3 (len0 - i) (cap0 - i)) rfl rfl (by kernel_rfl) (by kernel_rfl) (by kernel_rfl) (fun _ _ _ h => h) (Or.inl ⟨by rfl, ?_⟩) hHeld ?_
      · intro w9 hSw
        (try dsimp only at hSw)
        go_simp
        all_goals (intro h9; omega)
      (try simp only [Act.put, List.setIfInBounds_toArray, List.set_cons_zero, List.set_cons_succ])
      refine wpAnyH_ready (rs := [0, 6]) (by kernel_rfl) (by simp) ?_
      refine AllReadyH.cons rfl (fun K hK => ?_) ?_
      · go_simp
        have hBn := HV.out.alloc HV.out.size (.cells #[] 25)
        refine hK.out _ _ (HSC.out _ hBn) (fun hHeld => ?_)
        clear hK K
        have HL := Lib.hid ((RL.empty (f := In.cells) (s := 5) (T := 25) V0).base HV.out)
        have hsz := (Below.refl V0.heap.size V0).alloc (Nat.le_refl _) (.cells #[] 25)
        clear HV hsz
        have HV := Lib.hid hBn
        clear hBn
        generalize V0.alloc (.cells #[] 25) = V1 at *
        generalize V0.heap.size = e at *
        refine wpAnyH_ready (rs := [4, 6]) (by kernel_rfl) (by simp) ?_
        refine AllReadyH.cons rfl (fun K hK => ?_) ?_
        · refine step_append_any _ rfl (.tmp 50) (.tmp 53) 22 rfl W2.heap.size 25 i0 _ 5 40 Try.underlying22 hi0 hz0 hz1 hz2 rfl (by decide) (.slice (some ⟨e, 0, none⟩) 0 0) 0 [] rfl HL.out.own W2.heap.size a0 i cap0 ((code.take i).flatMap In.cells) rfl (HSE.out.below HV.out) (by rw [flatS_len in_len, HTL.out]) (flat_one in_one _) (by unfold maxLen; omega) (by omega) HV.out.size ?_
          intro v4 V2 ho1 hg1 ha1
          show K (Act.put _ (some 54) _) _
          have HL4 : Hid (RL In.cells 5 25 W2 v4 ([] ++ code.take i) V2) := HL.out.join (n := 0) rfl HTL.out ho1 hg1
          clear HL HV ho1 hg1 ha1
          have HV := Lib.hid HL4.out.blw
          refine hK.out _ _ (HSC.out _ HV.out) (fun hHeld => ?_)
          clear hK K
          refine wpAnyH_ready (rs := [6]) (by kernel_rfl) (by simp) ?_
          refine AllReadyH.cons rfl (fun K hK => ?_) ?_
          · go_simp
            have hBn := HV.out.alloc HV.out.size (.cells #[.int .i64 2, .int .i64 x1, .int .i64 x2, .int .i64 x3, .int .i64 x4] 25)
            refine hK.out _ _ (HSC.out _ hBn) (fun hHeld => ?_)
            clear hK K
            have HCc := Lib.hid ((sees_new V2 #[.int .i64 2, .int .i64 x1, .int .i64 x2, .int .i64 x3, .int .i64 x4] 25).more (show V2.heap.size + 1 ≤ (V2.alloc (.cells #[.int .i64 2, .int .i64 x1, .int .i64 x2, .int .i64 x3, .int .i64 x4] 25)).heap.size by simp))
            have hp : V2.heap.size < (V2.alloc (.cells #[.int .i64 2, .int .i64 x1, .int .i64 x2, .int .i64 x3, .int .i64 x4] 25)).heap.size := by simp
            have HL9 := Lib.hid (HL4.out.alloc (.cells #[.int .i64 2, .int .i64 x1, .int .i64 x2, .int .i64 x3, .int .i64 x4] 25))
            clear HL4
            have HL4 := HL9
            clear HL9
            clear HV
            have HV := Lib.hid hBn
            clear hBn
            generalize V2.alloc (.cells #[.int .i64 2, .int .i64 x1, .int .i64 x2, .int .i64 x3, .int .i64 x4] 25) = V3 at *
            generalize V2.heap.size = p at *
            refine wpAnyH_ready (rs := [7]) (by kernel_rfl) (by simp) ?_
            refine AllReadyH.cons rfl (fun K hK => ?_) ?_
            · refine step_append_any _ rfl (.tmp 54) (.tmp 56) 22 rfl W2.heap.size 25 i0 _ 5 40 Try.underlying22 hi0 hz0 hz1 hz2 rfl (by decide) _ _ _ rfl HL4.out.own V3.heap.size (some ⟨p, 0, none⟩) 1 1 (⟨2, x1, x2, x3, x4⟩ : In).cells rfl HCc.out rfl (in_one _) (by rw [HN4.out]; unfold maxLen; omega) (by rw [HN4.out]; omega) HV.out.size ?_
              intro v7 V4 ho1 hg1 ha1
              show K (Act.put _ (some 57) _) _
              have HL7 := Lib.hid (HL4.out.snoc (⟨2, x1, x2, x3, x4⟩ : In) rfl ho1 hg1)
              clear HL4 HCc HV ho1 hg1 ha1
              have HV := Lib.hid HL7.out.blw
              refine hK.out _ _ (HSC.out _ HV.out) (fun hHeld => ?_)
              clear hK K
              refine wpAnyH_ready (rs := [11]) (by kernel_rfl) (by simp) ?_
              refine AllReadyH.cons rfl (fun K hK => ?_) ?_
              · refine step_append_any _ rfl (.tmp 57) (.tmp 60) 22 rfl W2.heap.size 25 i0 _ 5 40 Try.underlying22 hi0 hz0 hz1 hz2 rfl (by decide) _ _ _ rfl HL7.out.own W2.heap.size A3 (len0 - i) (cap0 - i) ((code.drop i).flatMap In.cells) rfl (HSD.out.below HV.out) (by rw [flatS_len in_len, HDL.out]) (flat_one in_one _) (by rw [HN7.out]; unfold maxLen; omega) (by rw [HN7.out]; omega) HV.out.size ?_
                intro v11 V5 ho1 hg1 ha1
                show K (Act.put _ (some 61) _) _
                have HL11 := Lib.hid (HL7.out.join rfl HDL.out ho1 hg1)
                clear HL7 HV ho1 hg1 ha1
                have HV := Lib.hid HL11.out.blw
                refine hK.out _ _ (HSC.out _ HV.out) (fun hHeld => ?_)
                clear hK K
                obtain ⟨A9, c9, rfl, _, _⟩ := HL11.out.sliceN HLN.out
                refine take_at 12 15 (.slice A9 (len0 + 1) c9) rfl rfl (by kernel_rfl) (by kernel_rfl) (by kernel_rfl) (fun _ _ _ h => h) (Or.inl ⟨by rfl, ?_⟩) hHeld ?_
                · intro w9 hSw
                  (try dsimp only at hSw)
                  go_simp
                  all_goals (intro h9; omega)
                (try simp only [Act.put, List.setIfInBounds_toArray, List.set_cons_zero, List.set_cons_succ])
                refine wpAnyH_done (by kernel_rfl) ?_ _
                clear hHeld
                go_wp2_with fail
                go_meet
                case rel => exact ⟨A9, c9, rfl, HL11.out⟩
              exact AllReadyH.nil
            exact AllReadyH.nil
          exact AllReadyH.nil
        refine AllReadyH.cons rfl (fun K hK => ?_) ?_
        · go_simp
          have hBn := HV.out.alloc HV.out.size (.cells #[.int .i64 2, .int .i64 x1, .int .i64 x2, .int .i64 x3, .int .i64 x4] 25)
          refine hK.out _ _ (HSC.out _ hBn) (fun hHeld => ?_)
          clear hK K
          have HCc := Lib.hid ((sees_new V1 #[.int .i64 2, .int .i64 x1, .int .i64 x2, .int .i64 x3, .int .i64 x4] 25).more (show V1.heap.size + 1 ≤ (V1.alloc (.cells #[.int .i64 2, .int .i64 x1, .int .i64 x2, .int .i64 x3, .int .i64 x4] 25)).heap.size by simp))
          have hp : V1.heap.size < (V1.alloc (.cells #[.int .i64 2, .int .i64 x1, .int .i64 x2, .int .i64 x3, .int .i64 x4] 25)).heap.size := by simp
          have hpe : e ≠ V1.heap.size := by have := (ownS_lt HL.out.own e rfl).2; omega
          have HL9 := Lib.hid (HL.out.alloc (.cells #[.int .i64 2, .int .i64 x1, .int .i64 x2, .int .i64 x3, .int .i64 x4] 25))
          clear HL
          have HL := HL9
          clear HL9
          clear HV
          have HV := Lib.hid hBn
          clear hBn
          generalize V1.alloc (.cells #[.int .i64 2, .int .i64 x1, .int .i64 x2, .int .i64 x3, .int .i64 x4] 25) = V2 at *
          generalize V1.heap.size = p at *
          refine wpAnyH_ready (rs := [4]) (by kernel_rfl) (by simp) ?_
          refine AllReadyH.cons rfl (fun K hK => ?_) ?_
          · refine step_append_any _ rfl (.tmp 50) (.tmp 53) 22 rfl W2.heap.size 25 i0 _ 5 40 Try.underlying22 hi0 hz0 hz1 hz2 rfl (by decide) (.slice (some ⟨e, 0, none⟩) 0 0) 0 [] rfl HL.out.own W2.heap.size a0 i cap0 ((code.take i).flatMap In.cells) rfl (HSE.out.below HV.out) (by rw [flatS_len in_len, HTL.out]) (flat_one in_one _) (by unfold maxLen; omega) (by omega) HV.out.size ?_
            intro v4 V3 ho1 hg1 ha1
            show K (Act.put _ (some 54) _) _
            have HL4 : Hid (RL In.cells 5 25 W2 v4 ([] ++ code.take i) V3) := HL.out.join (n := 0) rfl HTL.out ho1 hg1
            have hsl : V2.heap.size ≤ V3.heap.size := hg1.size
            have HC9 := Lib.hid ((sees_aside HCc.out hg1 hp (by simp [Value.ownBlock]; exact hpe)).more hsl)
            clear HCc
            have HCc := HC9
            clear HC9
            have hp2 : p < V3.heap.size := by omega
            clear hp
            have hp := hp2
            clear hp2
            clear HL HV ho1 hg1 ha1
            have HV := Lib.hid HL4.out.blw
            refine hK.out _ _ (HSC.out _ HV.out) (fun hHeld => ?_)
            clear hK K
            refine wpAnyH_ready (rs := [7]) (by kernel_rfl) (by simp) ?_
            refine AllReadyH.cons rfl (fun K hK => ?_) ?_
            · refine step_append_any _ rfl (.tmp 54) (.tmp 56) 22 rfl W2.heap.size 25 i0 _ 5 40 Try.underlying22 hi0 hz0 hz1 hz2 rfl (by decide) _ _ _ rfl HL4.out.own V3.heap.size (some ⟨p, 0, none⟩) 1 1 (⟨2, x1, x2, x3, x4⟩ : In).cells rfl HCc.out rfl (in_one _) (by rw [HN4.out]; unfold maxLen; omega) (by rw [HN4.out]; omega) HV.out.size ?_
              intro v7 V4 ho1 hg1 ha1
              show K (Act.put _ (some 57) _) _
              have HL7 := Lib.hid (HL4.out.snoc (⟨2, x1, x2, x3, x4⟩ : In) rfl ho1 hg1)
              clear HL4 HCc HV ho1 hg1 ha1
              have HV := Lib.hid HL7.out.blw
              refine hK.out _ _ (HSC.out _ HV.out) (fun hHeld => ?_)
              clear hK K
              refine wpAnyH_ready (rs := [11]) (by kernel_rfl) (by simp) ?_
              refine AllReadyH.cons rfl (fun K hK => ?_) ?_
              · refine step_append_any _ rfl (.tmp 57) (.tmp 60) 22 rfl W2.heap.size 25 i0 _ 5 40 Try.underlying22 hi0 hz0 hz1 hz2 rfl (by decide) _ _ _ rfl HL7.out.own W2.heap.size A3 (len0 - i) (cap0 - i) ((code.drop i).flatMap In.cells) rfl (HSD.out.below HV.out) (by rw [flatS_len in_len, HDL.out]) (flat_one in_one _) (by rw [HN7.out]; unfold maxLen; omega) (by rw [HN7.out]; omega) HV.out.size ?_
                intro v11 V5 ho1 hg1 ha1
                show K (Act.put _ (some 61) _) _
                have HL11 := Lib.hid (HL7.out.join rfl HDL.out ho1 hg1)
                clear HL7 HV ho1 hg1 ha1
                have HV := Lib.hid HL11.out.blw
                refine hK.out _ _ (HSC.out _ HV.out) (fun hHeld => ?_)
                clear hK K
                obtain ⟨A9, c9, rfl, _, _⟩ := HL11.out.sliceN HLN.out
                refine take_at 12 15 (.slice A9 (len0 + 1) c9) rfl rfl (by kernel_rfl) (by kernel_rfl) (by kernel_rfl) (fun _ _ _ h => h) (Or.inl ⟨by rfl, ?_⟩) hHeld ?_
                · intro w9 hSw
                  (try dsimp only at hSw)
                  go_simp
                  all_goals (intro h9; omega)
                (try simp only [Act.put, List.setIfInBounds_toArray, List.set_cons_zero, List.set_cons_succ])
                refine wpAnyH_done (by kernel_rfl) ?_ _
                clear hHeld
                go_wp2_with fail
                go_meet
                case rel => exact ⟨A9, c9, rfl, HL11.out⟩
              exact AllReadyH.nil
            exact AllReadyH.nil
          exact AllReadyH.nil
        exact AllReadyH.nil
      refine AllReadyH.cons rfl (fun K hK => ?_) ?_
      · go_simp
        have hBn := HV.out.alloc HV.out.size (.cells #[.int .i64 2, .int .i64 x1, .int .i64 x2, .int .i64 x3, .int .i64 x4] 25)
        refine hK.out _ _ (HSC.out _ hBn) (fun hHeld => ?_)
        clear hK K
        have HCc := Lib.hid ((sees_new V0 #[.int .i64 2, .int .i64 x1, .int .i64 x2, .int .i64 x3, .int .i64 x4] 25).more (show V0.heap.size + 1 ≤ (V0.alloc (.cells #[.int .i64 2, .int .i64 x1, .int .i64 x2, .int .i64 x3, .int .i64 x4] 25)).heap.size by simp))
        have hp : V0.heap.size < (V0.alloc (.cells #[.int .i64 2, .int .i64 x1, .int .i64 x2, .int .i64 x3, .int .i64 x4] 25)).heap.size := by simp
        clear HV
        have HV := Lib.hid hBn
        clear hBn
        generalize V0.alloc (.cells #[.int .i64 2, .int .i64 x1, .int .i64 x2, .int .i64 x3, .int .i64 x4] 25) = V1 at *
        generalize V0.heap.size = p at *
        refine wpAnyH_ready (rs := [0]) (by kernel_rfl) (by simp) ?_
        refine AllReadyH.cons rfl (fun K hK => ?_) ?_
        · go_simp
          have hBn := HV.out.alloc HV.out.size (.cells #[] 25)
          refine hK.out _ _ (HSC.out _ hBn) (fun hHeld => ?_)
          clear hK K
          have HL := Lib.hid ((RL.empty (f := In.cells) (s := 5) (T := 25) V1).base HV.out)
          have hsz := (Below.refl V1.heap.size V1).alloc (Nat.le_refl _) (.cells #[] 25)
          have hpe : V1.heap.size ≠ p := by omega
          have HC9 := Lib.hid ((HCc.out.alloc (Nat.le_refl _) (.cells #[] 25)).more hsz.size)
          clear HCc
          have HCc := HC9
          clear HC9
          have hp2 : p < (V1.alloc (.cells #[] 25)).heap.size := by simp; omega
          clear hp
          have hp := hp2
          clear hp2
          clear HV hsz
          have HV := Lib.hid hBn
          clear hBn
          generalize V1.alloc (.cells #[] 25) = V2 at *
          generalize V1.heap.size = e at *
          refine wpAnyH_ready (rs := [4]) (by kernel_rfl) (by simp) ?_
          refine AllReadyH.cons rfl (fun K hK => ?_) ?_
          · refine step_append_any _ rfl (.tmp 50) (.tmp 53) 22 rfl W2.heap.size 25 i0 _ 5 40 Try.underlying22 hi0 hz0 hz1 hz2 rfl (by decide) (.slice (some ⟨e, 0, none⟩) 0 0) 0 [] rfl HL.out.own W2.heap.size a0 i cap0 ((code.take i).flatMap In.cells) rfl (HSE.out.below HV.out) (by rw [flatS_len in_len, HTL.out]) (flat_one in_one _) (by unfold maxLen; omega) (by omega) HV.out.size ?_
            intro v4 V3 ho1 hg1 ha1
            show K (Act.put _ (some 54) _) _
            have HL4 : Hid (RL In.cells 5 25 W2 v4 ([] ++ code.take i) V3) := HL.out.join (n := 0) rfl HTL.out ho1 hg1
            have hsl : V2.heap.size ≤ V3.heap.size := hg1.size
            have HC9 := Lib.hid ((sees_aside HCc.out hg1 hp (by simp [Value.ownBlock]; exact hpe)).more hsl)
            clear HCc
            have HCc := HC9
            clear HC9
            have hp2 : p < V3.heap.size := by omega
            clear hp
            have hp := hp2
            clear hp2
            clear HL HV ho1 hg1 ha1
            have HV := Lib.hid HL4.out.blw
            refine hK.out _ _ (HSC.out _ HV.out) (fun hHeld => ?_)
            clear hK K
            refine wpAnyH_ready (rs := [7]) (by kernel_rfl) (by simp) ?_
            refine AllReadyH.cons rfl (fun K hK => ?_) ?_
            · refine step_append_any _ rfl (.tmp 54) (.tmp 56) 22 rfl W2.heap.size 25 i0 _ 5 40 Try.underlying22 hi0 hz0 hz1 hz2 rfl (by decide) _ _ _ rfl HL4.out.own V3.heap.size (some ⟨p, 0, none⟩) 1 1 (⟨2, x1, x2, x3, x4⟩ : In).cells rfl HCc.out rfl (in_one _) (by rw [HN4.out]; unfold maxLen; omega) (by rw [HN4.out]; omega) HV.out.size ?_
              intro v7 V4 ho1 hg1 ha1
              show K (Act.put _ (some 57) _) _
              have HL7 := Lib.hid (HL4.out.snoc (⟨2, x1, x2, x3, x4⟩ : In) rfl ho1 hg1)
              clear HL4 HCc HV ho1 hg1 ha1
              have HV := Lib.hid HL7.out.blw
              refine hK.out _ _ (HSC.out _ HV.out) (fun hHeld => ?_)
              clear hK K
              refine wpAnyH_ready (rs := [11]) (by kernel_rfl) (by simp) ?_
              refine AllReadyH.cons rfl (fun K hK => ?_) ?_
              · refine step_append_any _ rfl (.tmp 57) (.tmp 60) 22 rfl W2.heap.size 25 i0 _ 5 40 Try.underlying22 hi0 hz0 hz1 hz2 rfl (by decide) _ _ _ rfl HL7.out.own W2.heap.size A3 (len0 - i) (cap0 - i) ((code.drop i).flatMap In.cells) rfl (HSD.out.below HV.out) (by rw [flatS_len in_len, HDL.out]) (flat_one in_one _) (by rw [HN7.out]; unfold maxLen; omega) (by rw [HN7.out]; omega) HV.out.size ?_
                intro v11 V5 ho1 hg1 ha1
                show K (Act.put _ (some 61) _) _
                have HL11 := Lib.hid (HL7.out.join rfl HDL.out ho1 hg1)
                clear HL7 HV ho1 hg1 ha1
                have HV := Lib.hid HL11.out.blw
                refine hK.out _ _ (HSC.out _ HV.out) (fun hHeld => ?_)
                clear hK K
                obtain ⟨A9, c9, rfl, _, _⟩ := HL11.out.sliceN HLN.out
                refine take_at 12 15 (.slice A9 (len0 + 1) c9) rfl rfl (by kernel_rfl) (by kernel_rfl) (by kernel_rfl) (fun _ _ _ h => h) (Or.inl ⟨by rfl, ?_⟩) hHeld ?_
                · intro w9 hSw
                  (try dsimp only at hSw)
                  go_simp
                  all_goals (intro h9; omega)
                (try simp only [Act.put, List.setIfInBounds_toArray, List.set_cons_zero, List.set_cons_succ])
                refine wpAnyH_done (by kernel_rfl) ?_ _
                clear hHeld
                go_wp2_with fail
                go_meet
                case rel => exact ⟨A9, c9, rfl, HL11.out⟩
              exact AllReadyH.nil
            exact AllReadyH.nil
          exact AllReadyH.nil
        exact AllReadyH.nil
      exact AllReadyH.nil
    case rest =>
      obtain ⟨A5, c5, rfl, HL⟩ := hcut
      obtain ⟨W3, hW⟩ : ∃ z, z = wc := ⟨_, rfl⟩
      subst hW
      clear HSE HSD HTL HDL HN4 HN7 HLN hcapcode hcmcode hizcode HSC hitecode
      have HK3 := Lib.hid (HK2.out.below HL.out.blw)
      have HM := Lib.hid (HM0.out.below HK3.out.blw)
      go_upto_region 8 with fail
      obtain ⟨A4, hitemach⟩ : ∃ z, (if cap1 = k then a1 else a1.map fun x => x.add (k * 7)) = z := ⟨_, rfl⟩
      have HSE : Hid (Sees W3 W3.heap.size a1 ((mach.take k).flatMap Mi.cells)) := (HM.out.see.take k).sees
      have HSD : Hid (Sees W3 W3.heap.size A4 ((mach.drop k).flatMap Mi.cells)) := by
        rw [← hitemach]
        exact (HM.out.see.cut (by rw [HM.out.len]; exact HM.out.cap)).sees
      have HTL : Hid ((mach.take k).length = k) := by show _ = _; rw [List.length_take, HM.out.len]; omega
      have HDL : Hid ((mach.drop k).length = len1 - k) := by show _ = _; rw [List.length_drop, HM.out.len]
      have HN4 : Hid (([] ++ mach.take k).length = k) := HTL.out
      have HN7 : Hid (([] ++ mach.take k ++ [(⟨18, y1, y2, y3, y4, y5, y6⟩ : Mi)]).length = k + 1) := by show _ = _; rw [List.length_append, HN4.out]; rfl
      have HLN : Hid (([] ++ mach.take k ++ [(⟨18, y1, y2, y3, y4, y5, y6⟩ : Mi)] ++ mach.drop k).length = len1 + 1) := by show _ = _; rw [List.length_append, HN7.out, HDL.out]; omega
      have hcapmach := HM.out.cap
      have hcmmach := HM.out.cmx
      have hizmach : (k : Int) ≤ (len1 : Int) := by omega
      have HSC : Hid (∀ w', Below W3.heap.size W3 w' → w'.cell? ⟨w.heap.size + 1, 0, none⟩ = some (.int .i64 18) ∧ w'.cell? ⟨w.heap.size + 1, 1, none⟩ = some (.int .i64 y1) ∧ w'.cell? ⟨w.heap.size + 1, 2, none⟩ = some (.int .i64 y2) ∧ w'.cell? ⟨w.heap.size + 1, 3, none⟩ = some (.int .i64 y3) ∧ w'.cell? ⟨w.heap.size + 1, 4, none⟩ = some (.int .i64 y4) ∧ w'.cell? ⟨w.heap.size + 1, 5, none⟩ = some (.int .i64 y5) ∧ w'.cell? ⟨w.heap.size + 1, 6, none⟩ = some (.int .i64 y6)) := fun V h => have k := HK3.out.m.below h HK3.out.m.lt; ⟨k.cell 0, k.cell 1, k.cell 2, k.cell 3, k.cell 4, k.cell 5, k.cell 6⟩
      go_cut [16] from 62 (fun s9 wx => ∃ A9 c9, s9 = .slice A9 (len1 + 1) c9 ∧ Hid (RL Mi.cells 7 28 W3 (.slice A9 (len1 + 1) c9) ([] ++ mach.take k ++ [(⟨18, y1, y2, y3, y4, y5, y6⟩ : Mi)] ++ mach.drop k) wx))
      case first =>
        refine wp_region_held_drew (S := fun w' => w'.cell? ⟨w.heap.size + 1, 0, none⟩ = some (.int .i64 18) ∧ w'.cell? ⟨w.heap.size + 1, 1, none⟩ = some (.int .i64 y1) ∧ w'.cell? ⟨w.heap.size + 1, 2, none⟩ = some (.int .i64 y2) ∧ w'.cell? ⟨w.heap.size + 1, 3, none⟩ = some (.int .i64 y3) ∧ w'.cell? ⟨w.heap.size + 1, 4, none⟩ = some (.int .i64 y4) ∧ w'.cell? ⟨w.heap.size + 1, 5, none⟩ = some (.int .i64 y5) ∧ w'.cell? ⟨w.heap.size + 1, 6, none⟩ = some (.int .i64 y6)) (by kernel_rfl) (HSC.out _ (Below.refl _ _).drew) (fun hHeld => ?_)
        have HV : Hid (Below W3.heap.size W3 W3.drew) := (Below.refl _ _).drew
        generalize W3.drew = V0 at *
        refine take_at 1 63 (.slice a1 len1 cap1) rfl rfl (by kernel_rfl) (by kernel_rfl) (by kernel_rfl) (fun _ _ _ h => h) (Or.inl ⟨by rfl, ?_⟩) hHeld ?_
        · intro w9 hSw
          (try dsimp only at hSw)
          go_simp
          all_goals (intro h9; omega)
        (try simp only [Act.put, List.setIfInBounds_toArray, List.set_cons_zero, List.set_cons_succ])
        refine take_at 2 64 (.int .i64 k) rfl rfl (by kernel_rfl) (by kernel_rfl) (by kernel_rfl) (fun _ _ _ h => h) (Or.inl ⟨by rfl, ?_⟩) hHeld ?_
        · intro w9 hSw
          (try dsimp only at hSw)
          go_simp
          all_goals (intro h9; omega)
        (try simp only [Act.put, List.setIfInBounds_toArray, List.set_cons_zero, List.set_cons_succ])
        refine take_at 3 65 (.slice a1 k cap1) rfl rfl (by kernel_rfl) (by kernel_rfl) (by kernel_rfl) (fun _ _ _ h => h) (Or.inl ⟨by rfl, ?_⟩) hHeld ?_
        · intro w9 hSw
          (try dsimp only at hSw)
          go_simp
          all_goals (intro h9; omega)
        (try simp only [Act.put, List.setIfInBounds_toArray, List.set_cons_zero, List.set_cons_succ])
        refine take_at 5 67 (.agg #[.int .i64 18, .int .i64 y1, .int .i64 y2, .int .i64 y3, .int .i64 y4, .int .i64 y5, .int .i64 y6]) rfl rfl (by kernel_rfl) (by kernel_rfl) (by kernel_rfl) (fun _ _ _ h => h) (Or.inl ⟨by rfl, ?_⟩) hHeld ?_
        · intro w9 hSw
          (try dsimp only at hSw)
          go_simp
          all_goals (intro h9; omega)
        (try simp only [Act.put, List.setIfInBounds_toArray, List.set_cons_zero, List.set_cons_succ])
        refine take_at 8 70 (.slice a1 len1 cap1) rfl rfl (by kernel_rfl) (by kernel_rfl) (by kernel_rfl) (fun _ _ _ h => h) (Or.inl ⟨by rfl, ?_⟩) hHeld ?_
        · intro w9 hSw
          (try dsimp only at hSw)
          go_simp
          all_goals (intro h9; omega)
        (try simp only [Act.put, List.setIfInBounds_toArray, List.set_cons_zero, List.set_cons_succ])
        refine take_at 9 71 (.int .i64 k) rfl rfl (by kernel_rfl) (by kernel_rfl) (by kernel_rfl) (fun _ _ _ h => h) (Or.inl ⟨by rfl, ?_⟩) hHeld ?_
        · intro w9 hSw
          (try dsimp only at hSw)
          go_simp
          all_goals (intro h9; omega)
        (try simp only [Act.put, List.setIfInBounds_toArray, List.set_cons_zero, List.set_cons_succ])
        refine take_at 10 72 (.slice A4 (len1 - k) (cap1 - k)) rfl rfl (by kernel_rfl) (by kernel_rfl) (by kernel_rfl) (fun _ _ _ h => h) (Or.inl ⟨by rfl, ?_⟩) hHeld ?_
        · intro w9 hSw
          (try dsimp only at hSw)
          go_simp
          all_goals (intro h9; omega)
        (try simp only [Act.put, List.setIfInBounds_toArray, List.set_cons_zero, List.set_cons_succ])
        refine wpAnyH_ready (rs := [0, 6]) (by kernel_rfl) (by simp) ?_
        refine AllReadyH.cons rfl (fun K hK => ?_) ?_
        · go_simp
          have hBn := HV.out.alloc HV.out.size (.cells #[] 28)
          refine hK.out _ _ (HSC.out _ hBn) (fun hHeld => ?_)
          clear hK K
          have HL := Lib.hid ((RL.empty (f := Mi.cells) (s := 7) (T := 28) V0).base HV.out)
          have hsz := (Below.refl V0.heap.size V0).alloc (Nat.le_refl _) (.cells #[] 28)
          clear HV hsz
          have HV := Lib.hid hBn
          clear hBn
          generalize V0.alloc (.cells #[] 28) = V1 at *
          generalize V0.heap.size = e at *
          refine wpAnyH_ready (rs := [4, 6]) (by kernel_rfl) (by simp) ?_
          refine AllReadyH.cons rfl (fun K hK => ?_) ?_
          · refine step_append_any _ rfl (.tmp 62) (.tmp 65) 23 rfl W3.heap.size 28 j0 _ 7 56 Try.underlying23 hj0 hy0 hy1 hy2 rfl (by decide) (.slice (some ⟨e, 0, none⟩) 0 0) 0 [] rfl HL.out.own W3.heap.size a1 k cap1 ((mach.take k).flatMap Mi.cells) rfl (HSE.out.below HV.out) (by rw [flatS_len mi_len, HTL.out]) (flat_one mi_one _) (by unfold maxLen; omega) (by omega) HV.out.size ?_
            intro v4 V2 ho1 hg1 ha1
            show K (Act.put _ (some 66) _) _
            have HL4 : Hid (RL Mi.cells 7 28 W3 v4 ([] ++ mach.take k) V2) := HL.out.join (n := 0) rfl HTL.out ho1 hg1
            clear HL HV ho1 hg1 ha1
            have HV := Lib.hid HL4.out.blw
            refine hK.out _ _ (HSC.out _ HV.out) (fun hHeld => ?_)
            clear hK K
            refine wpAnyH_ready (rs := [6]) (by kernel_rfl) (by simp) ?_
            refine AllReadyH.cons rfl (fun K hK => ?_) ?_
            · go_simp
              have hBn := HV.out.alloc HV.out.size (.cells #[.int .i64 18, .int .i64 y1, .int .i64 y2, .int .i64 y3, .int .i64 y4, .int .i64 y5, .int .i64 y6] 28)
              refine hK.out _ _ (HSC.out _ hBn) (fun hHeld => ?_)
              clear hK K
              have HCc := Lib.hid ((sees_new V2 #[.int .i64 18, .int .i64 y1, .int .i64 y2, .int .i64 y3, .int .i64 y4, .int .i64 y5, .int .i64 y6] 28).more (show V2.heap.size + 1 ≤ (V2.alloc (.cells #[.int .i64 18, .int .i64 y1, .int .i64 y2, .int .i64 y3, .int .i64 y4, .int .i64 y5, .int .i64 y6] 28)).heap.size by simp))
              have hp : V2.heap.size < (V2.alloc (.cells #[.int .i64 18, .int .i64 y1, .int .i64 y2, .int .i64 y3, .int .i64 y4, .int .i64 y5, .int .i64 y6] 28)).heap.size := by simp
              have HL9 := Lib.hid (HL4.out.alloc (.cells #[.int .i64 18, .int .i64 y1, .int .i64 y2, .int .i64 y3, .int .i64 y4, .int .i64 y5, .int .i64 y6] 28))
              clear HL4
              have HL4 := HL9
              clear HL9
              clear HV
              have HV := Lib.hid hBn
              clear hBn
              generalize V2.alloc (.cells #[.int .i64 18, .int .i64 y1, .int .i64 y2, .int .i64 y3, .int .i64 y4, .int .i64 y5, .int .i64 y6] 28) = V3 at *
              generalize V2.heap.size = p at *
              refine wpAnyH_ready (rs := [7]) (by kernel_rfl) (by simp) ?_
              refine AllReadyH.cons rfl (fun K hK => ?_) ?_
              · refine step_append_any _ rfl (.tmp 66) (.tmp 68) 23 rfl W3.heap.size 28 j0 _ 7 56 Try.underlying23 hj0 hy0 hy1 hy2 rfl (by decide) _ _ _ rfl HL4.out.own V3.heap.size (some ⟨p, 0, none⟩) 1 1 (⟨18, y1, y2, y3, y4, y5, y6⟩ : Mi).cells rfl HCc.out rfl (mi_one _) (by rw [HN4.out]; unfold maxLen; omega) (by rw [HN4.out]; omega) HV.out.size ?_
                intro v7 V4 ho1 hg1 ha1
                show K (Act.put _ (some 69) _) _
                have HL7 := Lib.hid (HL4.out.snoc (⟨18, y1, y2, y3, y4, y5, y6⟩ : Mi) rfl ho1 hg1)
                clear HL4 HCc HV ho1 hg1 ha1
                have HV := Lib.hid HL7.out.blw
                refine hK.out _ _ (HSC.out _ HV.out) (fun hHeld => ?_)
                clear hK K
                refine wpAnyH_ready (rs := [11]) (by kernel_rfl) (by simp) ?_
                refine AllReadyH.cons rfl (fun K hK => ?_) ?_
                · refine step_append_any _ rfl (.tmp 69) (.tmp 72) 23 rfl W3.heap.size 28 j0 _ 7 56 Try.underlying23 hj0 hy0 hy1 hy2 rfl (by decide) _ _ _ rfl HL7.out.own W3.heap.size A4 (len1 - k) (cap1 - k) ((mach.drop k).flatMap Mi.cells) rfl (HSD.out.below HV.out) (by rw [flatS_len mi_len, HDL.out]) (flat_one mi_one _) (by rw [HN7.out]; unfold maxLen; omega) (by rw [HN7.out]; omega) HV.out.size ?_
                  intro v11 V5 ho1 hg1 ha1
                  show K (Act.put _ (some 73) _) _
                  have HL11 := Lib.hid (HL7.out.join rfl HDL.out ho1 hg1)
                  clear HL7 HV ho1 hg1 ha1
                  have HV := Lib.hid HL11.out.blw
                  refine hK.out _ _ (HSC.out _ HV.out) (fun hHeld => ?_)
                  clear hK K
                  obtain ⟨A9, c9, rfl, _, _⟩ := HL11.out.sliceN HLN.out
                  refine take_at 12 16 (.slice A9 (len1 + 1) c9) rfl rfl (by kernel_rfl) (by kernel_rfl) (by kernel_rfl) (fun _ _ _ h => h) (Or.inl ⟨by rfl, ?_⟩) hHeld ?_
                  · intro w9 hSw
                    (try dsimp only at hSw)
                    go_simp
                    all_goals (intro h9; omega)
                  (try simp only [Act.put, List.setIfInBounds_toArray, List.set_cons_zero, List.set_cons_succ])
                  refine wpAnyH_done (by kernel_rfl) ?_ _
                  clear hHeld
                  go_wp2_with fail
                  go_meet
                  case rel => exact ⟨A9, c9, rfl, HL11.out⟩
                exact AllReadyH.nil
              exact AllReadyH.nil
            exact AllReadyH.nil
          refine AllReadyH.cons rfl (fun K hK => ?_) ?_
          · go_simp
            have hBn := HV.out.alloc HV.out.size (.cells #[.int .i64 18, .int .i64 y1, .int .i64 y2, .int .i64 y3, .int .i64 y4, .int .i64 y5, .int .i64 y6] 28)
            refine hK.out _ _ (HSC.out _ hBn) (fun hHeld => ?_)
            clear hK K
            have HCc := Lib.hid ((sees_new V1 #[.int .i64 18, .int .i64 y1, .int .i64 y2, .int .i64 y3, .int .i64 y4, .int .i64 y5, .int .i64 y6] 28).more (show V1.heap.size + 1 ≤ (V1.alloc (.cells #[.int .i64 18, .int .i64 y1, .int .i64 y2, .int .i64 y3, .int .i64 y4, .int .i64 y5, .int .i64 y6] 28)).heap.size by simp))
            have hp : V1.heap.size < (V1.alloc (.cells #[.int .i64 18, .int .i64 y1, .int .i64 y2, .int .i64 y3, .int .i64 y4, .int .i64 y5, .int .i64 y6] 28)).heap.size := by simp
            have hpe : e ≠ V1.heap.size := by have := (ownS_lt HL.out.own e rfl).2; omega
            have HL9 := Lib.hid (HL.out.alloc (.cells #[.int .i64 18, .int .i64 y1, .int .i64 y2, .int .i64 y3, .int .i64 y4, .int .i64 y5, .int .i64 y6] 28))
            clear HL
            have HL := HL9
            clear HL9
            clear HV
            have HV := Lib.hid hBn
            clear hBn
            generalize V1.alloc (.cells #[.int .i64 18, .int .i64 y1, .int .i64 y2, .int .i64 y3, .int .i64 y4, .int .i64 y5, .int .i64 y6] 28) = V2 at *
            generalize V1.heap.size = p at *
            refine wpAnyH_ready (rs := [4]) (by kernel_rfl) (by simp) ?_
            refine AllReadyH.cons rfl (fun K hK => ?_) ?_
            · refine step_append_any _ rfl (.tmp 62) (.tmp 65) 23 rfl W3.heap.size 28 j0 _ 7 56 Try.underlying23 hj0 hy0 hy1 hy2 rfl (by decide) (.slice (some ⟨e, 0, none⟩) 0 0) 0 [] rfl HL.out.own W3.heap.size a1 k cap1 ((mach.take k).flatMap Mi.cells) rfl (HSE.out.below HV.out) (by rw [flatS_len mi_len, HTL.out]) (flat_one mi_one _) (by unfold maxLen; omega) (by omega) HV.out.size ?_
              intro v4 V3 ho1 hg1 ha1
              show K (Act.put _ (some 66) _) _
              have HL4 : Hid (RL Mi.cells 7 28 W3 v4 ([] ++ mach.take k) V3) := HL.out.join (n := 0) rfl HTL.out ho1 hg1
              have hsl : V2.heap.size ≤ V3.heap.size := hg1.size
              have HC9 := Lib.hid ((sees_aside HCc.out hg1 hp (by simp [Value.ownBlock]; exact hpe)).more hsl)
              clear HCc
              have HCc := HC9
              clear HC9
              have hp2 : p < V3.heap.size := by omega
              clear hp
              have hp := hp2
              clear hp2
              clear HL HV ho1 hg1 ha1
              have HV := Lib.hid HL4.out.blw
              refine hK.out _ _ (HSC.out _ HV.out) (fun hHeld => ?_)
              clear hK K
              refine wpAnyH_ready (rs := [7]) (by kernel_rfl) (by simp) ?_
              refine AllReadyH.cons rfl (fun K hK => ?_) ?_
              · refine step_append_any _ rfl (.tmp 66) (.tmp 68) 23 rfl W3.heap.size 28 j0 _ 7 56 Try.underlying23 hj0 hy0 hy1 hy2 rfl (by decide) _ _ _ rfl HL4.out.own V3.heap.size (some ⟨p, 0, none⟩) 1 1 (⟨18, y1, y2, y3, y4, y5, y6⟩ : Mi).cells rfl HCc.out rfl (mi_one _) (by rw [HN4.out]; unfold maxLen; omega) (by rw [HN4.out]; omega) HV.out.size ?_
                intro v7 V4 ho1 hg1 ha1
                show K (Act.put _ (some 69) _) _
                have HL7 := Lib.hid (HL4.out.snoc (⟨18, y1, y2, y3, y4, y5, y6⟩ : Mi) rfl ho1 hg1)
                clear HL4 HCc HV ho1 hg1 ha1
                have HV := Lib.hid HL7.out.blw
                refine hK.out _ _ (HSC.out _ HV.out) (fun hHeld => ?_)
                clear hK K
                refine wpAnyH_ready (rs := [11]) (by kernel_rfl) (by simp) ?_
                refine AllReadyH.cons rfl (fun K hK => ?_) ?_
                · refine step_append_any _ rfl (.tmp 69) (.tmp 72) 23 rfl W3.heap.size 28 j0 _ 7 56 Try.underlying23 hj0 hy0 hy1 hy2 rfl (by decide) _ _ _ rfl HL7.out.own W3.heap.size A4 (len1 - k) (cap1 - k) ((mach.drop k).flatMap Mi.cells) rfl (HSD.out.below HV.out) (by rw [flatS_len mi_len, HDL.out]) (flat_one mi_one _) (by rw [HN7.out]; unfold maxLen; omega) (by rw [HN7.out]; omega) HV.out.size ?_
                  intro v11 V5 ho1 hg1 ha1
                  show K (Act.put _ (some 73) _) _
                  have HL11 := Lib.hid (HL7.out.join rfl HDL.out ho1 hg1)
                  clear HL7 HV ho1 hg1 ha1
                  have HV := Lib.hid HL11.out.blw
                  refine hK.out _ _ (HSC.out _ HV.out) (fun hHeld => ?_)
                  clear hK K
                  obtain ⟨A9, c9, rfl, _, _⟩ := HL11.out.sliceN HLN.out
                  refine take_at 12 16 (.slice A9 (len1 + 1) c9) rfl rfl (by kernel_rfl) (by kernel_rfl) (by kernel_rfl) (fun _ _ _ h => h) (Or.inl ⟨by rfl, ?_⟩) hHeld ?_
                  · intro w9 hSw
                    (try dsimp only at hSw)
                    go_simp
                    all_goals (intro h9; omega)
                  (try simp only [Act.put, List.setIfInBounds_toArray, List.set_cons_zero, List.set_cons_succ])
                  refine wpAnyH_done (by kernel_rfl) ?_ _
                  clear hHeld
                  go_wp2_with fail
                  go_meet
                  case rel => exact ⟨A9, c9, rfl, HL11.out⟩
                exact AllReadyH.nil
              exact AllReadyH.nil
            exact AllReadyH.nil
          exact AllReadyH.nil
        refine AllReadyH.cons rfl (fun K hK => ?_) ?_
        · go_simp
          have hBn := HV.out.alloc HV.out.size (.cells #[.int .i64 18, .int .i64 y1, .int .i64 y2, .int .i64 y3, .int .i64 y4, .int .i64 y5, .int .i64 y6] 28)
          refine hK.out _ _ (HSC.out _ hBn) (fun hHeld => ?_)
          clear hK K
          have HCc := Lib.hid ((sees_new V0 #[.int .i64 18, .int .i64 y1, .int .i64 y2, .int .i64 y3, .int .i64 y4, .int .i64 y5, .int .i64 y6] 28).more (show V0.heap.size + 1 ≤ (V0.alloc (.cells #[.int .i64 18, .int .i64 y1, .int .i64 y2, .int .i64 y3, .int .i64 y4, .int .i64 y5, .int .i64 y6] 28)).heap.size by simp))
          have hp : V0.heap.size < (V0.alloc (.cells #[.int .i64 18, .int .i64 y1, .int .i64 y2, .int .i64 y3, .int .i64 y4, .int .i64 y5, .int .i64 y6] 28)).heap.size := by simp
          clear HV
          have HV := Lib.hid hBn
          clear hBn
          generalize V0.alloc (.cells #[.int .i64 18, .int .i64 y1, .int .i64 y2, .int .i64 y3, .int .i64 y4, .int .i64 y5, .int .i64 y6] 28) = V1 at *
          generalize V0.heap.size = p at *
          refine wpAnyH_ready (rs := [0]) (by kernel_rfl) (by simp) ?_
          refine AllReadyH.cons rfl (fun K hK => ?_) ?_
          · go_simp
            have hBn := HV.out.alloc HV.out.size (.cells #[] 28)
            refine hK.out _ _ (HSC.out _ hBn) (fun hHeld => ?_)
            clear hK K
            have HL := Lib.hid ((RL.empty (f := Mi.cells) (s := 7) (T := 28) V1).base HV.out)
            have hsz := (Below.refl V1.heap.size V1).alloc (Nat.le_refl _) (.cells #[] 28)
            have hpe : V1.heap.size ≠ p := by omega
            have HC9 := Lib.hid ((HCc.out.alloc (Nat.le_refl _) (.cells #[] 28)).more hsz.size)
            clear HCc
            have HCc := HC9
            clear HC9
            have hp2 : p < (V1.alloc (.cells #[] 28)).heap.size := by simp; omega
            clear hp
            have hp := hp2
            clear hp2
            clear HV hsz
            have HV := Lib.hid hBn
            clear hBn
            generalize V1.alloc (.cells #[] 28) = V2 at *
            generalize V1.heap.size = e at *
            refine wpAnyH_ready (rs := [4]) (by kernel_rfl) (by simp) ?_
            refine AllReadyH.cons rfl (fun K hK => ?_) ?_
            · refine step_append_any _ rfl (.tmp 62) (.tmp 65) 23 rfl W3.heap.size 28 j0 _ 7 56 Try.underlying23 hj0 hy0 hy1 hy2 rfl (by decide) (.slice (some ⟨e, 0, none⟩) 0 0) 0 [] rfl HL.out.own W3.heap.size a1 k cap1 ((mach.take k).flatMap Mi.cells) rfl (HSE.out.below HV.out) (by rw [flatS_len mi_len, HTL.out]) (flat_one mi_one _) (by unfold maxLen; omega) (by omega) HV.out.size ?_
              intro v4 V3 ho1 hg1 ha1
              show K (Act.put _ (some 66) _) _
              have HL4 : Hid (RL Mi.cells 7 28 W3 v4 ([] ++ mach.take k) V3) := HL.out.join (n := 0) rfl HTL.out ho1 hg1
              have hsl : V2.heap.size ≤ V3.heap.size := hg1.size
              have HC9 := Lib.hid ((sees_aside HCc.out hg1 hp (by simp [Value.ownBlock]; exact hpe)).more hsl)
              clear HCc
              have HCc := HC9
              clear HC9
              have hp2 : p < V3.heap.size := by omega
              clear hp
              have hp := hp2
              clear hp2
              clear HL HV ho1 hg1 ha1
              have HV := Lib.hid HL4.out.blw
              refine hK.out _ _ (HSC.out _ HV.out) (fun hHeld => ?_)
              clear hK K
              refine wpAnyH_ready (rs := [7]) (by kernel_rfl) (by simp) ?_
              refine AllReadyH.cons rfl (fun K hK => ?_) ?_
              · refine step_append_any _ rfl (.tmp 66) (.tmp 68) 23 rfl W3.heap.size 28 j0 _ 7 56 Try.underlying23 hj0 hy0 hy1 hy2 rfl (by decide) _ _ _ rfl HL4.out.own V3.heap.size (some ⟨p, 0, none⟩) 1 1 (⟨18, y1, y2, y3, y4, y5, y6⟩ : Mi).cells rfl HCc.out rfl (mi_one _) (by rw [HN4.out]; unfold maxLen; omega) (by rw [HN4.out]; omega) HV.out.size ?_
                intro v7 V4 ho1 hg1 ha1
                show K (Act.put _ (some 69) _) _
                have HL7 := Lib.hid (HL4.out.snoc (⟨18, y1, y2, y3, y4, y5, y6⟩ : Mi) rfl ho1 hg1)
                clear HL4 HCc HV ho1 hg1 ha1
                have HV := Lib.hid HL7.out.blw
                refine hK.out _ _ (HSC.out _ HV.out) (fun hHeld => ?_)
                clear hK K
                refine wpAnyH_ready (rs := [11]) (by kernel_rfl) (by simp) ?_
                refine AllReadyH.cons rfl (fun K hK => ?_) ?_
                · refine step_append_any _ rfl (.tmp 69) (.tmp 72) 23 rfl W3.heap.size 28 j0 _ 7 56 Try.underlying23 hj0 hy0 hy1 hy2 rfl (by decide) _ _ _ rfl HL7.out.own W3.heap.size A4 (len1 - k) (cap1 - k) ((mach.drop k).flatMap Mi.cells) rfl (HSD.out.below HV.out) (by rw [flatS_len mi_len, HDL.out]) (flat_one mi_one _) (by rw [HN7.out]; unfold maxLen; omega) (by rw [HN7.out]; omega) HV.out.size ?_
                  intro v11 V5 ho1 hg1 ha1
                  show K (Act.put _ (some 73) _) _
                  have HL11 := Lib.hid (HL7.out.join rfl HDL.out ho1 hg1)
                  clear HL7 HV ho1 hg1 ha1
                  have HV := Lib.hid HL11.out.blw
                  refine hK.out _ _ (HSC.out _ HV.out) (fun hHeld => ?_)
                  clear hK K
                  obtain ⟨A9, c9, rfl, _, _⟩ := HL11.out.sliceN HLN.out
                  refine take_at 12 16 (.slice A9 (len1 + 1) c9) rfl rfl (by kernel_rfl) (by kernel_rfl) (by kernel_rfl) (fun _ _ _ h => h) (Or.inl ⟨by rfl, ?_⟩) hHeld ?_
                  · intro w9 hSw
                    (try dsimp only at hSw)
                    go_simp
                    all_goals (intro h9; omega)
                  (try simp only [Act.put, List.setIfInBounds_toArray, List.set_cons_zero, List.set_cons_succ])
                  refine wpAnyH_done (by kernel_rfl) ?_ _
                  clear hHeld
                  go_wp2_with fail
                  go_meet
                  case rel => exact ⟨A9, c9, rfl, HL11.out⟩
                exact AllReadyH.nil
              exact AllReadyH.nil
            exact AllReadyH.nil
          exact AllReadyH.nil
        exact AllReadyH.nil
      case rest =>
        obtain ⟨A6, c6, rfl, HN⟩ := hcut
        obtain ⟨W4, hW⟩ : ∃ z, z = wc := ⟨_, rfl⟩
        subst hW
        clear HSE HSD HTL HDL HN4 HN7 HLN hcapmach hcmmach hizmach HSC hitemach
        have HB4 := Lib.hid (HK3.out.below HN.out.blw).blw
        have HC4 := Lib.hid (HC0.out.below HB4.out)
        have HM4 := Lib.hid (HM0.out.below HB4.out)
        have HC5 : Hid (CS W4 A5 (len0 + 1) c5 (code.take i ++ [(⟨2, x1, x2, x3, x4⟩ : In)] ++ code.drop i)) := (HL.out.next HN.out.blw).cs
        have HM5 : Hid (MS W4 A6 (len1 + 1) c6 (mach.take k ++ [(⟨18, y1, y2, y3, y4, y5, y6⟩ : Mi)] ++ mach.drop k)) := HN.out.ms fun x hx => by
          rcases List.mem_append.1 hx with hx | hx
          · rcases List.mem_append.1 hx with hx | hx
            · exact HM4.out.see.ok x (List.mem_of_mem_take (by simpa using hx))
            · rw [List.mem_singleton] at hx
              subst hx
              exact HOK.out
          · exact HM4.out.see.ok x (List.mem_of_mem_drop hx)
        obtain ⟨E1, E2⟩ := alC_ins (code := code) (mach := mach) (c := (⟨2, x1, x2, x3, x4⟩ : In)) (m := (⟨18, y1, y2, y3, y4, y5, y6⟩ : Mi)) rfl rfl i k
        obtain ⟨R1, R2, R3, HR⟩ : ∃ x y z, Hid (alC code mach = (x, y, z)) := ⟨_, _, _, rfl⟩
        obtain ⟨Q1, Q2, Q3, HQ⟩ : ∃ x y z, Hid (alC (code.take i ++ [(⟨2, x1, x2, x3, x4⟩ : In)] ++ code.drop i) (mach.take k ++ [(⟨18, y1, y2, y3, y4, y5, y6⟩ : Mi)] ++ mach.drop k) = (x, y, z)) := ⟨_, _, _, rfl⟩
        rw [HR.out, HQ.out] at E1 E2
        dsimp only at E1 E2
        subst E1
        have HE2 := Lib.hid E2
        have C := Lib.hid (alcode_at HC4.out HM4.out (by omega) (by omega) HR.out)
        have HR3 : (Q3 == Q3) = true := by simp
        clear HL HN HK3 HK2 HM HC HC0 HM0 HR E2
        go_wp2_with fail
        refine C.out.mono ?_
        rintro e W5 ⟨A7, c7, rfl, hP⟩
        have HB5 := Lib.hid (HB4.out.trans (hP.blw.mono HB4.out.size))
        have C := Lib.hid (alcode_at (HC5.out.below hP.blw) (HM5.out.below hP.blw) (by omega) (by omega) HQ.out)
        rw [HE2.out] at C
        clear hP HC4 HM4 HC5 HM5 HB4 HQ HE2
        go_wp2_with fail
        refine C.out.mono ?_
        rintro e W6 ⟨A8, c8, rfl, hP⟩
        have HB6 := Lib.hid (HB5.out.trans (hP.blw.mono HB5.out.size))
        clear hP C HB5
        go_wp2
        go_ret
        exact ⟨rfl, HB6.out⟩

end Go.Proofs.Ytimmnnadoeagfaa
