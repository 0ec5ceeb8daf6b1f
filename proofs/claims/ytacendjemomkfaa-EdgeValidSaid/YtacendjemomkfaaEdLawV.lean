/-
  The walk of the statement on validity (its middle is written by wip/lab/genedv.py).
-/
import Derived.Test.YtacendjemomkfaaEdLawM
import Derived.Test.YtacendjemomkfaaRecL
import Derived.Test.YtacendjemomkfaaIL
import Derived.Test.YtacendjemomkfaaTake
import Derived.Test.YtacendjemomkfaaAside
import Derived.Deep.Cut
import Derived.Deep.CutRange
namespace Go.Proofs.Ytacendjemomkfaa
open Go.RowKit
set_option linter.unusedVariables false

theorem infoPs : (Try.prog.info? 33).map (fun i => (i.zero, i.size, i.bytes)) = some (some (.slice none 0 0), 1, 24) := by kernel_rfl

/-- A slice as a record of one cell; a pair as two. -/
abbrev oneV (v : Value) : List Value := [v]
abbrev prV (p : Pr) : List Value := [.int .i64 p.1, .int .i64 p.2]
theorem oneV_flat (l : List Value) : l.flatMap oneV = l := by induction l <;> simp_all [oneV]
theorem prV_flat (l : List Pr) : l.flatMap prV = prs l := rfl

/-- A valid list of invariants, one of which has a pair more. -/
theorem vlE_snoc {v r s : Int} {p : Pr} : ∀ {l : List Pr} {q : Option Pr}, vlE v r s q l = 0 → vlE v r s q (l ++ [p]) = prE v r s (if l = [] then q else l.getLast?) p
  | [], q, _ => by
    simp only [List.nil_append, vlE, if_true]
    split
    · rfl
    · next h => simp at h; exact h.symm
  | x :: l, q, h => by
    rw [vlE] at h
    split at h
    · next h1 => exact absurd h h1
    · next h1 =>
      rw [List.cons_append, vlE, if_neg h1, vlE_snoc h]
      congr 1
      cases l with
      | nil => simp
      | cons y l => simp [List.getLast?_cons_cons]

theorem vlsE_set {v r s : Int} {p : Pr} : ∀ {w : List (List Pr)} {k : Nat} (hk : k < w.length), vlsE v r s w = 0 → vlsE v r s (w.set k (w[k] ++ [p])) = prE v r s w[k].getLast? p
  | l :: w, 0, _, h => by
    rw [vlsE] at h
    split at h
    · next h1 => exact absurd h h1
    · next h1 =>
      have h1 : vlE v r s none l = 0 := by omega
      simp only [List.set_cons_zero, List.getElem_cons_zero]
      rw [vlsE, vlE_snoc h1, h]
      have e : (if l = [] then none else l.getLast?) = l.getLast? := by cases l <;> simp
      rw [e]
      split
      · rfl
      · omega
  | l :: w, k + 1, hk, h => by
    rw [vlsE] at h
    split at h
    · next h1 => exact absurd h h1
    · next h1 =>
      simp only [List.set_cons_succ, List.getElem_cons_succ]
      rw [vlsE, if_neg h1]
      exact vlsE_set (by simpa using hk) h

/-- One list in a list of lists is another one. -/
theorem seesPP_set {V : World} {B : Nat} {A' A : Option Addr} {vs : List Value} {xs : List (List Pr)} {k c n : Nat} {y : List Pr} (hc : CellsP V B vs xs) (hn : y.length = n) (hy : n ≤ c) (hm : c ≤ maxLen) (hs : Sees V B A (prs y)) (hx : Sees V B A' (vs.set k (.slice A n c))) : SeesPP V B A' (xs.set k y) := by
  subst hn
  refine ⟨vs.set k (.slice A y.length c), hx, by simp [hc.1], fun i z hz => ?_⟩
  rw [List.getElem?_set] at hz
  by_cases hi : k = i
  · subst hi
    rw [if_pos rfl] at hz
    split at hz
    · next h =>
      injection hz with hz
      subst hz
      exact ⟨A, c, by rw [List.getElem?_set_self (by rw [hc.1]; exact h)], hy, hm, hs⟩
    · cases hz
  · rw [if_neg hi] at hz
    obtain ⟨A1, c1, h1, h2⟩ := hc.2 i z hz
    exact ⟨A1, c1, by rw [List.getElem?_set_ne hi]; exact h1, h2⟩

theorem sees_set_aside {V : World} {B g k : Nat} {u : Value} {p o : Nat} {xs : List Value} (h : Sees V B (some ⟨p, o, none⟩) xs) (hne : p ≠ g) : Sees (V.setCell ⟨g, k, none⟩ u) B (some ⟨p, o, none⟩) xs := fun hx => by
  obtain ⟨b, o', e, hb, hc⟩ := h hx
  injection e with e
  injection e with e1 e2
  subst e1 e2
  exact ⟨p, o, rfl, hb, fun i u hu => by rw [World.cell?_setCell_other _ _ _ _ (by first | (simp; done) | (simp; intro h9; exact absurd h9 hne) | (simp [hne]; done))]; exact hc i u hu⟩

theorem Below.of_drewN (W : World) (n : Nat) : Below W.heap.size W (W.drewN n) := (Grew.drewN (Grew.refl W) n).below

set_option maxRecDepth 100000 in
set_option maxHeartbeats 16000000 in
theorem EdgeValid_walk (a0 : Option Addr) (len0 cap0 : Nat) (a1 a2 a3 a4 : Int) (a5 : Array Value) (w : World) (w0 : IsPrss w a0 len0 cap0) (w1 : (Lit.int .u8 a1).wf = true) (w2 : (Lit.int .u8 a2).wf = true) (w3 : (Lit.int .u8 a3).wf = true) (w4 : (Lit.int .u8 a4).wf = true) (w5 : IsPr w a5) :
    Calls Try.prog 7 #[.slice a0 len0 cap0, .int .u8 a1, .int .u8 a2, .int .u8 a3, .int .u8 a4, .agg a5] w fun e w' => e = .returned (.bool true) ∧ Below w.heap.size w w' := by
  have mixed : Try.prog.follows .mixedOrders = true := by kernel_rfl
  obtain ⟨xs, rfl, hxs, hxw, hlc, hxm⟩ := w0
  obtain ⟨⟨v, l⟩, rfl, hpw⟩ := w5
  have hv := i64_of_wf hpw.1
  have hl := i64_of_wf hpw.2
  obtain ⟨n1, rfl, hn1⟩ := u8_nat w1
  obtain ⟨n2, rfl, hn2⟩ := u8_nat w2
  obtain ⟨n3, rfl, hn3⟩ := u8_nat w3
  obtain ⟨n4, rfl, hn4⟩ := u8_nat w4
  obtain ⟨i0, hi0, hz0, hz1, hz2⟩ := info_pr
  obtain ⟨j0, hj0, hy0, hy1, hy2⟩ := info_parts infoPs
  have AW : Hid (∀ W, Calls Try.prog 8 #[] W fun e w' => e = .returned (.bool true) ∧ Below W.heap.size W w') := fun W => awake_any W
  have HXW := Lib.hid hxw
  have HPW := Lib.hid hpw
  have hb0 := (Below.refl w.heap.size w).alloc (Nat.le_refl _) (prObj v l)
  have HE : Hid (EM w a0 xs w.heap.size v l (w.alloc (prObj v l))) := ⟨hb0, hxs.below hb0, Row.new w _ _⟩
  have hml : xs.length ≤ maxLen := by omega
  clear w1 w2 w3 w4 hxs hxw hb0 hpw
  dsimp only at hv hl
  go_enter Try.func7, Try.ntmps7
  go_upto_region 1 with fail
  generalize (w.alloc (.cells #[.int .i64 v, .int .i64 l] 25)) = W0 at *
  go_wp2_with fail
  refine (AW.out _).mono ?_
  rintro e W1 ⟨rfl, hb⟩
  have HE1 := Lib.hid (HE.out.next hb)
  clear hb HE
  go_wp2_with fail
  refine (rfew_any _ _ xs _ W1 HE1.out.see hml).mono ?_
  rintro e W2 ⟨⟨b, rfl, hF⟩, hG⟩
  have HE2 := Lib.hid (HE1.out.next hG.below)
  clear hG HE1
  cases b
  · clear hF
    go_wp2_with fail
    refine (AW.out _).mono ?_
    rintro e W9 ⟨rfl, hb⟩
    have HZ := Lib.hid (HE2.out.next hb)
    clear hb HE2
    go_wp2
    go_ret
    exact ⟨rfl, HZ.out.blw⟩
  · obtain ⟨hf1, hf2⟩ := hF rfl
    have HF1 := Lib.hid hf1
    have HF2 := Lib.hid hf2
    clear hF hf2
    by_cases h0 : xs.length = 0
    · have e0 : ((xs.length : Int) == 0) = true := by simp [h0]
      clear h0
      go_wp2_with fail
      refine (AW.out _).mono ?_
      rintro e W9 ⟨rfl, hb⟩
      have HZ := Lib.hid (HE2.out.next hb)
      clear hb HE2
      go_wp2
      go_ret
      exact ⟨rfl, HZ.out.blw⟩
    · have e0 : ((xs.length : Int) == 0) = false := by simp [h0]
      have hpos : 0 < xs.length := by omega
      clear AW h0
      have C1 := Lib.hid (pvalid_any _ a0 xs cap0 (xs.length : Int) (n1 : Int) (n2 : Int) (n3 : Int) W2 HE2.out.see HE2.out.blw.size (by have := HF1.out; omega) (fun x hx => by have := HF2.out x hx; omega) HXW.out)
      obtain ⟨E, hE⟩ : ∃ z, z = validE xs (xs.length : Int) (n1 : Int) (n2 : Int) (n3 : Int) := ⟨_, rfl⟩
      rw [← hE] at C1
      have HEV := Lib.hid hE
      clear hE
      obtain ⟨nn, hnn⟩ : ∃ z, z = xs.length := ⟨_, rfl⟩
      have HNN := Lib.hid hnn
      rw [← hnn] at C1 hf1 hpos hlc hml e0 ⊢
      clear hnn
      go_wp2_with fail
      refine C1.out.mono ?_
      rintro e W3 ⟨rfl, hb⟩
      have HE3 := Lib.hid (HE2.out.next hb)
      clear hb HE2 C1
      by_cases hE0 : E = 0
      · have eE : (E != 0) = false := by simp [hE0]
        have HV0 : Hid (vlsE (n1 : Int) (n2 : Int) (n3 : Int) xs = 0) := by
          have h := HEV.out.symm.trans hE0
          unfold validE at h
          rw [if_neg (by simp)] at h
          exact h
        have C2 := Lib.hid (pvalid_any _ a0 xs cap0 ((nn : Int) + 1) (n1 : Int) (n2 : Int) (n3 : Int) W3 HE3.out.see HE3.out.blw.size (by have := HF1.out; omega) (fun x hx => by have := HF2.out x hx; omega) HXW.out)
        rw [show validE xs ((nn : Int) + 1) (n1 : Int) (n2 : Int) (n3 : Int) = 14 by unfold validE; rw [if_pos (by rw [HNN.out]; omega)], ← HNN.out] at C2
        clear hE0 HEV
        go_wp2_with fail
        refine C2.out.mono ?_
        rintro e W4 ⟨rfl, hb⟩
        have HE4 := Lib.hid (HE3.out.next hb)
        clear hb HE3 C2
        obtain ⟨k, hrk, hk⟩ : ∃ k : Nat, (n4 : Int) % (nn : Int) = (k : Int) ∧ k < nn := ⟨n4 % nn, (Int.natCast_emod _ _).symm, Nat.mod_lt _ hpos⟩
        go_upto_region 7 with fail
        rw [hrk]
        clear hrk hn4
        have hkx : k < xs.length := by rw [← HNN.out]; exact hk
        obtain ⟨vs, hvs, hcl, hce⟩ := HE4.out.see
        obtain ⟨Ak, ck, hvk, hck, hcmk, hsk⟩ := hce k xs[k] (List.getElem?_eq_getElem hkx)
        have HVS := Lib.hid hvs
        have HCL : Hid (vs.length = nn) := hcl.trans HNN.out.symm
        have HCE : Hid (CellsP W4 w.heap.size vs xs) := ⟨hcl, hce⟩
        have HVK := Lib.hid hvk
        have HSK := Lib.hid hsk
        have hm4 := HF2.out _ (List.getElem_mem hkx)
        obtain ⟨m, hmm⟩ : ∃ z, z = xs[k].length := ⟨_, rfl⟩
        rw [← hmm] at hck hm4 HVK
        have HMM := Lib.hid hmm
        clear hvs hcl hce hvk hsk hmm
        go_wp2_with (at_builtin; go_loud (refine wpList_append_any _ rfl (.tmp 63) (.tmp 64) 22 rfl W4.heap.size 33 j0 (.slice none 0 0) 1 24 Try.underlying22 hj0 hy0 hy1 hy2 rfl (by decide) _ _ _ rfl (own_empty W4 33 1) w.heap.size _ _ _ vs rfl (HVS.out.alloc HE4.out.blw.size _) (by rw [HCL.out, Nat.mul_one]) HCE.out.one (by unfold maxLen; omega) (by omega) (by simp) ?_))
        intro vX W5 ho1 hg1 _
        have HX : Hid (RL oneV 1 33 W4 vX vs W5) := by
          show RL oneV 1 33 W4 vX vs W5
          have h := (RL.empty (f := oneV) (s := 1) (T := 33) W4).join (r := vs) (n := 0) rfl HCL.out (by rw [oneV_flat, oneV_flat, Nat.zero_add, List.nil_append]; exact ho1) hg1
          simpa using h
        clear ho1 hg1
        obtain ⟨AX, cX, rfl, hcX, hcmX⟩ := HX.out.sliceN HCL.out
        obtain ⟨gX, rfl⟩ := HX.out.some_ (by omega)
        go_upto_region 8 with fail
        obtain ⟨lk, hlk⟩ : ∃ z, z = xs[k] := ⟨_, rfl⟩
        rw [← hlk] at HSK HMM
        have HLKX := Lib.hid hlk
        clear hlk
        have HLK : Hid (lk.length = m) := HMM.out.symm
        have hw5 : w.heap.size ≤ W5.heap.size := Nat.le_trans HE4.out.blw.size HX.out.blw.size
        have HSK5 := Lib.hid (HSK.out.below (HX.out.blw.mono HE4.out.blw.size))
        have HN7 : Hid (([] ++ lk).length = m) := HLK.out
        have HLN : Hid (([] ++ lk ++ [(v, l)]).length = m + 1) := by show _ = _; rw [List.length_append, HN7.out]; rfl
        obtain ⟨b, o, eb, hbb, hcb⟩ := HVS.out (by intro e; have := congrArg List.length e; rw [HCL.out] at this; simp at this; omega)
        subst eb
        have hcb := hcb k _ HVK.out
        have hmi : (m : Int) ≤ (ck : Int) := by omega
        have HSX : Hid (∀ uu w', Below W5.heap.size W5 w' → (w'.setCell ⟨gX, k, none⟩ uu).cell? ⟨b, o + k, none⟩ = some (.slice Ak m ck) ∧ (w'.setCell ⟨gX, k, none⟩ uu).cell? ⟨w.heap.size, 0, none⟩ = some (.int .i64 v) ∧ (w'.setCell ⟨gX, k, none⟩ uu).cell? ⟨w.heap.size, 1, none⟩ = some (.int .i64 l)) := fun uu V h => by
          have hX := HX.out.blw.trans (h.mono HX.out.blw.size)
          have k2 := HE4.out.row.below hX HE4.out.row.lt
          have s0 : w.heap.size < W4.heap.size := HE4.out.row.lt
          have f1 := (hX.cell (p := ⟨b, o + k, none⟩) (by show b < _; omega)).trans hcb
          have f2 := k2.cell 0
          have f3 := k2.cell 1
          have g : w.heap.size < gX := by have := (ownS_lt HX.out.own gX rfl).1; omega
          refine ⟨?_, ?_, ?_⟩
          · rw [World.cell?_setCell_other _ _ _ _ (by first | (simp; done) | (simp; omega))]; exact f1
          · rw [World.cell?_setCell_other _ _ _ _ (by first | (simp; done) | (simp; omega))]; exact f2
          · rw [World.cell?_setCell_other _ _ _ _ (by first | (simp; done) | (simp; omega))]; exact f3
        have HSC : Hid (∀ w', Below W5.heap.size W5 w' → w'.cell? ⟨b, o + k, none⟩ = some (.slice Ak m ck) ∧ w'.cell? ⟨w.heap.size, 0, none⟩ = some (.int .i64 v) ∧ w'.cell? ⟨w.heap.size, 1, none⟩ = some (.int .i64 l)) := fun V h => by
          have hX := HX.out.blw.trans (h.mono HX.out.blw.size)
          have k2 := HE4.out.row.below hX HE4.out.row.lt
          have s0 : w.heap.size < W4.heap.size := HE4.out.row.lt
          exact ⟨(hX.cell (p := ⟨b, o + k, none⟩) (by show b < _; omega)).trans hcb, k2.cell 0, k2.cell 1⟩
        go_cut [76] from 66 to 77 (fun s9 wx => ∃ A9 c9, s9 = .slice A9 (m + 1) c9 ∧ m + 1 ≤ c9 ∧ c9 ≤ maxLen ∧ ∃ V, Hid (RL prV 2 25 W5 (.slice A9 (m + 1) c9) ([] ++ lk ++ [(v, l)]) V) ∧ wx = V.setCell ⟨gX, k, none⟩ (.slice A9 (m + 1) c9))
        case first =>
          refine wp_region_held_drew (S := fun w' => w'.cell? ⟨b, o + k, none⟩ = some (.slice Ak m ck) ∧ w'.cell? ⟨w.heap.size, 0, none⟩ = some (.int .i64 v) ∧ w'.cell? ⟨w.heap.size, 1, none⟩ = some (.int .i64 l)) (by kernel_rfl) (HSC.out _ (Below.refl _ _).drew) (fun hHeld => ?_)
          have HV : Hid (Below W5.heap.size W5 W5.drew) := (Below.refl _ _).drew
          generalize W5.drew = V0 at *
          refine take_at 0 66 (.slice (some ⟨gX, 0, none⟩) nn cX) rfl rfl (by kernel_rfl) (by kernel_rfl) (by kernel_rfl) (fun _ _ _ h => h) (Or.inl ⟨by rfl, ?_⟩) hHeld ?_
          · intro w9 hSw
            (try dsimp only at hSw)
            go_simp
          (try simp only [Act.put, List.setIfInBounds_toArray, List.set_cons_zero, List.set_cons_succ])
          refine take_at 1 67 (.int .i64 k) rfl rfl (by kernel_rfl) (by kernel_rfl) (by kernel_rfl) (fun _ _ _ h => h) (Or.inl ⟨by rfl, ?_⟩) hHeld ?_
          · intro w9 hSw
            (try dsimp only at hSw)
            go_simp
          (try simp only [Act.put, List.setIfInBounds_toArray, List.set_cons_zero, List.set_cons_succ])
          refine take_at 3 69 (.slice (some ⟨b, o, none⟩) nn cap0) rfl rfl (by kernel_rfl) (by kernel_rfl) (by kernel_rfl) (fun _ _ _ h => h) (Or.inl ⟨by rfl, ?_⟩) hHeld ?_
          · intro w9 hSw
            (try dsimp only at hSw)
            go_simp
          (try simp only [Act.put, List.setIfInBounds_toArray, List.set_cons_zero, List.set_cons_succ])
          refine take_at 4 70 (.int .i64 k) rfl rfl (by kernel_rfl) (by kernel_rfl) (by kernel_rfl) (fun _ _ _ h => h) (Or.inl ⟨by rfl, ?_⟩) hHeld ?_
          · intro w9 hSw
            (try dsimp only at hSw)
            go_simp
          (try simp only [Act.put, List.setIfInBounds_toArray, List.set_cons_zero, List.set_cons_succ])
          refine take_at 5 71 (.pointer (some ⟨b, o + k, none⟩)) rfl rfl (by kernel_rfl) (by kernel_rfl) (by kernel_rfl) (fun _ _ _ h => h) (Or.inl ⟨by rfl, ?_⟩) hHeld ?_
          · intro w9 hSw
            (try dsimp only at hSw)
            go_simp
          (try simp only [Act.put, List.setIfInBounds_toArray, List.set_cons_zero, List.set_cons_succ])
          refine take_at 6 72 (.slice Ak m ck) rfl rfl (by kernel_rfl) (by kernel_rfl) (by kernel_rfl) (fun _ _ _ h => h) (Or.inl ⟨by rfl, ?_⟩) hHeld ?_
          · intro w9 hSw
            (try dsimp only at hSw)
            go_simp
          (try simp only [Act.put, List.setIfInBounds_toArray, List.set_cons_zero, List.set_cons_succ])
          refine take_at 8 74 (.agg #[.int .i64 v, .int .i64 l]) rfl rfl (by kernel_rfl) (by kernel_rfl) (by kernel_rfl) (fun _ _ _ h => h) (Or.inl ⟨by rfl, ?_⟩) hHeld ?_
          · intro w9 hSw
            (try dsimp only at hSw)
            go_simp
          (try simp only [Act.put, List.setIfInBounds_toArray, List.set_cons_zero, List.set_cons_succ])
          refine wpAnyH_ready (rs := [2, 9]) (by kernel_rfl) (by simp) ?_
          refine AllReadyH.cons rfl (fun K hK => ?_) ?_
          · go_simp
            have hBn := HV.out.alloc HV.out.size (.cells #[] 25)
            refine hK.out _ _ (HSC.out _ hBn) (fun hHeld => ?_)
            clear hK K
            have HL := Lib.hid ((RL.empty (f := prV) (s := 2) (T := 25) V0).base HV.out)
            have hsz := (Below.refl V0.heap.size V0).alloc (Nat.le_refl _) (.cells #[] 25)
            clear HV hsz
            have HV := Lib.hid hBn
            clear hBn
            generalize V0.alloc (.cells #[] 25) = V1 at *
            generalize V0.heap.size = e at *
            refine wpAnyH_ready (rs := [7, 9]) (by kernel_rfl) (by simp) ?_
            refine AllReadyH.cons rfl (fun K hK => ?_) ?_
            · refine step_append_any _ rfl (.tmp 68) (.tmp 72) 33 rfl W5.heap.size 25 i0 _ 2 16 Try.underlying33 hi0 hz0 hz1 hz2 rfl (by decide) (.slice (some ⟨e, 0, none⟩) 0 0) 0 [] rfl HL.out.own w.heap.size Ak m ck (prs lk) rfl (HSK5.out.below (HV.out.mono hw5)) (by rw [prs_length, HLK.out]) (prs_one _) (by unfold maxLen; omega) (by omega) HV.out.size ?_
              intro v7 V2 ho1 hg1 ha1
              show K (Act.put _ (some 73) _) _
              have HL7 : Hid (RL prV 2 25 W5 v7 ([] ++ lk) V2) := HL.out.join (n := 0) rfl HLK.out ho1 hg1
              clear HL HV ho1 hg1 ha1
              have HV := Lib.hid HL7.out.blw
              refine hK.out _ _ (HSC.out _ HV.out) (fun hHeld => ?_)
              clear hK K
              refine wpAnyH_ready (rs := [9]) (by kernel_rfl) (by simp) ?_
              refine AllReadyH.cons rfl (fun K hK => ?_) ?_
              · go_simp
                have hBn := HV.out.alloc HV.out.size (.cells #[.int .i64 v, .int .i64 l] 25)
                refine hK.out _ _ (HSC.out _ hBn) (fun hHeld => ?_)
                clear hK K
                have HCc := Lib.hid ((sees_new V2 #[.int .i64 v, .int .i64 l] 25).more (show V2.heap.size + 1 ≤ (V2.alloc (.cells #[.int .i64 v, .int .i64 l] 25)).heap.size by simp))
                have hp : V2.heap.size < (V2.alloc (.cells #[.int .i64 v, .int .i64 l] 25)).heap.size := by simp
                have HL9 := Lib.hid (HL7.out.alloc (.cells #[.int .i64 v, .int .i64 l] 25))
                clear HL7
                have HL7 := HL9
                clear HL9
                clear HV
                have HV := Lib.hid hBn
                clear hBn
                generalize V2.alloc (.cells #[.int .i64 v, .int .i64 l] 25) = V3 at *
                generalize V2.heap.size = p at *
                refine wpAnyH_ready (rs := [10]) (by kernel_rfl) (by simp) ?_
                refine AllReadyH.cons rfl (fun K hK => ?_) ?_
                · refine step_append_any _ rfl (.tmp 73) (.tmp 75) 33 rfl W5.heap.size 25 i0 _ 2 16 Try.underlying33 hi0 hz0 hz1 hz2 rfl (by decide) _ _ _ rfl HL7.out.own V3.heap.size (some ⟨p, 0, none⟩) 1 1 (prV (v, l)) rfl HCc.out rfl (prs_one [(v, l)]) (by rw [HN7.out]; unfold maxLen; omega) (by rw [HN7.out]; omega) HV.out.size ?_
                  intro v10 V4 ho1 hg1 ha1
                  show K (Act.put _ (some 76) _) _
                  have HL10 := Lib.hid (HL7.out.snoc (v, l) rfl ho1 hg1)
                  clear HL7 HCc HV ho1 hg1 ha1
                  have HV := Lib.hid HL10.out.blw
                  have hHeld0 := HV.out
                  refine hK.out _ _ (HSC.out _ HV.out) (fun hHeld => ?_)
                  clear hK K
                  obtain ⟨A9, c9, rfl, hc9, hcm9⟩ := HL10.out.sliceN HLN.out
                  have hXr := HX.out.next HV.out
                  have hgX : w.heap.size < gX := by have := (ownS_lt hXr.own gX rfl).1; have := HE4.out.row.lt; omega
                  have hgb : b ≠ gX := by omega
                  have hXf := hXr.frozen (k := k)
                  obtain ⟨uX, hXc⟩ : ∃ u, V4.cell? ⟨gX, k, none⟩ = some u := by
                    obtain ⟨b9, o9, e9, _, h9⟩ := hXr.sees (by rw [oneV_flat]; intro e; have := congrArg List.length e; rw [HCL.out] at this; simp at this; omega)
                    injection e9 with e9
                    injection e9 with e9 e10
                    subst e9 e10
                    have := h9 k _ (by rw [oneV_flat]; exact HVK.out)
                    rw [Nat.zero_add] at this
                    exact ⟨_, this⟩
                  refine take_at 11 77 (.pointer (some ⟨gX, k, none⟩)) rfl rfl (by kernel_rfl) (by kernel_rfl) (by kernel_rfl) (fun _ _ _ h => h) (Or.inl ⟨by rfl, ?_⟩) hHeld ?_
                  · intro w9 hSw
                    (try dsimp only at hSw)
                    go_simp
                  (try simp only [Act.put, List.setIfInBounds_toArray, List.set_cons_zero, List.set_cons_succ])
                  refine wpAnyH_ready (rs := [12]) (by kernel_rfl) (by simp) ?_
                  refine AllReadyH.cons rfl (fun K hK => ?_) ?_
                  · go_simp
                    refine hK.out _ _ (HSX.out _ _ hHeld0) (fun hHeld => ?_)
                    clear hK K
                    refine wpAnyH_done (by kernel_rfl) ?_ _
                    clear hHeld
                    go_wp2_with fail
                    go_meet
                    case rel => exact ⟨A9, c9, rfl, hc9, hcm9, _, HL10.out, rfl⟩
                  · exact AllReadyH.nil
                exact AllReadyH.nil
              exact AllReadyH.nil
            refine AllReadyH.cons rfl (fun K hK => ?_) ?_
            · go_simp
              have hBn := HV.out.alloc HV.out.size (.cells #[.int .i64 v, .int .i64 l] 25)
              refine hK.out _ _ (HSC.out _ hBn) (fun hHeld => ?_)
              clear hK K
              have HCc := Lib.hid ((sees_new V1 #[.int .i64 v, .int .i64 l] 25).more (show V1.heap.size + 1 ≤ (V1.alloc (.cells #[.int .i64 v, .int .i64 l] 25)).heap.size by simp))
              have hp : V1.heap.size < (V1.alloc (.cells #[.int .i64 v, .int .i64 l] 25)).heap.size := by simp
              have hpe : e ≠ V1.heap.size := by have := (ownS_lt HL.out.own e rfl).2; omega
              have HL9 := Lib.hid (HL.out.alloc (.cells #[.int .i64 v, .int .i64 l] 25))
              clear HL
              have HL := HL9
              clear HL9
              clear HV
              have HV := Lib.hid hBn
              clear hBn
              generalize V1.alloc (.cells #[.int .i64 v, .int .i64 l] 25) = V2 at *
              generalize V1.heap.size = p at *
              refine wpAnyH_ready (rs := [7]) (by kernel_rfl) (by simp) ?_
              refine AllReadyH.cons rfl (fun K hK => ?_) ?_
              · refine step_append_any _ rfl (.tmp 68) (.tmp 72) 33 rfl W5.heap.size 25 i0 _ 2 16 Try.underlying33 hi0 hz0 hz1 hz2 rfl (by decide) (.slice (some ⟨e, 0, none⟩) 0 0) 0 [] rfl HL.out.own w.heap.size Ak m ck (prs lk) rfl (HSK5.out.below (HV.out.mono hw5)) (by rw [prs_length, HLK.out]) (prs_one _) (by unfold maxLen; omega) (by omega) HV.out.size ?_
                intro v7 V3 ho1 hg1 ha1
                show K (Act.put _ (some 73) _) _
                have HL7 : Hid (RL prV 2 25 W5 v7 ([] ++ lk) V3) := HL.out.join (n := 0) rfl HLK.out ho1 hg1
                have hsl : V2.heap.size ≤ V3.heap.size := hg1.size
                have HC9 := Lib.hid ((sees_aside HCc.out hg1 hp (by simp [Value.ownBlock]; exact hpe)).more hsl)
                clear HCc
                have HCc := HC9
                clear HC9
                have hp2 : p < V3.heap.size := by omega
                clear hp
                have hp := hp2
                clear hp2
                clear HL HV ho1 hg1 ha1
                have HV := Lib.hid HL7.out.blw
                refine hK.out _ _ (HSC.out _ HV.out) (fun hHeld => ?_)
                clear hK K
                refine wpAnyH_ready (rs := [10]) (by kernel_rfl) (by simp) ?_
                refine AllReadyH.cons rfl (fun K hK => ?_) ?_
                · refine step_append_any _ rfl (.tmp 73) (.tmp 75) 33 rfl W5.heap.size 25 i0 _ 2 16 Try.underlying33 hi0 hz0 hz1 hz2 rfl (by decide) _ _ _ rfl HL7.out.own V3.heap.size (some ⟨p, 0, none⟩) 1 1 (prV (v, l)) rfl HCc.out rfl (prs_one [(v, l)]) (by rw [HN7.out]; unfold maxLen; omega) (by rw [HN7.out]; omega) HV.out.size ?_
                  intro v10 V4 ho1 hg1 ha1
                  show K (Act.put _ (some 76) _) _
                  have HL10 := Lib.hid (HL7.out.snoc (v, l) rfl ho1 hg1)
                  clear HL7 HCc HV ho1 hg1 ha1
                  have HV := Lib.hid HL10.out.blw
                  have hHeld0 := HV.out
                  refine hK.out _ _ (HSC.out _ HV.out) (fun hHeld => ?_)
                  clear hK K
                  obtain ⟨A9, c9, rfl, hc9, hcm9⟩ := HL10.out.sliceN HLN.out
                  have hXr := HX.out.next HV.out
                  have hgX : w.heap.size < gX := by have := (ownS_lt hXr.own gX rfl).1; have := HE4.out.row.lt; omega
                  have hgb : b ≠ gX := by omega
                  have hXf := hXr.frozen (k := k)
                  obtain ⟨uX, hXc⟩ : ∃ u, V4.cell? ⟨gX, k, none⟩ = some u := by
                    obtain ⟨b9, o9, e9, _, h9⟩ := hXr.sees (by rw [oneV_flat]; intro e; have := congrArg List.length e; rw [HCL.out] at this; simp at this; omega)
                    injection e9 with e9
                    injection e9 with e9 e10
                    subst e9 e10
                    have := h9 k _ (by rw [oneV_flat]; exact HVK.out)
                    rw [Nat.zero_add] at this
                    exact ⟨_, this⟩
                  refine take_at 11 77 (.pointer (some ⟨gX, k, none⟩)) rfl rfl (by kernel_rfl) (by kernel_rfl) (by kernel_rfl) (fun _ _ _ h => h) (Or.inl ⟨by rfl, ?_⟩) hHeld ?_
                  · intro w9 hSw
                    (try dsimp only at hSw)
                    go_simp
                  (try simp only [Act.put, List.setIfInBounds_toArray, List.set_cons_zero, List.set_cons_succ])
                  refine wpAnyH_ready (rs := [12]) (by kernel_rfl) (by simp) ?_
                  refine AllReadyH.cons rfl (fun K hK => ?_) ?_
                  · go_simp
                    refine hK.out _ _ (HSX.out _ _ hHeld0) (fun hHeld => ?_)
                    clear hK K
                    refine wpAnyH_done (by kernel_rfl) ?_ _
                    clear hHeld
                    go_wp2_with fail
                    go_meet
                    case rel => exact ⟨A9, c9, rfl, hc9, hcm9, _, HL10.out, rfl⟩
                  · exact AllReadyH.nil
                exact AllReadyH.nil
              exact AllReadyH.nil
            exact AllReadyH.nil
          refine AllReadyH.cons rfl (fun K hK => ?_) ?_
          · go_simp
            have hBn := HV.out.alloc HV.out.size (.cells #[.int .i64 v, .int .i64 l] 25)
            refine hK.out _ _ (HSC.out _ hBn) (fun hHeld => ?_)
            clear hK K
            have HCc := Lib.hid ((sees_new V0 #[.int .i64 v, .int .i64 l] 25).more (show V0.heap.size + 1 ≤ (V0.alloc (.cells #[.int .i64 v, .int .i64 l] 25)).heap.size by simp))
            have hp : V0.heap.size < (V0.alloc (.cells #[.int .i64 v, .int .i64 l] 25)).heap.size := by simp
            clear HV
            have HV := Lib.hid hBn
            clear hBn
            generalize V0.alloc (.cells #[.int .i64 v, .int .i64 l] 25) = V1 at *
            generalize V0.heap.size = p at *
            refine wpAnyH_ready (rs := [2]) (by kernel_rfl) (by simp) ?_
            refine AllReadyH.cons rfl (fun K hK => ?_) ?_
            · go_simp
              have hBn := HV.out.alloc HV.out.size (.cells #[] 25)
              refine hK.out _ _ (HSC.out _ hBn) (fun hHeld => ?_)
              clear hK K
              have HL := Lib.hid ((RL.empty (f := prV) (s := 2) (T := 25) V1).base HV.out)
              have hsz := (Below.refl V1.heap.size V1).alloc (Nat.le_refl _) (.cells #[] 25)
              have hpe : V1.heap.size ≠ p := by omega
              have HC9 := Lib.hid ((HCc.out.alloc (Nat.le_refl _) (.cells #[] 25)).more hsz.size)
              clear HCc
              have HCc := HC9
              clear HC9
              have hp2 : p < (V1.alloc (.cells #[] 25)).heap.size := by simp; omega
              clear hp
              have hp := hp2
              clear hp2
              clear HV hsz
              have HV := Lib.hid hBn
              clear hBn
              generalize V1.alloc (.cells #[] 25) = V2 at *
              generalize V1.heap.size = e at *
              refine wpAnyH_ready (rs := [7]) (by kernel_rfl) (by simp) ?_
              refine AllReadyH.cons rfl (fun K hK => ?_) ?_
              · refine step_append_any _ rfl (.tmp 68) (.tmp 72) 33 rfl W5.heap.size 25 i0 _ 2 16 Try.underlying33 hi0 hz0 hz1 hz2 rfl (by decide) (.slice (some ⟨e, 0, none⟩) 0 0) 0 [] rfl HL.out.own w.heap.size Ak m ck (prs lk) rfl (HSK5.out.below (HV.out.mono hw5)) (by rw [prs_length, HLK.out]) (prs_one _) (by unfold maxLen; omega) (by omega) HV.out.size ?_
                intro v7 V3 ho1 hg1 ha1
                show K (Act.put _ (some 73) _) _
                have HL7 : Hid (RL prV 2 25 W5 v7 ([] ++ lk) V3) := HL.out.join (n := 0) rfl HLK.out ho1 hg1
                have hsl : V2.heap.size ≤ V3.heap.size := hg1.size
                have HC9 := Lib.hid ((sees_aside HCc.out hg1 hp (by simp [Value.ownBlock]; exact hpe)).more hsl)
                clear HCc
                have HCc := HC9
                clear HC9
                have hp2 : p < V3.heap.size := by omega
                clear hp
                have hp := hp2
                clear hp2
                clear HL HV ho1 hg1 ha1
                have HV := Lib.hid HL7.out.blw
                refine hK.out _ _ (HSC.out _ HV.out) (fun hHeld => ?_)
                clear hK K
                refine wpAnyH_ready (rs := [10]) (by kernel_rfl) (by simp) ?_
                refine AllReadyH.cons rfl (fun K hK => ?_) ?_
                · refine step_append_any _ rfl (.tmp 73) (.tmp 75) 33 rfl W5.heap.size 25 i0 _ 2 16 Try.underlying33 hi0 hz0 hz1 hz2 rfl (by decide) _ _ _ rfl HL7.out.own V3.heap.size (some ⟨p, 0, none⟩) 1 1 (prV (v, l)) rfl HCc.out rfl (prs_one [(v, l)]) (by rw [HN7.out]; unfold maxLen; omega) (by rw [HN7.out]; omega) HV.out.size ?_
                  intro v10 V4 ho1 hg1 ha1
                  show K (Act.put _ (some 76) _) _
                  have HL10 := Lib.hid (HL7.out.snoc (v, l) rfl ho1 hg1)
                  clear HL7 HCc HV ho1 hg1 ha1
                  have HV := Lib.hid HL10.out.blw
                  have hHeld0 := HV.out
                  refine hK.out _ _ (HSC.out _ HV.out) (fun hHeld => ?_)
                  clear hK K
                  obtain ⟨A9, c9, rfl, hc9, hcm9⟩ := HL10.out.sliceN HLN.out
                  have hXr := HX.out.next HV.out
                  have hgX : w.heap.size < gX := by have := (ownS_lt hXr.own gX rfl).1; have := HE4.out.row.lt; omega
                  have hgb : b ≠ gX := by omega
                  have hXf := hXr.frozen (k := k)
                  obtain ⟨uX, hXc⟩ : ∃ u, V4.cell? ⟨gX, k, none⟩ = some u := by
                    obtain ⟨b9, o9, e9, _, h9⟩ := hXr.sees (by rw [oneV_flat]; intro e; have := congrArg List.length e; rw [HCL.out] at this; simp at this; omega)
                    injection e9 with e9
                    injection e9 with e9 e10
                    subst e9 e10
                    have := h9 k _ (by rw [oneV_flat]; exact HVK.out)
                    rw [Nat.zero_add] at this
                    exact ⟨_, this⟩
                  refine take_at 11 77 (.pointer (some ⟨gX, k, none⟩)) rfl rfl (by kernel_rfl) (by kernel_rfl) (by kernel_rfl) (fun _ _ _ h => h) (Or.inl ⟨by rfl, ?_⟩) hHeld ?_
                  · intro w9 hSw
                    (try dsimp only at hSw)
                    go_simp
                  (try simp only [Act.put, List.setIfInBounds_toArray, List.set_cons_zero, List.set_cons_succ])
                  refine wpAnyH_ready (rs := [12]) (by kernel_rfl) (by simp) ?_
                  refine AllReadyH.cons rfl (fun K hK => ?_) ?_
                  · go_simp
                    refine hK.out _ _ (HSX.out _ _ hHeld0) (fun hHeld => ?_)
                    clear hK K
                    refine wpAnyH_done (by kernel_rfl) ?_ _
                    clear hHeld
                    go_wp2_with fail
                    go_meet
                    case rel => exact ⟨A9, c9, rfl, hc9, hcm9, _, HL10.out, rfl⟩
                  · exact AllReadyH.nil
                exact AllReadyH.nil
              exact AllReadyH.nil
            exact AllReadyH.nil
          exact AllReadyH.nil
        case rest =>
          obtain ⟨A9, c9, rfl, hc9, hcm9, V9, HL9, rfl⟩ := hcut
          skip
          have hXr := HX.out.next HL9.out.blw
          have hkv : k < vs.length := by rw [HCL.out]; exact hk
          have hXp := hXr.put (s := 1) (j := 0) (y := .slice A9 (m + 1) c9) (u := .slice A9 (m + 1) c9) (fun _ => rfl) hkv (by decide) rfl
          simp only [Nat.mul_one, Nat.add_zero] at hXp
          obtain ⟨g9, rfl⟩ := HL9.out.some_ (by omega)
          have hg9 : g9 ≠ gX := by
            have h1 := (ownS_lt HL9.out.own g9 rfl).1
            have h2 := (ownS_lt HX.out.own gX rfl).2
            omega
          have hs9 := sees_set_aside (k := k) (u := .slice (some ⟨g9, 0, none⟩) (m + 1) c9) HL9.out.sees hg9
          rw [prV_flat, List.nil_append] at hs9
          have hxs9 := hXp.sees
          rw [oneV_flat] at hxs9
          have HBV0 := Lib.hid hXp.blw
          have HE5 := Lib.hid (HE4.out.next hXp.blw)
          clear hXr hXp
          have hz9 : V9.heap.size = (V9.setCell ⟨gX, k, none⟩ (.slice (some ⟨g9, 0, none⟩) (m + 1) c9)).heap.size := by simp
          rw [hz9] at hs9
          clear hz9
          generalize V9.setCell ⟨gX, k, none⟩ (.slice (some ⟨g9, 0, none⟩) (m + 1) c9) = V10 at *
          have hcp := ((HCE.out.below (HBV0.out.mono HE4.out.blw.size)).more (Nat.le_trans HE4.out.blw.size HBV0.out.size))
          have hss := seesPP_set (k := k) hcp (n := m + 1) (by rw [List.length_append, HLK.out]; rfl) hc9 hcm9 hs9 hxs9
          have CV := pvalid_any V10.heap.size _ (xs.set k (lk ++ [(v, l)])) cX (nn : Int) (n1 : Int) (n2 : Int) (n3 : Int) V10 hss (Nat.le_refl _) (by rw [List.length_set]; have := HF1.out; omega)
            (fun x hx => by
              rcases List.mem_or_eq_of_mem_set hx with hx | rfl
              · have := HF2.out x hx; omega
              · rw [List.length_append, HLK.out]; simp; omega)
            (fun x hx p hp => by
              rcases List.mem_or_eq_of_mem_set hx with hx | rfl
              · exact HXW.out x hx p hp
              · rcases List.mem_append.1 hp with hp | hp
                · rw [HLKX.out] at hp; exact HXW.out _ (List.getElem_mem hkx) p hp
                · rw [List.mem_singleton.1 hp]; exact HPW.out)
          have hF : validE (xs.set k (lk ++ [(v, l)])) (nn : Int) (n1 : Int) (n2 : Int) (n3 : Int) = prE (n1 : Int) (n2 : Int) (n3 : Int) lk.getLast? (v, l) := by
            unfold validE
            rw [if_neg (by rw [List.length_set, HNN.out]; simp), HLKX.out]
            exact vlsE_set hkx HV0.out
          rw [hF, List.length_set, ← HNN.out] at CV
          clear hF hss hcp hs9 hxs9
          obtain ⟨F, hF⟩ : ∃ z, z = prE (n1 : Int) (n2 : Int) (n3 : Int) lk.getLast? (v, l) := ⟨_, rfl⟩
          rw [← hF] at CV
          have HF := Lib.hid hF
          have CV := Lib.hid CV
          clear hF
          go_wp2_with fail
          refine CV.out.mono ?_
          rintro e V11 ⟨rfl, hb⟩
          have HE7 := Lib.hid (HE5.out.next hb)
          have HBV := Lib.hid (HBV0.out.trans (hb.mono HBV0.out.size))
          clear hb CV HE5 HBV0 HSX HSC HX HL9
          have d0 := HE7.out.row.cell 0
          have d1 := HE7.out.row.cell 1
          simp only [List.getElem?_toArray, List.getElem?_cons_zero, List.getElem?_cons_succ] at d0 d1
          have g0 := (HBV.out.cell (p := ⟨b, o + k, none⟩) (by show b < _; have := HE4.out.blw.size; omega)).trans hcb
          by_cases h9 : v < 0 ∨ (n1 : Int) ≤ v
          · have eF : (F == 9) = true := by rw [HF.out, prE_9 h9]; rfl
            clear HF
            by_cases h0 : v < 0
            · have z0 : decide (v < 0) = true := by simp [h0]
              clear h9
              go_wp2
              go_ret
              exact ⟨rfl, HE7.out.blw⟩
            · have z0 : decide (v < 0) = false := by simp [h0]
              have h1 : (n1 : Int) ≤ v := by omega
              have z1 : decide ((n1 : Int) ≤ v) = true := by simp [h1]
              clear h9
              go_wp2
              go_ret
              exact ⟨rfl, HE7.out.blw⟩
          · have h0 : ¬ v < 0 := by omega
            have h1 : ¬ (n1 : Int) ≤ v := by omega
            have z0 : decide (v < 0) = false := by simp [h0]
            have z1 : decide ((n1 : Int) ≤ v) = false := by simp [h1]
            rcases hb2 : locS l n2 n3 with _ | _
            · have eF : (F == 10) = true := by rw [HF.out, prE_10 h9 hb2]; rfl
              clear HF h9
              unfold locS at hb2
              by_cases hl0 : l < 0
              · have z2 : decide (l < 0) = true := by simp [hl0]
                clear hb2
                go_wp2
                go_ret
                exact ⟨rfl, HE7.out.blw⟩
              · have z2 : decide (l < 0) = false := by simp [hl0]
                have hlp : 0 ≤ l := by omega
                rw [if_neg hl0] at hb2
                by_cases hl2 : l % 2 = 1
                · rw [if_pos hl2] at hb2
                  have z3 : decide ((n3 : Int) ≤ l / 2) = true := by simp at hb2 ⊢; omega
                  clear hb2
                  go_wp2
                  go_ret
                  exact ⟨rfl, HE7.out.blw⟩
                · rw [if_neg hl2] at hb2
                  have hl3 : l % 2 = 0 := by omega
                  have z3 : decide ((n2 : Int) ≤ l / 2) = true := by simp at hb2 ⊢; omega
                  clear hb2
                  go_wp2
                  go_ret
                  exact ⟨rfl, HE7.out.blw⟩
            · have HFN : Hid (m = 0 → F = 0) := fun h => by
                have e : lk = [] := List.length_eq_zero_iff.1 (HLK.out.trans h)
                rw [HF.out, e]
                exact prE_none h9 hb2
              have HFS : Hid (∀ i, m = i + 1 → ∀ hi : i < lk.length, F = if ltP lk[i] (v, l) then 0 else 13) := fun i h hi => by
                have e : lk.getLast? = some lk[i] := by
                  rw [List.getLast?_eq_getElem?, HLK.out, h, Nat.add_sub_cancel, List.getElem?_eq_getElem hi]
                rw [HF.out, e]
                exact prE_some h9 hb2
              clear HF h9
              have hl0 := locS_nn hb2
              have z2 : decide (l < 0) = false := by simp; omega
              unfold locS at hb2
              rw [if_neg (by omega)] at hb2
              by_cases hl2 : l % 2 = 1
              · rw [if_pos hl2] at hb2
                have z3 : decide ((n3 : Int) ≤ l / 2) = false := by simp at hb2 ⊢; omega
                clear hb2
                rcases Nat.eq_zero_or_pos m with hm0 | hm0
                · have HF0 := Lib.hid (HFN.out hm0)
                  have hmd : decide (0 < m) = false := by simp; omega
                  have eF : (F == 0) = true := by rw [HF0.out]; rfl
                  have hmz : (m : Int) = 0 := by omega
                  clear HFN HFS hm0
                  go_upto_region 14 with fail
                  go_quiet (fail)
                  have HEB := Lib.hid (HE7.out.next (Below.of_drewN V11 nq))
                  generalize V11.drewN nq = V12 at *
                  clear d0 d1 g0
                  go_wp2
                  go_ret
                  exact ⟨rfl, HEB.out.blw⟩
                · obtain ⟨i, hi⟩ : ∃ i : Nat, m = i + 1 := ⟨m - 1, by omega⟩
                  have hil : i < lk.length := by rw [HLK.out]; omega
                  have HFI := Lib.hid (HFS.out i hi hil)
                  obtain ⟨b2, o2, e2, hb2, k0, k1⟩ := sees_pair HSK.out hil
                  subst e2
                  have hq0 := (HBV.out.cell (p := ⟨b2, o2 + i * 2, none⟩) (by show b2 < _; have := HE4.out.blw.size; omega)).trans k0
                  have hq1 := (HBV.out.cell (p := ⟨b2, o2 + i * 2 + 1, none⟩) (by show b2 < _; have := HE4.out.blw.size; omega)).trans k1
                  have C3 : Hid (∀ (W : World) n os, Calls Try.prog 21 #[.agg #[.int .i64 lk[i].1, .int .i64 lk[i].2], .agg #[.int .i64 v, .int .i64 l]] (Go.Sort.grow (W.drewN n) os) fun e w' => e = .returned (.bool (ltP lk[i] (v, l))) ∧ ∃ q os', w' = Go.Sort.grow ((Go.Sort.grow (W.drewN n) os).drewN q) os') := fun W n os => rless_any lk[i] (v, l) _
                  generalize lk[i] = q at *
                  obtain ⟨q1, q2⟩ := q
                  dsimp only at hq0 hq1 C3
                  generalize ltP (q1, q2) (v, l) = bb at *
                  have hmd : decide (0 < m) = true := by simp; omega
                  have hmi2 : IntKind.i64.wrap ((m : Int) - 1) = (i : Int) := by rw [IntKind.wrap_i64]; omega
                  have hiz : (i : Int) < (m : Int) := by omega
                  clear k0 k1 hb2 hil hi HFN HFS
                  go_upto_region 14 with fail
                  have r0 := fun n os => Go.cell_grown (World.block_lt_of_cell? _ _ d0) d0 n os
                  have r1 := fun n os => Go.cell_grown (World.block_lt_of_cell? _ _ d1) d1 n os
                  have r2 := fun n os => Go.cell_grown (World.block_lt_of_cell? _ _ g0) g0 n os
                  have r3 := fun n os => Go.cell_grown (World.block_lt_of_cell? _ _ hq0) hq0 n os
                  have r4 := fun n os => Go.cell_grown (World.block_lt_of_cell? _ _ hq1) hq1 n os
                  go_quiet_grown (first | (go_at_call 21; refine Calls.grown_of (C3.out _ _ _)))
                  have HEB := Lib.hid (HE7.out.next (show Grew V11 _ from ⟨nq, osq, rfl⟩).below)
                  generalize Go.Sort.grow (V11.drewN nq) osq = V12 at *
                  clear r0 r1 r2 r3 r4 d0 d1 g0 hq0 hq1
                  cases bb
                  · have eF : (F == 13) = true := by rw [HFI.out]; rfl
                    clear HFI
                    go_wp2
                    go_ret
                    exact ⟨rfl, HEB.out.blw⟩
                  · have eF : (F == 0) = true := by rw [HFI.out]; rfl
                    clear HFI
                    go_wp2
                    go_ret
                    exact ⟨rfl, HEB.out.blw⟩
              · rw [if_neg hl2] at hb2
                have hl3 : l % 2 = 0 := by omega
                have z3 : decide ((n2 : Int) ≤ l / 2) = false := by simp at hb2 ⊢; omega
                clear hb2
                rcases Nat.eq_zero_or_pos m with hm0 | hm0
                · have HF0 := Lib.hid (HFN.out hm0)
                  have hmd : decide (0 < m) = false := by simp; omega
                  have eF : (F == 0) = true := by rw [HF0.out]; rfl
                  have hmz : (m : Int) = 0 := by omega
                  clear HFN HFS hm0
                  go_upto_region 14 with fail
                  go_quiet (fail)
                  have HEB := Lib.hid (HE7.out.next (Below.of_drewN V11 nq))
                  generalize V11.drewN nq = V12 at *
                  clear d0 d1 g0
                  go_wp2
                  go_ret
                  exact ⟨rfl, HEB.out.blw⟩
                · obtain ⟨i, hi⟩ : ∃ i : Nat, m = i + 1 := ⟨m - 1, by omega⟩
                  have hil : i < lk.length := by rw [HLK.out]; omega
                  have HFI := Lib.hid (HFS.out i hi hil)
                  obtain ⟨b2, o2, e2, hb2, k0, k1⟩ := sees_pair HSK.out hil
                  subst e2
                  have hq0 := (HBV.out.cell (p := ⟨b2, o2 + i * 2, none⟩) (by show b2 < _; have := HE4.out.blw.size; omega)).trans k0
                  have hq1 := (HBV.out.cell (p := ⟨b2, o2 + i * 2 + 1, none⟩) (by show b2 < _; have := HE4.out.blw.size; omega)).trans k1
                  have C3 : Hid (∀ (W : World) n os, Calls Try.prog 21 #[.agg #[.int .i64 lk[i].1, .int .i64 lk[i].2], .agg #[.int .i64 v, .int .i64 l]] (Go.Sort.grow (W.drewN n) os) fun e w' => e = .returned (.bool (ltP lk[i] (v, l))) ∧ ∃ q os', w' = Go.Sort.grow ((Go.Sort.grow (W.drewN n) os).drewN q) os') := fun W n os => rless_any lk[i] (v, l) _
                  generalize lk[i] = q at *
                  obtain ⟨q1, q2⟩ := q
                  dsimp only at hq0 hq1 C3
                  generalize ltP (q1, q2) (v, l) = bb at *
                  have hmd : decide (0 < m) = true := by simp; omega
                  have hmi2 : IntKind.i64.wrap ((m : Int) - 1) = (i : Int) := by rw [IntKind.wrap_i64]; omega
                  have hiz : (i : Int) < (m : Int) := by omega
                  clear k0 k1 hb2 hil hi HFN HFS
                  go_upto_region 14 with fail
                  have r0 := fun n os => Go.cell_grown (World.block_lt_of_cell? _ _ d0) d0 n os
                  have r1 := fun n os => Go.cell_grown (World.block_lt_of_cell? _ _ d1) d1 n os
                  have r2 := fun n os => Go.cell_grown (World.block_lt_of_cell? _ _ g0) g0 n os
                  have r3 := fun n os => Go.cell_grown (World.block_lt_of_cell? _ _ hq0) hq0 n os
                  have r4 := fun n os => Go.cell_grown (World.block_lt_of_cell? _ _ hq1) hq1 n os
                  go_quiet_grown (first | (go_at_call 21; refine Calls.grown_of (C3.out _ _ _)))
                  have HEB := Lib.hid (HE7.out.next (show Grew V11 _ from ⟨nq, osq, rfl⟩).below)
                  generalize Go.Sort.grow (V11.drewN nq) osq = V12 at *
                  clear r0 r1 r2 r3 r4 d0 d1 g0 hq0 hq1
                  cases bb
                  · have eF : (F == 13) = true := by rw [HFI.out]; rfl
                    clear HFI
                    go_wp2
                    go_ret
                    exact ⟨rfl, HEB.out.blw⟩
                  · have eF : (F == 0) = true := by rw [HFI.out]; rfl
                    clear HFI
                    go_wp2
                    go_ret
                    exact ⟨rfl, HEB.out.blw⟩
      · have eE : (E != 0) = true := by simp [hE0]
        go_wp2
        go_ret
        exact ⟨rfl, HE3.out.blw⟩

end Go.Proofs.Ytacendjemomkfaa
