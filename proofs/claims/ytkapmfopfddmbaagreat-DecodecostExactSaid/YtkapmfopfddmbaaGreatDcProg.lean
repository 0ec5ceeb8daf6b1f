/-
  The program of layer 21: Of and Total.
-/
import Derived.Test.YtkapmfopfddmbaaGreatDcPh
import Derived.Test.YtkapmfopfddmbaaGreatPk20
import Derived.Test.YtkapmfopfddmbaaGreatCcMem
import Derived.Test.YtkapmfopfddmbaaGreatPk1
import Derived.Deep.RegionHeld3
import Derived.Deep.RegionHeldLaw
import Derived.BigQuiet
namespace Go.Proofs.YtkapmfopfddmbaaGreat
open Go.RowKit
set_option linter.unusedVariables false
set_option linter.unusedSimpArgs false

/-- What Of leaves. -/
def OfP (w : World) (l : List Nat) (e : Ending) (w' : World) : Prop := e = .returned (.agg #[.int .i64 (costE l).b, .int .i64 (costE l).i, .int .i64 (costE l).p, .int .i64 ((costE l).y : Nat)]) ∧ Below w.heap.size w w'

def hdOk (l : List Nat) : Prop := byV ⟨l, 0⟩ = 82 ∧ byV (byT ⟨l, 0⟩) = 67 ∧ byV (byT (byT ⟨l, 0⟩)) = 1

theorem hd_cost (l : List Nat) : (¬ hdOk l → costE l = ⟨0, 0, 0, 0⟩) ∧ (hdOk l → costE l = cost0 (l.drop 3) ∧ byT (byT (byT ⟨l, 0⟩)) = ⟨l.drop 3, 0⟩) := by
  unfold hdOk costE
  match l with
  | [] => exact ⟨fun _ => rfl, fun h => absurd h.1 (by decide)⟩
  | [x] => exact ⟨fun _ => if_pos (.inl (by simp)), fun h => absurd h.2.1 (by show ¬ (0 : Nat) = 67; decide)⟩
  | [x, y] => exact ⟨fun _ => if_pos (.inl (by simp)), fun h => absurd h.2.2 (by show ¬ (0 : Nat) = 1; decide)⟩
  | x :: y :: z :: r =>
    have v0 : byV ⟨x :: y :: z :: r, 0⟩ = x := rfl
    have v1 : byV (byT ⟨x :: y :: z :: r, 0⟩) = y := rfl
    have v2 : byV (byT (byT ⟨x :: y :: z :: r, 0⟩)) = z := rfl
    have t3 : byT (byT (byT ⟨x :: y :: z :: r, 0⟩)) = ⟨r, 0⟩ := rfl
    have g0 : (x :: y :: z :: r).getD 0 0 = x := rfl
    have g1 : (x :: y :: z :: r).getD 1 0 = y := rfl
    have g2 : (x :: y :: z :: r).getD 2 0 = z := rfl
    have gl : (x :: y :: z :: r).length = r.length + 3 := rfl
    rw [v0, v1, v2, t3, g0, g1, g2, gl]
    refine ⟨fun h => if_pos (by omega), fun h => ⟨if_neg (by omega), rfl⟩⟩

def Z4D : Array Value := #[.int .i64 0, .int .i64 0, .int .i64 0, .int .i64 0]

set_option maxRecDepth 100000 in
set_option maxHeartbeats 16000000 in
theorem pof21_any (A : Option Addr) (l : List Nat) (k : Nat) (w : World) (hs : Sees w w.heap.size A (bts l)) (hby : Byt l) (hm : l.length ≤ 1000000) (hk : l.length ≤ k) (hkm : k ≤ maxLen) :
    Calls Tryz.prog 7 #[.slice A l.length k] w (OfP w l) := by
  have hmf : ∀ (fn : Fn) (first cap : Array Value) (w : World), (Instr.makeFunc fn first cap).run Tryz.prog w = .ok (.func fn first cap) w := fun _ _ _ _ => rfl
  have hb0 := ((Below.refl w.heap.size w).alloc (Nat.le_refl _) (.cells #[.int .i64 0, .int .i64 0, .int .i64 0, .int .i64 0] 37)).alloc (by simp) (.cells #[.int .i64 0, .int .i64 0, .int .i64 0, .int .i64 0] 37)
  have hr0 := (Row.new w 37 #[.int .i64 0, .int .i64 0, .int .i64 0, .int .i64 0]).alloc (.cells #[.int .i64 0, .int .i64 0, .int .i64 0, .int .i64 0] 37)
  have hq0 := Row.new (w.alloc (.cells #[.int .i64 0, .int .i64 0, .int .i64 0, .int .i64 0] 37)) 37 #[.int .i64 0, .int .i64 0, .int .i64 0, .int .i64 0]
  rw [show (w.alloc (.cells #[.int .i64 0, .int .i64 0, .int .i64 0, .int .i64 0] 37)).heap.size = w.heap.size + 1 by simp] at hq0
  have HB := Lib.hid hb0
  have HR := Lib.hid hr0
  have HQ := Lib.hid hq0
  have HS := Lib.hid (hs.below hb0)
  have HBY := Lib.hid hby
  unfold OfP
  obtain ⟨C, hC⟩ : ∃ C, costE l = C := ⟨_, rfl⟩
  obtain ⟨hd1, hd2⟩ := hd_cost l
  rw [hC] at hd1 hd2 ⊢
  have HD1 := Lib.hid hd1
  have HD2 := Lib.hid hd2
  clear hb0 hr0 hq0 hs hby hC hd1 hd2 hk hkm
  obtain ⟨n, hn⟩ : ∃ n, l.length = n := ⟨_, rfl⟩
  rw [hn] at hm ⊢
  have HN := Lib.hid hn
  clear hn
  go_enter Tryz.func7, Tryz.ntmps7
  go_upto_region 2 with fail
  generalize ((w.alloc (.cells #[.int .i64 0, .int .i64 0, .int .i64 0, .int .i64 0] 37)).alloc (.cells #[.int .i64 0, .int .i64 0, .int .i64 0, .int .i64 0] 37)) = W1 at *
  obtain ⟨z, hz⟩ : ∃ z, w.heap.size = z := ⟨_, rfl⟩
  obtain ⟨q, hq⟩ : ∃ q, w.heap.size + 1 = q := ⟨_, rfl⟩
  have hzq : z < q := by omega
  have hwz : w.heap.size ≤ z := Nat.le_of_eq hz
  rw [hz] at HR
  rw [hq] at HQ
  rw [hq, hz]
  clear hz hq
  have CN : Hid (Calls Tryz.prog 17 #[.slice A n k] W1 fun e w' => ∃ p A' c', e = .returned (.pointer (some ⟨p, 0, none⟩)) ∧ W1.heap.size ≤ p ∧ CE W1.heap.size p l A' c' ⟨l, 0⟩ w' ∧ Below W1.heap.size W1 w') := by
    have := new_ce20 A l k W1 (HS.out.more HB.out.size) HBY.out (by rw [HN.out]; exact hm)
    rw [HN.out] at this
    exact this
  go_wp2_with fail
  refine CN.out.mono ?_
  rintro e W2 ⟨p, A', c', rfl, hp, hce, hb2⟩
  have HR2 := Lib.hid (HR.out.below hb2 HR.out.lt)
  have HQ2 := Lib.hid (HQ.out.below hb2 HQ.out.lt)
  have HB2 := Lib.hid (HB.out.trans (hb2.mono HB.out.size))
  have HC2 := Lib.hid hce
  have hqW : q < W1.heap.size := HQ.out.lt
  clear hce hb2 CN HR HQ HB HS
  obtain ⟨v0, hv0⟩ : ∃ v, byV ⟨l, 0⟩ = v := ⟨_, rfl⟩
  obtain ⟨v1, hv1⟩ : ∃ v, byV (byT ⟨l, 0⟩) = v := ⟨_, rfl⟩
  obtain ⟨v2, hv2⟩ : ∃ v, byV (byT (byT ⟨l, 0⟩)) = v := ⟨_, rfl⟩
  unfold hdOk at HD1 HD2
  rw [hv0, hv1, hv2] at HD1 HD2
  have K1 : Hid (∀ W, KC W2 W1.heap.size p l A' c' ⟨l, 0⟩ q Z4D W → Calls Tryz.prog 18 #[.pointer (some ⟨p, 0, none⟩)] W fun e w' => e = .returned (.int .u8 v0) ∧ KC W2 W1.heap.size p l A' c' (byT ⟨l, 0⟩) q Z4D w') := fun W h => by
    have := byte_ce h.ce
    rw [hv0] at this
    exact this.mono fun e w' ⟨h1, h2, h3⟩ => ⟨h1, h.next h2 h3⟩
  have K2 : Hid (∀ W, KC W2 W1.heap.size p l A' c' (byT ⟨l, 0⟩) q Z4D W → Calls Tryz.prog 18 #[.pointer (some ⟨p, 0, none⟩)] W fun e w' => e = .returned (.int .u8 v1) ∧ KC W2 W1.heap.size p l A' c' (byT (byT ⟨l, 0⟩)) q Z4D w') := fun W h => by
    have := byte_ce h.ce
    rw [hv1] at this
    exact this.mono fun e w' ⟨h1, h2, h3⟩ => ⟨h1, h.next h2 h3⟩
  have K3 : Hid (∀ W, KC W2 W1.heap.size p l A' c' (byT (byT ⟨l, 0⟩)) q Z4D W → Calls Tryz.prog 18 #[.pointer (some ⟨p, 0, none⟩)] W fun e w' => e = .returned (.int .u8 v2) ∧ KC W2 W1.heap.size p l A' c' (byT (byT (byT ⟨l, 0⟩))) q Z4D w') := fun W h => by
    have := byte_ce h.ce
    rw [hv2] at this
    exact this.mono fun e w' ⟨h1, h2, h3⟩ => ⟨h1, h.next h2 h3⟩
  clear hv0 hv1 hv2
  have H2 : Hid (KC W2 W1.heap.size p l A' c' ⟨l, 0⟩ q Z4D W2) := KC.start HC2.out HQ2.out hqW
  clear HC2 HQ2
  go_upto_region 3 with fail
  obtain ⟨bl, hbl⟩ : ∃ bl, decide (v0 ≠ 82 ∨ v1 ≠ 67 ∨ v2 ≠ 1) = bl := ⟨_, rfl⟩
  have HBL := Lib.hid hbl
  clear hbl
  go_cut [24] from 10 (fun s24 wx => s24 = .bool bl ∧ Hid (bl = false → KC W2 W1.heap.size p l A' c' (byT (byT (byT ⟨l, 0⟩))) q Z4D wx) ∧ Hid (∃ t, KC W2 W1.heap.size p l A' c' t q Z4D wx))
  case first =>
    by_cases h0 : v0 = 82
    · have d0 : ((v0 : Int) != (((({ data := #[82, 67] } : ByteArray)[0]'(by decide)).toNat : Nat) : Int)) = false := by show ((v0 : Int) != 82) = false; simp; omega
      by_cases h1 : v1 = 67
      · have d1 : ((v1 : Int) != (((({ data := #[82, 67] } : ByteArray)[1]'(by decide)).toNat : Nat) : Int)) = false := by show ((v1 : Int) != 67) = false; simp; omega
        have d2 : Hid (((v2 : Int) != 1) = bl) := by show _ = _; rw [← HBL.out, Bool.eq_iff_iff]; simp [h0, h1]; omega
        clear h0 h1
        have hG := H2.out
        have hz0 : W2.cell? ⟨q, 0, none⟩ = some (.int .i64 0) := hG.bx.k0
        go_wp2_with fail
        go_region_held3 (fun W => W.cell? ⟨q, 0, none⟩ = some (.int .i64 0)) (exact hG.bx.k0) (first
          | (go_at_call 18; go_must (first
            | ((with_reducible refine (K1.out _ (by first | exact hG | exact hG.drew)).mono ?_); rintro e Wa ⟨rfl, hG⟩)
            | ((with_reducible refine (K2.out _ (by first | exact hG | exact hG.drew)).mono ?_); rintro e Wa ⟨rfl, hG⟩)
            | ((with_reducible refine (K3.out _ (by first | exact hG | exact hG.drew)).mono ?_); rintro e Wa ⟨rfl, hG⟩))))
        all_goals (go_wp2_with fail; go_meet; case rel => exact ⟨by rw [d2.out], (fun _ => hG), ⟨_, hG⟩⟩)
      · have d1 : ((v1 : Int) != (((({ data := #[82, 67] } : ByteArray)[1]'(by decide)).toNat : Nat) : Int)) = true := by show ((v1 : Int) != 67) = true; simp; omega
        have HT : Hid (true = bl) := by show _ = _; rw [← HBL.out]; simp [h1]
        clear h0 h1
        have hG := H2.out.drew
        go_wp2_with fail
        refine wp_region_held_drew (S := fun W => W.cell? ⟨q, 0, none⟩ = some (.int .i64 0)) (by kernel_rfl) hG.bx.k0 (fun hHeld => ?_)
        refine take_at 0 10 (.pointer (some ⟨p, 0, none⟩)) rfl rfl (by kernel_rfl) (by kernel_rfl) (by kernel_rfl) (fun _ _ _ h => h) (Or.inl ⟨by rfl, ?_⟩) hHeld ?_
        · intro w9 hSw
          (try dsimp only at hSw)
          go_simp
        (try simp only [Act.put, List.setIfInBounds_toArray, List.set_cons_zero, List.set_cons_succ])
        refine take_at 2 12 (.int .u8 ((({ data := #[82, 67] } : ByteArray)[0]'(by decide)).toNat : Nat)) rfl rfl (by kernel_rfl) (by kernel_rfl) (by kernel_rfl) (fun _ _ _ h => h) (Or.inl ⟨by rfl, ?_⟩) hHeld ?_
        · intro w9 hSw
          (try dsimp only at hSw)
          go_simp
        (try simp only [Act.put, List.setIfInBounds_toArray, List.set_cons_zero, List.set_cons_succ])
        refine wpAnyH_ready (rs := [1]) (by decide +kernel) (by simp) ?_
        refine AllReadyH.cons (i := 1) rfl (fun K hK => ?_) AllReadyH.nil
        go_simp
        refine (K1.out _ hG).mono ?_
        rintro e V ⟨rfl, hG⟩
        (try go_wp2_with fail)
        refine hK.out _ _ hG.bx.k0 (fun hHeld => ?_)
        clear hK K
        refine take_at 3 13 (.bool false) rfl rfl (by kernel_rfl) (by kernel_rfl) (by kernel_rfl) (fun _ _ _ h => h) (Or.inl ⟨by rfl, ?_⟩) hHeld ?_
        · intro w9 hSw
          (try dsimp only at hSw)
          go_simp
        (try simp only [Act.put, List.setIfInBounds_toArray, List.set_cons_zero, List.set_cons_succ])
        refine take_at 4 14 (.bool false) rfl rfl (by kernel_rfl) (by kernel_rfl) (by kernel_rfl) (fun _ _ _ h => h) (Or.inl ⟨by rfl, ?_⟩) hHeld ?_
        · intro w9 hSw
          (try dsimp only at hSw)
          go_simp
        (try simp only [Act.put, List.setIfInBounds_toArray, List.set_cons_zero, List.set_cons_succ])
        refine take_at 5 15 (.pointer (some ⟨p, 0, none⟩)) rfl rfl (by kernel_rfl) (by kernel_rfl) (by kernel_rfl) (fun _ _ _ h => h) (Or.inl ⟨by rfl, ?_⟩) hHeld ?_
        · intro w9 hSw
          (try dsimp only at hSw)
          go_simp
        (try simp only [Act.put, List.setIfInBounds_toArray, List.set_cons_zero, List.set_cons_succ])
        refine take_at 7 17 (.int .u8 ((({ data := #[82, 67] } : ByteArray)[1]'(by decide)).toNat : Nat)) rfl rfl (by kernel_rfl) (by kernel_rfl) (by kernel_rfl) (fun _ _ _ h => h) (Or.inl ⟨by rfl, ?_⟩) hHeld ?_
        · intro w9 hSw
          (try dsimp only at hSw)
          go_simp
        (try simp only [Act.put, List.setIfInBounds_toArray, List.set_cons_zero, List.set_cons_succ])
        refine wpAnyH_ready (rs := [6]) (by decide +kernel) (by simp) ?_
        refine AllReadyH.cons (i := 6) rfl (fun K hK => ?_) AllReadyH.nil
        go_simp
        refine (K2.out _ hG).mono ?_
        rintro e V ⟨rfl, hG⟩
        (try go_wp2_with fail)
        refine hK.out _ _ hG.bx.k0 (fun hHeld => ?_)
        clear hK K
        refine take_at 8 18 (.bool true) rfl rfl (by kernel_rfl) (by kernel_rfl) (by kernel_rfl) (fun _ _ _ h => h) (Or.inl ⟨by rfl, ?_⟩) hHeld ?_
        · intro w9 hSw
          (try dsimp only at hSw)
          go_simp
        (try simp only [Act.put, List.setIfInBounds_toArray, List.set_cons_zero, List.set_cons_succ])
        refine take_at 9 19 (.bool true) rfl rfl (by kernel_rfl) (by kernel_rfl) (by kernel_rfl) (fun _ _ _ h => h) (Or.inl ⟨by rfl, ?_⟩) hHeld ?_
        · intro w9 hSw
          (try dsimp only at hSw)
          go_simp
        (try simp only [Act.put, List.setIfInBounds_toArray, List.set_cons_zero, List.set_cons_succ])
        refine take_at 10 20 (.bool true) rfl rfl (by kernel_rfl) (by kernel_rfl) (by kernel_rfl) (fun _ _ _ h => h) (Or.inl ⟨by rfl, ?_⟩) hHeld ?_
        · intro w9 hSw
          (try dsimp only at hSw)
          go_simp
        (try simp only [Act.put, List.setIfInBounds_toArray, List.set_cons_zero, List.set_cons_succ])
        refine take_at 11 21 undef rfl rfl (by kernel_rfl) (by kernel_rfl) (by kernel_rfl) (fun _ _ _ h => h) (Or.inr ⟨by rfl, rfl⟩) hHeld ?_
        (try simp only [Act.put, List.setIfInBounds_toArray, List.set_cons_zero, List.set_cons_succ])
        refine take_at 12 22 undef rfl rfl (by kernel_rfl) (by kernel_rfl) (by kernel_rfl) (fun _ _ _ h => h) (Or.inr ⟨by rfl, rfl⟩) hHeld ?_
        (try simp only [Act.put, List.setIfInBounds_toArray, List.set_cons_zero, List.set_cons_succ])
        refine take_at 13 23 undef rfl rfl (by kernel_rfl) (by kernel_rfl) (by kernel_rfl) (fun _ _ _ h => h) (Or.inr ⟨by rfl, rfl⟩) hHeld ?_
        (try simp only [Act.put, List.setIfInBounds_toArray, List.set_cons_zero, List.set_cons_succ])
        refine take_at 14 24 (.bool true) rfl rfl (by kernel_rfl) (by kernel_rfl) (by kernel_rfl) (fun _ _ _ h => h) (Or.inl ⟨by rfl, ?_⟩) hHeld ?_
        · intro w9 hSw
          (try dsimp only at hSw)
          go_simp
        (try simp only [Act.put, List.setIfInBounds_toArray, List.set_cons_zero, List.set_cons_succ])
        refine wpAnyH_done (by decide +kernel) ?_ _
        go_wp2_with fail
        go_meet
        case rel => exact ⟨by rw [← HT.out], (fun h9 => by rw [h9] at HT; exact absurd HT.out (by decide)), ⟨_, hG⟩⟩
    · have d0 : ((v0 : Int) != (((({ data := #[82, 67] } : ByteArray)[0]'(by decide)).toNat : Nat) : Int)) = true := by show ((v0 : Int) != 82) = true; simp; omega
      have HT : Hid (true = bl) := by show _ = _; rw [← HBL.out]; simp [h0]
      clear h0
      have hG := H2.out.drew
      go_wp2_with fail
      refine wp_region_held_drew (S := fun W => W.cell? ⟨q, 0, none⟩ = some (.int .i64 0)) (by kernel_rfl) hG.bx.k0 (fun hHeld => ?_)
      refine take_at 0 10 (.pointer (some ⟨p, 0, none⟩)) rfl rfl (by kernel_rfl) (by kernel_rfl) (by kernel_rfl) (fun _ _ _ h => h) (Or.inl ⟨by rfl, ?_⟩) hHeld ?_
      · intro w9 hSw
        (try dsimp only at hSw)
        go_simp
      (try simp only [Act.put, List.setIfInBounds_toArray, List.set_cons_zero, List.set_cons_succ])
      refine take_at 2 12 (.int .u8 ((({ data := #[82, 67] } : ByteArray)[0]'(by decide)).toNat : Nat)) rfl rfl (by kernel_rfl) (by kernel_rfl) (by kernel_rfl) (fun _ _ _ h => h) (Or.inl ⟨by rfl, ?_⟩) hHeld ?_
      · intro w9 hSw
        (try dsimp only at hSw)
        go_simp
      (try simp only [Act.put, List.setIfInBounds_toArray, List.set_cons_zero, List.set_cons_succ])
      refine wpAnyH_ready (rs := [1]) (by decide +kernel) (by simp) ?_
      refine AllReadyH.cons (i := 1) rfl (fun K hK => ?_) AllReadyH.nil
      go_simp
      refine (K1.out _ hG).mono ?_
      rintro e V ⟨rfl, hG⟩
      (try go_wp2_with fail)
      refine hK.out _ _ hG.bx.k0 (fun hHeld => ?_)
      clear hK K
      refine take_at 3 13 (.bool true) rfl rfl (by kernel_rfl) (by kernel_rfl) (by kernel_rfl) (fun _ _ _ h => h) (Or.inl ⟨by rfl, ?_⟩) hHeld ?_
      · intro w9 hSw
        (try dsimp only at hSw)
        go_simp
      (try simp only [Act.put, List.setIfInBounds_toArray, List.set_cons_zero, List.set_cons_succ])
      refine take_at 4 14 (.bool true) rfl rfl (by kernel_rfl) (by kernel_rfl) (by kernel_rfl) (fun _ _ _ h => h) (Or.inl ⟨by rfl, ?_⟩) hHeld ?_
      · intro w9 hSw
        (try dsimp only at hSw)
        go_simp
      (try simp only [Act.put, List.setIfInBounds_toArray, List.set_cons_zero, List.set_cons_succ])
      refine take_at 5 15 undef rfl rfl (by kernel_rfl) (by kernel_rfl) (by kernel_rfl) (fun _ _ _ h => h) (Or.inr ⟨by rfl, rfl⟩) hHeld ?_
      (try simp only [Act.put, List.setIfInBounds_toArray, List.set_cons_zero, List.set_cons_succ])
      refine take_at 6 16 undef rfl rfl (by kernel_rfl) (by kernel_rfl) (by kernel_rfl) (fun _ _ _ h => h) (Or.inr ⟨by rfl, rfl⟩) hHeld ?_
      (try simp only [Act.put, List.setIfInBounds_toArray, List.set_cons_zero, List.set_cons_succ])
      refine take_at 7 17 undef rfl rfl (by kernel_rfl) (by kernel_rfl) (by kernel_rfl) (fun _ _ _ h => h) (Or.inr ⟨by rfl, rfl⟩) hHeld ?_
      (try simp only [Act.put, List.setIfInBounds_toArray, List.set_cons_zero, List.set_cons_succ])
      refine take_at 8 18 undef rfl rfl (by kernel_rfl) (by kernel_rfl) (by kernel_rfl) (fun _ _ _ h => h) (Or.inr ⟨by rfl, rfl⟩) hHeld ?_
      (try simp only [Act.put, List.setIfInBounds_toArray, List.set_cons_zero, List.set_cons_succ])
      refine take_at 9 19 (.bool true) rfl rfl (by kernel_rfl) (by kernel_rfl) (by kernel_rfl) (fun _ _ _ h => h) (Or.inl ⟨by rfl, ?_⟩) hHeld ?_
      · intro w9 hSw
        (try dsimp only at hSw)
        go_simp
      (try simp only [Act.put, List.setIfInBounds_toArray, List.set_cons_zero, List.set_cons_succ])
      refine take_at 10 20 (.bool true) rfl rfl (by kernel_rfl) (by kernel_rfl) (by kernel_rfl) (fun _ _ _ h => h) (Or.inl ⟨by rfl, ?_⟩) hHeld ?_
      · intro w9 hSw
        (try dsimp only at hSw)
        go_simp
      (try simp only [Act.put, List.setIfInBounds_toArray, List.set_cons_zero, List.set_cons_succ])
      refine take_at 11 21 undef rfl rfl (by kernel_rfl) (by kernel_rfl) (by kernel_rfl) (fun _ _ _ h => h) (Or.inr ⟨by rfl, rfl⟩) hHeld ?_
      (try simp only [Act.put, List.setIfInBounds_toArray, List.set_cons_zero, List.set_cons_succ])
      refine take_at 12 22 undef rfl rfl (by kernel_rfl) (by kernel_rfl) (by kernel_rfl) (fun _ _ _ h => h) (Or.inr ⟨by rfl, rfl⟩) hHeld ?_
      (try simp only [Act.put, List.setIfInBounds_toArray, List.set_cons_zero, List.set_cons_succ])
      refine take_at 13 23 undef rfl rfl (by kernel_rfl) (by kernel_rfl) (by kernel_rfl) (fun _ _ _ h => h) (Or.inr ⟨by rfl, rfl⟩) hHeld ?_
      (try simp only [Act.put, List.setIfInBounds_toArray, List.set_cons_zero, List.set_cons_succ])
      refine take_at 14 24 (.bool true) rfl rfl (by kernel_rfl) (by kernel_rfl) (by kernel_rfl) (fun _ _ _ h => h) (Or.inl ⟨by rfl, ?_⟩) hHeld ?_
      · intro w9 hSw
        (try dsimp only at hSw)
        go_simp
      (try simp only [Act.put, List.setIfInBounds_toArray, List.set_cons_zero, List.set_cons_succ])
      refine wpAnyH_done (by decide +kernel) ?_ _
      go_wp2_with fail
      go_meet
      case rel => exact ⟨by rw [← HT.out], (fun h9 => by rw [h9] at HT; exact absurd HT.out (by decide)), ⟨_, hG⟩⟩
  case rest =>
    obtain ⟨rfl, HG, HE⟩ := hcut
    have HFIN : ∀ W b i pp y, Below w.heap.size w W → Row W z 37 #[.int .i64 0, .int .i64 0, .int .i64 0, .int .i64 0] → C = ⟨b, i, pp, y⟩ → (Ending.returned (.agg #[.int .i64 b, .int .i64 i, .int .i64 pp, .int .i64 (y : Nat)]) = Ending.returned (.agg #[.int .i64 C.b, .int .i64 C.i, .int .i64 C.p, .int .i64 (C.y : Nat)]) ∧ Below w.heap.size w ((((W.setCell ⟨z, 0, none⟩ (.int .i64 b)).setCell ⟨z, 1, none⟩ (.int .i64 i)).setCell ⟨z, 2, none⟩ (.int .i64 pp)).setCell ⟨z, 3, none⟩ (.int .i64 (y : Nat)))) := fun W b i pp y hb hz hc => by
      subst hc
      exact ⟨rfl, hb.trans ((mods4i W z (.int .i64 b) (.int .i64 i) (.int .i64 pp) (.int .i64 (y : Nat))).below hb.size fun k hk => by unfold Is at hk; omega)⟩
    replace HFIN := Lib.hid HFIN
    clear H2 K1 K2 K3
    cases bl with
    | true =>
      obtain ⟨t, hk⟩ := HE.out
      have hC : C = ⟨0, 0, 0, 0⟩ := HD1.out (by have := of_decide_eq_true HBL.out; omega)
      have HC0 := Lib.hid hC
      have HBX : Hid (Below w.heap.size w wc) := HB2.out.trans (hk.md.below HB2.out.size fun k hk => by have := HR2.out.lt; have := hp; have := HB2.out.size; unfold Two at hk; omega)
      have HRX := Lib.hid (HR2.out.mods hk.md (by unfold Two; omega))
      have q0 := hk.bx.cell 0; have q1 := hk.bx.cell 1; have q2 := hk.bx.cell 2; have q3 := hk.bx.cell 3
      unfold Z4D at q0 q1 q2 q3
      simp only [List.getElem?_toArray, List.getElem?_cons_zero, List.getElem?_cons_succ] at q0 q1 q2 q3
      have z0 := HRX.out.k0; have z1 := HRX.out.k1; have z2 := HRX.out.k2; have z3 := HRX.out.k3
      have f0 := HRX.out.frozen 0; have f1 := HRX.out.frozen 1; have f2 := HRX.out.frozen 2; have f3 := HRX.out.frozen 3
      clear hC hk HG HE HBL HD1 HD2 HB2 HR2
      go_wp2
      (try simp only [Exit.inBlock, Exit.then])
      refine bodyPost_ret (v := .agg #[.int .i64 0, .int .i64 0, .int .i64 0, .int .i64 0]) ?_ rfl (HFIN.out wc 0 0 0 0 HBX.out HRX.out HC0.out)
      exact results_cell_row rfl _ _ z 37 #[.int .i64 0, .int .i64 0, .int .i64 0, .int .i64 0] (0, 0) _ rfl (HRX.out.put4i _ _ _ _) Tryz.underlying37 rfl (by kernel_rfl)
    | false =>
      obtain ⟨hC, hT3⟩ := HD2.out (by have := of_decide_eq_false HBL.out; omega)
      have hk := HG.out rfl
      rw [hT3] at hk
      have HC0 := Lib.hid hC
      have HRX := Lib.hid (HR2.out.mods hk.md (by unfold Two; omega))
      have HBX : Hid (Below w.heap.size w wc) := HB2.out.trans (hk.md.below HB2.out.size fun k hk => by have := HR2.out.lt; have := hp; have := HB2.out.size; unfold Two at hk; omega)
      have HKX : Hid (KC wc W1.heap.size p l A' c' ⟨l.drop 3, 0⟩ q Z4D wc) := KC.start hk.ce hk.bx hqW
      have HBR : Hid (Byt (l.drop 3)) := fun c hc => HBY.out c (List.mem_of_mem_drop hc)
      have hrl : (l.drop 3).length ≤ 1000000 := by rw [List.length_drop, HN.out]; omega
      obtain ⟨rs, hrs⟩ : ∃ rs, l.drop 3 = rs := ⟨_, rfl⟩
      rw [hrs] at HC0 HKX HBR hrl
      clear hC hT3 hk hrs HG HE HBL HD1 HD2 HB2 HR2 HBY
      have C1 := Lib.hid (rest_ce20 HKX.out.ce (by rw [HN.out]; exact hm))
      rw [show (if (⟨rs, 0⟩ : Ip).err = 0 then ((⟨rs, 0⟩ : Ip).rest.length : Int) else 0) = (rs.length : Int) from rfl] at C1
      have C2 : Hid (∀ W, CE W1.heap.size p l A' c' ⟨rs, 0⟩ W → Calls Tryz.prog 19 #[.pointer (some ⟨p, 0, none⟩), .int .i64 (rs.length : Int)] W fun e w' => ∃ A' c', e = .returned (.slice A' rs.length c') ∧ Mods (Is p) W w' ∧ w'.ownsRow W.heap.size 5 1 (.slice A' rs.length c') rs.length (bts rs)) := fun W hW => by
        refine (all_ce20 hW (by rw [HN.out]; exact hm) (n := (rs.length : Int)) rfl).mono ?_
        rintro e w' ⟨A9, c9, x, he, hm, _, hx, ho⟩
        have hx' : x = rs := hx rfl
        subst hx'
        exact ⟨A9, c9, he, hm, ho⟩
      obtain ⟨m, hmm⟩ : ∃ m, rs.length = m := ⟨_, rfl⟩
      rw [hmm] at C1 C2 hrl
      have HMM := Lib.hid hmm
      clear hmm
      go_wp2_with fail
      refine C1.out.mono ?_
      rintro e W3 ⟨rfl, n3, rfl⟩
      have hK3 := HKX.out.ce.mods (S := No) ((Mods.refl _ _).drewN n3) fun _ h => h.elim
      have C3 := Lib.hid (C2.out _ hK3)
      have HB3 : Hid (Below w.heap.size w (wc.drewN n3)) := ⟨HBX.out.os, HBX.out.tape, HBX.out.output, HBX.out.size, HBX.out.block⟩
      have HR3 := Lib.hid (HRX.out.drewN n3)
      have HQ3 := Lib.hid (HKX.out.bx.drewN n3)
      have hpw := HKX.out.pw
      have hpz : z < p := by have := HKX.out.qp; omega
      clear C1 C2 HBX HRX HKX hK3
      rw [show wc.heap.size = (wc.drewN n3).heap.size from rfl] at hpw
      generalize wc.drewN n3 = W3 at *
      go_wp2_with fail
      refine C3.out.mono ?_
      rintro e W4 ⟨A4, c4, rfl, hm4, ho4⟩
      have HB4 := Lib.hid (HB3.out.trans (hm4.below HB3.out.size fun k hk => by unfold Is at hk; omega))
      have HR4 := Lib.hid (HR3.out.mods hm4 (by unfold Is; omega))
      have hqp := show q ≠ p by have := hqW; omega
      have HQ4 := Lib.hid (HQ3.out.mods hm4 (by unfold Is; omega))
      have HO4 := Lib.hid ho4
      have hq3 : q < W3.heap.size := HQ3.out.lt
      clear C3 hm4 ho4 HB3 HR3 HQ3
      have C4 : Hid (Calls Tryz.prog 21 #[.slice A4 m c4, .func (.func 22) #[] #[.pointer (some ⟨q, 0, none⟩)]] W4 fun e w' => e = .returned (.tuple #[]) ∧ Mods (Is q) W4 w' ∧ Row w' q 37 (COS 0 0 0 (0 + secL ids20 rs))) := by
        have h9 := HO4.out
        have := dlens_any A4 rs c4 (Sees.of_own h9) HBR.out (by rw [HMM.out]; exact hrl) HQ4.out (by decide)
        rw [HMM.out] at this
        exact this
      go_wp2_with fail
      refine C4.out.mono ?_
      rintro e W5 ⟨rfl, hm5, hr5⟩
      have hoq : ∀ k, (Value.slice A4 m c4).ownBlock = some k → ¬ Is q k := fun k h1 h2 => by
        have := (own_lt HO4.out k h1).1
        unfold Is at h2
        omega
      have HO5 := Lib.hid (hm5.own HO4.out hoq)
      have HB5 := Lib.hid (HB4.out.trans (hm5.below HB4.out.size fun k hk => by unfold Is at hk; omega))
      have HR5 := Lib.hid (HR4.out.mods hm5 (by unfold Is; omega))
      rw [Int.zero_add] at hr5
      have HQ5 := Lib.hid hr5
      have hyl := secL_le ids20 rs
      obtain ⟨y, hy⟩ : ∃ y, secL ids20 rs = y := ⟨_, rfl⟩
      rw [hy] at HQ5 hyl
      have HC1 : Hid (C = if splitE ids20 rs ≠ 0 then ⟨0, 0, 0, y⟩ else cost1 y ((splitF ids20 rs).2.1.getD 0 []) ((splitF ids20 rs).2.1.getD 1 []) ((splitF ids20 rs).2.1.getD 2 [])) := by
        show _ = _
        rw [HC0.out, ← hy]
        rfl
      clear hm5 hr5 hoq hy HO4 HB4 HR4 HQ4 C4 HC0
      have CI := Lib.hid (dids_any W5)
      go_wp2_with fail
      refine CI.out.mono ?_
      rintro e W6 ⟨g, rfl, hi6, _, _, hb6⟩
      have HSP : Hid (Calls Tryz.prog 23 #[.slice A4 m c4, .slice (some ⟨g, 0, none⟩) 3 3] W6 (SplitP W6 ids20 rs)) := by
        have h9 := HO5.out
        rw [← HMM.out] at h9 ⊢
        exact split_any W6.heap.size A4 (some ⟨g, 0, none⟩) rs ids20 c4 3 W6 ((Sees.of_own h9).below hb6 |>.more hb6.size) (Sees.of_own hi6) (Nat.le_refl _) HBR.out (by intro c hc; unfold ids20 at hc; simp at hc; omega) (by rw [HMM.out]; exact hrl) (by decide)
      have HB6 := Lib.hid (HB5.out.trans (hb6.mono HB5.out.size))
      have HR6 := Lib.hid (HR5.out.below hb6 HR5.out.lt)
      have HQ6 := Lib.hid (HQ5.out.below hb6 HQ5.out.lt)
      clear hi6 hb6 CI HO5 HB5 HR5 HQ5
      go_wp2_with fail
      refine HSP.out.mono ?_
      rintro e W7 ⟨hb7, ⟨h0, v, rfl, hl⟩ | ⟨h0, rfl⟩⟩
      case inr =>
        have hC : C = ⟨0, 0, 0, y⟩ := by rw [HC1.out, if_pos h0]
        have HC0 := Lib.hid hC
        have HBX := Lib.hid (HB6.out.trans (hb7.mono HB6.out.size))
        have HRX := Lib.hid (HR6.out.below hb7 HR6.out.lt)
        have hqx := HQ6.out.below hb7 HQ6.out.lt
        have q0 := hqx.cell 0; have q1 := hqx.cell 1; have q2 := hqx.cell 2; have q3 := hqx.cell 3
        unfold COS at q0 q1 q2 q3
        simp only [List.getElem?_toArray, List.getElem?_cons_zero, List.getElem?_cons_succ] at q0 q1 q2 q3
        have z0 := HRX.out.k0; have z1 := HRX.out.k1; have z2 := HRX.out.k2; have z3 := HRX.out.k3
        have f0 := HRX.out.frozen 0; have f1 := HRX.out.frozen 1; have f2 := HRX.out.frozen 2; have f3 := HRX.out.frozen 3
        obtain ⟨E, hE⟩ : ∃ E, splitE ids20 rs = E := ⟨_, rfl⟩
        rw [hE] at h0 ⊢
        have d0 : ((E : Int) != 0) = true := by simp; omega
        clear hC hqx hE h0 HC1 hb7 HSP HB6 HR6 HQ6
        go_wp2
        (try simp only [Exit.inBlock, Exit.then])
        refine bodyPost_ret (v := .agg #[.int .i64 0, .int .i64 0, .int .i64 0, .int .i64 y]) ?_ rfl (HFIN.out W7 0 0 0 y HBX.out HRX.out HC0.out)
        exact results_cell_row rfl _ _ z 37 #[.int .i64 0, .int .i64 0, .int .i64 0, .int .i64 y] (0, 0) _ rfl (HRX.out.put4i _ _ _ _) Tryz.underlying37 rfl (by kernel_rfl)
      obtain ⟨x1, x2, x3, hps, by1, by2, by3, le1, le2, le3⟩ := parts_of20 HBR.out h0
      rw [hps] at hl
      obtain ⟨A7, c7, hv, hl7, hc7, _⟩ := hl.sees
      rw [show ([x1, x2, x3] : List (List Nat)).length = 3 from rfl] at hv hl7
      subst hv
      have HC2 : Hid (C = cost1 y x1 x2 x3) := by show _ = _; rw [HC1.out, if_neg (fun h => h h0), hps]; rfl
      have HB7 := Lib.hid (HB6.out.trans (hb7.mono HB6.out.size))
      have HR7 := Lib.hid (HR6.out.below hb7 HR6.out.lt)
      have HQ7 := Lib.hid (HQ6.out.below hb7 HQ6.out.lt)
      rw [HMM.out] at le1 le2 le3
      have CC := Lib.hid (dcont_any (hl.rebase (base' := q + 1) HQ6.out.lt) HQ7.out by1 by2 by3 (by omega) (by omega) (by omega))
      rw [← HC2.out] at CC
      unfold ADD at CC
      clear hps by1 by2 by3 le1 le2 le3 hl hl7 hc7 h0 hb7 HSP HB6 HR6 HQ6 HC1 HC2 HBR
      go_wp2_with fail
      refine CC.out.mono ?_
      rintro e W8 ⟨rfl, hm8, hr8⟩
      have HBX := Lib.hid (HB7.out.trans (hm8.below HB7.out.size fun k hk => by unfold Is at hk; omega))
      have HRX := Lib.hid (HR7.out.mods hm8 (by unfold Is; omega))
      have q0 := hr8.cell 0; have q1 := hr8.cell 1; have q2 := hr8.cell 2; have q3 := hr8.cell 3
      unfold COS at q0 q1 q2 q3
      simp only [List.getElem?_toArray, List.getElem?_cons_zero, List.getElem?_cons_succ] at q0 q1 q2 q3
      have z0 := HRX.out.k0; have z1 := HRX.out.k1; have z2 := HRX.out.k2; have z3 := HRX.out.k3
      have f0 := HRX.out.frozen 0; have f1 := HRX.out.frozen 1; have f2 := HRX.out.frozen 2; have f3 := HRX.out.frozen 3
      clear hm8 hr8 CC HB7 HR7 HQ7
      go_wp2
      (try simp only [Exit.inBlock, Exit.then])
      refine bodyPost_ret (v := .agg #[.int .i64 C.b, .int .i64 C.i, .int .i64 C.p, .int .i64 (C.y : Nat)]) ?_ rfl (HFIN.out W8 C.b C.i C.p C.y HBX.out HRX.out rfl)
      exact results_cell_row rfl _ _ z 37 #[.int .i64 C.b, .int .i64 C.i, .int .i64 C.p, .int .i64 (C.y : Nat)] (0, 0) _ rfl (HRX.out.put4i _ _ _ _) Tryz.underlying37 rfl (by kernel_rfl)

set_option maxRecDepth 100000 in
set_option maxHeartbeats 1000000 in
theorem ptotal21_any (b i p y : Int) (w : World) (hb : 0 ≤ b ∧ b ≤ 2000000) (hi : 0 ≤ i ∧ i ≤ 2000000) (hp : 0 ≤ p ∧ p ≤ 2000000) :
    Calls Tryz.prog 8 #[.agg #[.int .i64 b, .int .i64 i, .int .i64 p, .int .i64 y]] w fun e w' => e = .returned (.int .i64 (b + i + p)) ∧ Below w.heap.size w w' := by
  have HB := Lib.hid ((Below.refl w.heap.size w).alloc (Nat.le_refl _) (.cells #[.int .i64 b, .int .i64 i, .int .i64 p, .int .i64 y] 37))
  have HR := Row.new w 37 #[.int .i64 b, .int .i64 i, .int .i64 p, .int .i64 y]
  have c0 := HR.k0; have c1 := HR.k1; have c2 := HR.k2
  clear HR
  go_enter Tryz.func8, Tryz.ntmps8
  go_wp2
  go_ret
  exact ⟨rfl, HB.out⟩

end Go.Proofs.YtkapmfopfddmbaaGreat
