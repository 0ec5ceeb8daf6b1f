/-
  Encoding by the reference: its Put returns a new slice that holds what putS computes, and turns nothing that was there.
-/
import Derived.Test.YtacmgfndmolnfaaVarPut
namespace Go.Proofs.Ytacmgfndmolnfaa
open Go.RowKit

/-- How the head of the loop stands: d is done, v is left. -/
def PutAt (n : Nat) (d : List Nat) (v : Nat) : Prop := ∃ f, putS n = d ++ putF f v ∧ v < 128 ^ (f + 1) ∧ d.length + f = 9
theorem PutAt.zero (n : Nat) (h : n < 128 ^ 10) : PutAt n [] n := ⟨9, rfl, h, rfl⟩
theorem PutAt.more {n v : Nat} {d : List Nat} (h : PutAt n d v) (hv : 128 ≤ v) : PutAt n (d ++ [v % 128 + 128]) (v / 128) := by
  obtain ⟨f, h1, h2, h3⟩ := h
  cases f with
  | zero => simp at h2; omega
  | succ f =>
    refine ⟨f, ?_, by rw [Nat.pow_succ] at h2; omega, by simp; omega⟩
    rw [h1, putF, if_neg (by omega)]
    simp
theorem PutAt.last {n v : Nat} {d : List Nat} (h : PutAt n d v) (hv : v < 128) : putS n = d ++ [v] := by
  obtain ⟨f, h1, _, _⟩ := h
  rw [h1]
  cases f with
  | zero => rfl
  | succ f => rw [putF, if_pos hv]
theorem PutAt.len {n v : Nat} {d : List Nat} (h : PutAt n d v) : d.length ≤ 9 := by obtain ⟨f, _, _, h3⟩ := h; omega

set_option maxRecDepth 100000 in
set_option maxHeartbeats 1000000 in
theorem rput_any (v : Int) (w : World) (h0 : 0 ≤ v) (h1 : v ≤ 18446744073709551615) :
    Calls Try.prog 62 #[.int .u64 v] w fun e w' => ∃ g c, e = .returned (.slice (some ⟨g, 0, none⟩) (lenS v.toNat) c) ∧
      w'.ownsRow w.heap.size 5 1 (.slice (some ⟨g, 0, none⟩) (lenS v.toNat) c) (lenS v.toNat) (bts (putS v.toNat)) ∧ Below w.heap.size w w' := by
  obtain ⟨n, rfl⟩ := Int.eq_ofNat_of_zero_le h0
  obtain ⟨i0, hi, hz0, hz1, hz2⟩ := info_parts Try.infoU8
  go_enter Try.func62, Try.ntmps62
  go_wp2
  go_loopw [0, 3] (fun u o wr => ∃ (d : List Nat) (v : Nat), u = .int .u64 v ∧ v < 18446744073709551616 ∧ PutAt n d v ∧
      wr.ownsRow w.heap.size 5 1 o d.length (bts d) ∧ Below w.heap.size w wr) (fun u _ _ => (intOf u).toNat)
  case atStart => exact ⟨[], n, rfl, by omega, PutAt.zero n (by omega), World.ownsRow_nil _ _ _ _, Below.refl _ _⟩
  case round =>
    obtain ⟨d, v, rfl, hv, hat, hown, hbel⟩ := hrel
    have hdl := hat.len
    have hsz := hbel.size
    by_cases hge : 128 ≤ v
    · have HA := Lib.hid (hat.more hge)
      clear hat
      go_wp2_with (first
        | (at_builtin; refine wpList_append_own _ rfl _ _ 22 rfl w.heap.size 5 i0 (.int .u8 0) 1 1 Try.underlying22 hi hz0 hz1 hz2 rfl (by decide) _ _ _ rfl (hown.alloc _) ⟨wr.heap.size, 0, none⟩ 1 1 (bts [v % 128 + 128]) rfl rfl ?c1 (bts_one _) ?c3 ?c4 ?c5 ?_))
      case c1 => exact one_new (by omega)
      case c3 => unfold maxLen; omega
      case c4 => omega
      case c5 => simp; omega
      intro o' w1 hown1 hgr _
      have hown2 : w1.ownsRow w.heap.size 5 1 o' (d ++ [v % 128 + 128]).length (bts (d ++ [v % 128 + 128])) := by
        rw [bts_append, List.length_append]
        exact hown1
      have hb2 : Below w.heap.size w w1 := (hbel.alloc hsz _).grown hgr (by simp; omega) (fun k hk => (hown.lt k hk).1)
      clear hown1 hgr hown hbel
      go_wp2
      go_roundw
      case rel => exact ⟨_, v / 128, by go_num, by omega, HA.out, hown2, hb2⟩
      case measure => simp [intOf]; omega
    · have HE := hat.last (by omega)
      clear hat
      go_wp2_with (first
        | (at_builtin; refine wpList_append_own _ rfl _ _ 22 rfl w.heap.size 5 i0 (.int .u8 0) 1 1 Try.underlying22 hi hz0 hz1 hz2 rfl (by decide) _ _ _ rfl (hown.alloc _) ⟨wr.heap.size, 0, none⟩ 1 1 (bts [v]) rfl rfl ?c1 (bts_one _) ?c3 ?c4 ?c5 ?_))
      case c1 => exact one_new (by omega)
      case c3 => unfold maxLen; omega
      case c4 => omega
      case c5 => simp; omega
      intro o' w1 hown1 hgr _
      have hb2 : Below w.heap.size w w1 := (hbel.alloc hsz _).grown hgr (by simp; omega) (fun k hk => (hown.lt k hk).1)
      have hlen : lenS n = d.length + 1 := by unfold lenS; rw [HE]; simp
      rw [← bts_append, ← HE, ← hlen] at hown1
      clear hgr hown hbel
      have HL := Lib.hid hlen
      clear hlen HE
      go_wp2
      go_ret
      have hpos : 0 < lenS n := by rw [HL.out]; omega
      obtain ⟨g, c, rfl, _, _⟩ := hown1.form hpos
      exact ⟨g, c, rfl, hown1, hb2⟩

end Go.Proofs.Ytacmgfndmolnfaa
