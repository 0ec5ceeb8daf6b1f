/-
  Encoding: the program's Put returns a new slice that holds what putS computes, and turns nothing that was there.
-/
import Derived.Test.YtacmgfndmolnfaaVarLen
namespace Go.Proofs.Ytacmgfndmolnfaa
open Go.RowKit

theorem Try.infoU8 : (Try.prog.info? 5).map (fun i => (i.zero, i.size, i.bytes)) = some (some (.int .u8 0), 1, 1) := by kernel_rfl

/-- The slice while it is being filled: k digits are in, each with 128 added. -/
def ups (v m k : Nat) : List Nat := (List.range m).map fun j => if j < k then v / 128 ^ j % 128 + 128 else 0
theorem ups_length (v m k : Nat) : (ups v m k).length = m := by simp [ups]
theorem ups_get (v m k j : Nat) (h : j < m) : (ups v m k)[j]? = some (if j < k then v / 128 ^ j % 128 + 128 else 0) := by simp [ups, h]
theorem ups_zero (v m : Nat) : bts (ups v m 0) = List.replicate m (.int .u8 0) := by
  apply List.ext_getElem?
  intro j
  rw [bts_get]
  by_cases h : j < m
  · rw [ups_get v m 0 j h]
    simp [h]
  · rw [List.getElem?_eq_none (by rw [ups_length]; omega)]
    simp [h]
theorem bts_set (l : List Nat) (j x : Nat) : (bts l).set j (.int .u8 (x : Int)) = bts (l.set j x) := by simp [bts, List.map_set]
theorem ups_step (v m k : Nat) (h : k < m) : (ups v m k).set k (v / 128 ^ k % 128 + 128) = ups v m (k + 1) := by
  apply List.ext_getElem?
  intro j
  rw [List.getElem?_set]
  by_cases hj : j < m
  · rw [ups_get v m k j hj, ups_get v m (k + 1) j hj]
    by_cases e : k = j
    · subst e
      simp [ups_length, h]
    · rw [if_neg e]
      congr 1
      by_cases h2 : j < k
      · rw [if_pos h2, if_pos (by omega)]
      · rw [if_neg h2, if_neg (by omega)]
  · rw [List.getElem?_eq_none (l := ups v m (k + 1)) (by rw [ups_length]; omega), if_neg (by omega), List.getElem?_eq_none (by rw [ups_length]; omega)]
theorem ups_end (v m : Nat) (hv : v < 128 ^ 10) (hm : m = (putS v).length) : (ups v m m).set (m - 1) (v / 128 ^ (m - 1) % 128) = putS v := by
  have hp := putS_pos v
  apply List.ext_getElem?
  intro j
  rw [List.getElem?_set]
  by_cases hj : j < m
  · rw [ups_get v m m j hj, putS_get v j hv (by omega), if_pos hj]
    by_cases e : m - 1 = j
    · subst e
      rw [if_pos rfl, if_pos (by rw [ups_length]; omega), if_neg (by omega)]
      simp
    · rw [if_neg e, if_pos (by omega)]
  · rw [if_neg (by omega), List.getElem?_eq_none (by rw [ups_length]; omega), List.getElem?_eq_none (by omega)]

theorem digit_bits (v : Nat) (hv : v < 18446744073709551616) : bits .or .u8 (bits .and .u64 (v : Int) 127 % 256) 128 = ((v % 128 + 128 : Nat) : Int) := by
  have h1 : bits .and .u64 (v : Int) 127 = ((v % 128 : Nat) : Int) := by
    have := u64_and_nat v 127 hv (by omega)
    rwa [nat_mask7] at this
  rw [h1, Int.emod_eq_of_lt (by omega) (by omega), u8_or128_right _ (by omega) (by omega)]
  omega

set_option maxRecDepth 100000 in
set_option maxHeartbeats 1000000 in
theorem put_any (v : Int) (w : World) (h0 : 0 ≤ v) (h1 : v ≤ 18446744073709551615) :
    Calls Try.prog 78 #[.int .u64 v] w fun e w' => ∃ g, e = .returned (.slice (some ⟨g, 0, none⟩) (lenS v.toNat) (lenS v.toNat)) ∧
      w'.ownsRow w.heap.size 5 1 (.slice (some ⟨g, 0, none⟩) (lenS v.toNat) (lenS v.toNat)) (lenS v.toNat) (bts (putS v.toNat)) ∧ Below w.heap.size w w' := by
  obtain ⟨n, rfl⟩ := Int.eq_ofNat_of_zero_le h0
  have hl1 : 1 ≤ lenS n := putS_pos n
  have hl2 : lenS n ≤ 10 := putS_le n
  obtain ⟨i0, hi, hz0, hz1, hz2⟩ := info_parts Try.infoU8
  go_enter Try.func78, Try.ntmps78
  go_wp2_with (first
    | (go_at_call 86; refine (len_any _ _ (by omega) (by omega)).mono ?_; rintro e w' ⟨rfl, rfl⟩; rw [Int.toNat_natCast])
    | (at_make; refine wpList_make_full _ rfl _ _ 22 rfl w.heap.size 5 i0 (.int .u8 0) 1 Try.underlying22 hi hz0 hz1 _ _ _ _ (lenS n) rfl rfl rfl rfl ?b2 ?b3 (Nat.le_refl _) ?_))
  case b2 => rw [hz2]; omega
  case b3 => unfold maxLen; omega
  intro w1 hown hgr
  have hown0 : w1.ownsRow w.heap.size 5 1 (.slice (some ⟨w.heap.size, 0, none⟩) (lenS n) (lenS n)) (lenS n) (bts (ups n (lenS n) 0)) := by
    rw [ups_zero]
    have := toList_madeCells_one (.int .u8 0) (lenS n)
    rwa [this] at hown
  have hbel : Below w.heap.size w w1 := (Below.refl _ _).grown hgr (Nat.le_refl _) (fun _ h => by cases h)
  clear hown hgr
  go_wp2
  go_loopw [0, 10] (fun u i wr => ∃ k : Nat, k ≤ lenS n ∧ i = .int .i64 k ∧ u = .int .u64 (n / 128 ^ k : Nat) ∧
      wr.ownsRow w.heap.size 5 1 (.slice (some ⟨w.heap.size, 0, none⟩) (lenS n) (lenS n)) (lenS n) (bts (ups n (lenS n) k)) ∧ Below w.heap.size w wr) (fun _ i _ => lenS n - (intOf i).toNat)
  case atStart => exact ⟨0, Nat.zero_le _, rfl, by simp, hown0, hbel⟩
  case round =>
    clear hown0 hbel
    obtain ⟨k, hk, rfl, rfl, hown, hbel⟩ := hrel
    by_cases hlt : k < lenS n
    · have hcell : ∃ u0, wr.cell? ⟨w.heap.size, k, none⟩ = some u0 := ⟨_, (hown.cellAt k (by omega)).trans (by rw [bts_get, ups_get _ _ _ _ hlt]; rfl)⟩
      obtain ⟨u0, hcell⟩ := hcell
      have hfr := hown.frozenAt k
      have hst := hown.stored k (.int .u8 ((n / 128 ^ k % 128 + 128 : Nat) : Int))
      rw [bts_set, ups_step _ _ _ hlt] at hst
      have hdig := digit_bits (n / 128 ^ k) (Nat.lt_of_le_of_lt (Nat.div_le_self _ _) (by omega))
      have hq : n / 128 ^ (k + 1) = n / 128 ^ k / 128 := by rw [Nat.pow_succ, Nat.div_div_eq_div_mul]
      have hqb : n / 128 ^ k < 18446744073709551616 := Nat.lt_of_le_of_lt (Nat.div_le_self _ _) (by omega)
      have HQ := Lib.hid hq
      have HS := Lib.hid hst
      clear hst hown hq
      generalize n / 128 ^ k = q at hdig HQ HS hqb
      have HD := Lib.hid hdig
      clear hdig
      go_wp2
      go_roundw
      case rel =>
        rw [HD.out]
        exact ⟨k + 1, by omega, by go_num, by rw [HQ.out]; go_num, HS.out.1, hbel.setCell (p := ⟨w.heap.size, k, none⟩) (Nat.le_refl _) _⟩
      case measure => simp [intOf]; omega
    · have hke : k = lenS n := by omega
      have hcell : wr.cell? ⟨w.heap.size, lenS n - 1, none⟩ = some (.int .u8 ((n / 128 ^ (lenS n - 1) % 128 + 128 : Nat) : Int)) :=
        (hown.cellAt (lenS n - 1) (by omega)).trans (by rw [bts_get, ups_get _ _ _ _ (by omega), if_pos (by omega)]; rfl)
      have hfr := hown.frozenAt (lenS n - 1)
      have hst := hown.stored (lenS n - 1) (.int .u8 ((n / 128 ^ (lenS n - 1) % 128 : Nat) : Int))
      subst hke
      rw [bts_set, ups_end n (lenS n) (by omega) rfl] at hst
      have HS := Lib.hid hst
      have hx : n / 128 ^ (lenS n - 1) % 128 < 128 := Nat.mod_lt _ (by omega)
      clear hst hown
      generalize n / 128 ^ (lenS n - 1) % 128 = x at hcell HS hx
      go_wp2
      go_ret
      exact ⟨w.heap.size, rfl, HS.out.1, hbel.setCell (p := ⟨w.heap.size, lenS n - 1, none⟩) (Nat.le_refl _) _⟩

end Go.Proofs.Ytacmgfndmolnfaa
