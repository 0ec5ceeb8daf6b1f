/-
  The walk of the statement on the texts of layer 4.
-/
import Derived.Test.YtkaildgbjokmnaaDoorLocLawM
import Derived.Deep.RegionWith
import Derived.Deep.RegionHeld3
namespace Go.Proofs.YtkaildgbjokmnaaDoor
open Go.RowKit

theorem ext01 {s : ByteArray} {c : UInt8} {r : List UInt8} (h : s.data.toList = c :: r) : (s.extract 0 1).data.toList = [c] := by
  rw [ByteArray.data_extract, Array.toList_extract, h]
  simp [List.extract]

set_option maxRecDepth 100000 in
set_option maxHeartbeats 1000000 in
theorem LocationTexts_walk (a0 : ByteArray) (w : World) (w0 : a0.size ≤ maxLen) (ht : Tab w) :
    Calls Tryd.prog 5 #[.string a0] w fun e w' => e = .returned (.bool true) ∧ Below w.heap.size w w' := by
  unfold maxLen at w0
  by_cases hlen : (1000 : Int) < a0.size
  · go_enter Tryd.func5, Tryd.ntmps5
    go_wp2_with fail
    refine (awake_any _ ht).mono ?_
    rintro e W ⟨rfl, hst⟩
    go_wp2_with fail
    refine (awake_any _ hst.tab).mono ?_
    rintro e W2 ⟨rfl, hst2⟩
    replace hst := hst.next hst2.below
    go_wp2_with fail
    go_ret
    exact ⟨rfl, hst.below⟩
  have hsz : Hid (a0.size ≤ 9223372036854775807) := Lib.hid (by omega)
  have hs1000 : (a0.size : Int) ≤ 1000 := by omega
  clear w0 hlen
  rcases hk : pk a0.data.toList with _ | _
  · have HK := Lib.hid hk
    clear hk
    go_enter Tryd.func5, Tryd.ntmps5
    go_wp2_with fail
    refine (awake_any _ ht).mono ?_
    rintro e W ⟨rfl, hst⟩
    go_wp2_with fail
    refine (parse_s a0 0 false _ hsz.out (pv_no HK.out) HK.out).mono ?_
    rintro e w1 ⟨rfl, hb⟩
    replace hst := hst.next hb; clear hb
    go_wp2_with fail
    go_ret
    exact ⟨rfl, hst.below⟩
  obtain ⟨l, hl⟩ : ∃ l, a0.data.toList = l := ⟨_, rfl⟩
  obtain ⟨p, hp⟩ : ∃ p, pv l = p := ⟨_, rfl⟩
  have hp2 : p < 2199023255552 := hp ▸ pv_lt l
  have htx : tx p = l := by rw [← hp]; exact tx_pv (hl ▸ hk)
  rw [hl] at hk
  have hL2 : a0.toList = l := by rw [ByteArray.toList_eq, hl]
  obtain ⟨c, r, hcr⟩ : ∃ c r, l = c :: r := by
    rcases l with _ | ⟨c, r⟩
    · simp [pk] at hk
    · exact ⟨c, r, rfl⟩
  have h01 := ext01 (hl.trans hcr)
  have h1r := str_cut (hl.trans hcr)
  have hq : r.length + 1 = a0.size := by rw [← ba_len, hl, hcr]; rfl
  have hA : (a0.extract 0 1).size = 1 := by rw [← ba_len, h01]; rfl
  have hB : (a0.extract 1 a0.size).size = r.length := by rw [← ba_len, h1r]
  have hC : (⟨#[48]⟩ : ByteArray).size = 1 := rfl
  have hD : (a0.extract 0 1 ++ ⟨#[48]⟩ : ByteArray).size = 2 := by rw [ByteArray.size_append, hA, hC]
  have hE : (a0.extract 0 1 ++ ⟨#[48]⟩ ++ a0.extract 1 a0.size : ByteArray).size ≤ 9223372036854775807 := by rw [ByteArray.size_append, hD, hB]; omega
  have HE := Lib.hid hE
  clear hE
  have hz1 : pk (a0.extract 0 1 ++ ⟨#[48]⟩ ++ a0.extract 1 a0.size).data.toList = false := by
    rw [ByteArray.data_append, ByteArray.data_append, Array.toList_append, Array.toList_append, h01, h1r]
    have := pk_zero hk
    rw [hcr] at this
    exact this
  have hz2 : pk (a0 ++ ⟨#[32]⟩).data.toList = false := by
    rw [ByteArray.data_append, Array.toList_append, hl]
    exact pk_behind l
  have hz3 : pk ((⟨#[32]⟩ : ByteArray) ++ a0).data.toList = false := by
    rw [ByteArray.data_append, Array.toList_append, hl]
    exact pk_ahead l
  have hz4 : pk (a0.extract 0 1).data.toList = false := by
    rw [h01]
    have := pk_one l
    rw [hcr] at this
    exact this
  have hs1 : (1 : Int) ≤ a0.size := by omega
  have hF : ¬ 9223372036854775807 < 2 + r.length := by omega
  have hr1000 : (r.length : Int) ≤ 1000 := by omega
  have HZ1 := Lib.hid hz1; have HZ2 := Lib.hid hz2; have HZ3 := Lib.hid hz3; have HZ4 := Lib.hid hz4
  have HP := Lib.hid hp; have HL := Lib.hid hl; have HK := Lib.hid hk; have HT := Lib.hid htx; have HP2 := Lib.hid hp2
  have hpI : (p : Int) < 2199023255552 := by omega
  have hpd : decide ((2199023255552 : Int) ≤ p) = false := decide_eq_false (by omega)
  clear hz1 hz2 hz3 hz4 hp hl hk htx h01 h1r hcr hq hp2 hpI
  go_enter Tryd.func5, Tryd.ntmps5
  go_wp2_with fail
  refine (awake_any _ ht).mono ?_
  rintro e W ⟨rfl, hst⟩
  go_wp2_with fail
  refine (parse_s a0 p true _ hsz.out ((congrArg pv HL.out).trans HP.out) ((congrArg pk HL.out).trans HK.out)).mono ?_
  rintro e w1 ⟨rfl, hb⟩
  replace hst := hst.next hb; clear hb
  go_wp2_with fail
  refine (text_at p l _ HP2.out HT.out hst.tab).mono ?_
  rintro e w2 ⟨rfl, hb⟩
  replace hst := hst.next hb; clear hb
  go_wp2_with fail
  have hst2 := hst.tab
  go_region_held3 (fun w' => Below w2.heap.size w2 w') (first | exact Below.refl _ _ | exact (Below.refl _ _).drew | assumption | exact blw_drewN (by assumption) _ | exact Below.drew (by assumption)) (first
    | (go_at_call 8; refine (parse_s _ 0 false _ HE.out (pv_no HZ1.out) HZ1.out).mono ?_; rintro e w3 ⟨rfl, hb⟩; have kb : Below w2.heap.size w2 w3 := below_un hb (Nat.le_refl _)))
  replace hst := hst.next kb; clear kb hb hst2
  go_wp2_with fail
  refine (parse_s _ 0 false _ (by rw [ByteArray.size_append]; have : (⟨#[32]⟩ : ByteArray).size = 1 := rfl; omega) (pv_no HZ2.out) HZ2.out).mono ?_
  rintro e w4 ⟨rfl, hb⟩
  replace hst := hst.next hb; clear hb
  go_wp2_with fail
  refine (parse_s _ 0 false _ (by rw [ByteArray.size_append]; have : (⟨#[32]⟩ : ByteArray).size = 1 := rfl; omega) (pv_no HZ3.out) HZ3.out).mono ?_
  rintro e w5 ⟨rfl, hb⟩
  replace hst := hst.next hb; clear hb
  go_wp2_with fail
  refine (parse_s _ 0 false _ (by omega) (pv_no HZ4.out) HZ4.out).mono ?_
  rintro e w6 ⟨rfl, hb⟩
  replace hst := hst.next hb; clear hb
  go_wp2_with fail
  go_ret
  exact ⟨rfl, hst.below⟩

end Go.Proofs.YtkaildgbjokmnaaDoor
