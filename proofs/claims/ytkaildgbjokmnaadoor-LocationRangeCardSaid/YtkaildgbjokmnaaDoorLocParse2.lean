/-
  The program's Parse and the reference's Parse both read the text of a location.
-/
import Derived.Test.YtkaildgbjokmnaaDoorLocParse
namespace Go.Proofs.YtkaildgbjokmnaaDoor
open Go.RowKit

theorem str_cut {s : ByteArray} {c : UInt8} {r : List UInt8} (h : s.data.toList = c :: r) : (s.extract 1 s.size).data.toList = r := by
  have hn : s.size = r.length + 1 := by have := congrArg List.length h; rw [ba_len] at this; simpa using this
  rw [ByteArray.data_extract, Array.toList_extract, h, hn]
  simp [List.extract]
theorem pno2 {l : List UInt8} (h : pk l = false) : Ending.returned (.tuple #[.int .i64 0, .bool false]) = .returned (.tuple #[.int .i64 (pv l), .bool (pk l)]) := by
  rw [pv_no h, h]; rfl
theorem pk_char {c : UInt8} {r : List UInt8} (h1 : c.toNat ≠ 114) (h2 : c.toNat ≠ 115) : pk (c :: r) = false :=
  pk_no' (fun e => h1 (by rw [Option.some.inj e]; rfl)) (fun e => h2 (by rw [Option.some.inj e]; rfl))

theorem parseIndex_at (s : ByteArray) (n : Nat) (b : Bool) (w : World) (hs : s.size ≤ maxLen) (hn : nv s.data.toList = n) (hb : nk s.data.toList = b) :
    Calls Tryd.prog 18 #[.string s] w fun e w' => e = .returned (.tuple #[.int .i64 n, .bool b]) ∧ Below w.heap.size w w' := by
  subst hn; subst hb
  exact parseIndex_any s w hs
theorem number_at (s : ByteArray) (n : Nat) (b : Bool) (w : World) (hs : s.size ≤ maxLen) (hn : nv s.data.toList = n) (hb : nk s.data.toList = b) :
    Calls Tryd.prog 19 #[.string s] w fun e w' => e = .returned (.tuple #[.int .i64 n, .bool b]) ∧ w = w' := by
  subst hn; subst hb
  exact number_any s w hs
theorem cut_size (s : ByteArray) : (s.extract 1 s.size).size ≤ s.size := by simp [ByteArray.size_extract]

set_option maxRecDepth 100000 in
set_option maxHeartbeats 1000000 in
theorem parse_any (s : ByteArray) (w : World) (hs : s.size ≤ maxLen) :
    Calls Tryd.prog 8 #[.string s] w fun e w' => e = .returned (.tuple #[.int .i64 (pv s.data.toList), .bool (pk s.data.toList)]) ∧ Below w.heap.size w w' := by
  have hlen := ba_len s
  rcases hL : s.data.toList with _ | ⟨c, r⟩
  · have hem : s.toList.isEmpty = true := by rw [ByteArray.toList_eq, hL]; rfl
    have hno : Hid (pk [] = false) := Lib.hid (pk_no' (by simp) (by simp))
    go_enter Tryd.func8, Tryd.ntmps8
    go_wp2_with fail
    go_ret2
    exact ⟨pno2 hno.out, Below.refl _ _⟩
  · have hem : s.toList.isEmpty = false := by rw [ByteArray.toList_eq, hL]; rfl
    have hcut := str_cut hL
    have hsz : 0 < s.size := by rw [← hlen, hL]; simp
    have hc256 : c.toNat < 256 := c.toNat_lt
    have hix := fun w => idx_str (P := Tryd.prog) 9 Tryd.underlying9 s 0 0 rfl c.toNat (by rw [hL]; simp) (by simp [hL]) w
    have hce := fun w n b => parseIndex_at (s.extract 1 s.size) n b w (Nat.le_trans (cut_size s) hs)
    rw [hcut] at hce
    unfold maxLen at hs
    have HC := Lib.hid hce
    clear hce hL hlen hcut
    by_cases hn : Num r
    · have hpi := fun w => HC.out w _ _ rfl (nk_yes hn)
      have hlt := nv_lt r
      rcases (by omega : c.toNat = 114 ∨ c.toNat = 115 ∨ (c.toNat ≠ 114 ∧ c.toNat ≠ 115)) with h1 | h1 | ⟨h1, h2⟩
      · obtain rfl : c = 114 := UInt8.toNat_inj.1 (by rw [h1]; rfl)
        have hk := pk_r hn
        have hv := pv_r hn
        rw [hk, hv]
        generalize nv r = n at hpi hlt
        have HP := Lib.hid hpi
        rw [h1] at hix
        clear hpi HC hn hk hv h1 hc256
        go_enter Tryd.func8, Tryd.ntmps8
        go_wp2_with (first
          | (go_at_call 18; refine (HP.out _).mono ?_; rintro e w' ⟨rfl, hb⟩)
          | (go_at_call 16; refine (reg_any n _ hlt).mono ?_; rintro e w' ⟨rfl, rfl⟩))
        go_ret2
        exact ⟨rfl, hb⟩
      · obtain rfl : c = 115 := UInt8.toNat_inj.1 (by rw [h1]; rfl)
        have hk := pk_s hn
        have hv := pv_s hn
        rw [hk, hv]
        generalize nv r = n at hpi hlt
        have HP := Lib.hid hpi
        rw [h1] at hix
        clear hpi HC hn hk hv h1 hc256
        go_enter Tryd.func8, Tryd.ntmps8
        go_wp2_with (first
          | (go_at_call 18; refine (HP.out _).mono ?_; rintro e w' ⟨rfl, hb⟩)
          | (go_at_call 17; refine (slot_any n _ hlt).mono ?_; rintro e w' ⟨rfl, rfl⟩))
        go_ret2
        exact ⟨rfl, hb⟩
      · have hk : Hid (pk (c :: r) = false) := Lib.hid (pk_char h1 h2)
        have e1 : ((c.toNat : Int) == 114) = false := beq_eq_false_iff_ne.2 (by omega)
        have e2 : ((c.toNat : Int) == 115) = false := beq_eq_false_iff_ne.2 (by omega)
        generalize nv r = n at hpi hlt
        have HP := Lib.hid hpi
        clear hpi HC hn h1 h2
        generalize c.toNat = x at hix e1 e2 hc256
        go_enter Tryd.func8, Tryd.ntmps8
        go_wp2_with (go_at_call 18; refine (HP.out _).mono ?_; rintro e w' ⟨rfl, hb⟩)
        go_ret2
        exact ⟨pno2 hk.out, hb⟩
    · have hk : Hid (pk (c :: r) = false) := Lib.hid (pk_no hn)
      have HP := Lib.hid fun w => HC.out w _ _ (nv_no hn) (nk_no hn)
      clear HC hn
      go_enter Tryd.func8, Tryd.ntmps8
      go_wp2_with (go_at_call 18; refine (HP.out _).mono ?_; rintro e w' ⟨rfl, hb⟩)
      go_ret2
      exact ⟨pno2 hk.out, hb⟩

set_option maxRecDepth 100000 in
set_option maxHeartbeats 1000000 in
theorem rparse_any (s : ByteArray) (w : World) (hs : s.size ≤ maxLen) :
    Calls Tryd.prog 9 #[.string s] w fun e w' => e = .returned (.tuple #[.int .i64 (pv s.data.toList), .bool (pk s.data.toList)]) ∧ w = w' := by
  have hlen := ba_len s
  rcases hL : s.data.toList with _ | ⟨c, r⟩
  · have hem : s.size = 0 := by rw [← hlen, hL]; rfl
    have hno : Hid (pk [] = false) := Lib.hid (pk_no' (by simp) (by simp))
    go_enter Tryd.func9, Tryd.ntmps9
    go_wp2_with fail
    go_ret2
    exact ⟨pno2 hno.out, rfl⟩
  · have hcut := str_cut hL
    have hsz : 0 < s.size := by rw [← hlen, hL]; simp
    have hem : ((s.size : Int) == 0) = false := beq_eq_false_iff_ne.2 (by omega)
    have hc256 : c.toNat < 256 := c.toNat_lt
    have hix := fun w => idx_str (P := Tryd.prog) 9 Tryd.underlying9 s 0 0 rfl c.toNat (by rw [hL]; simp) (by simp [hL]) w
    have hce := fun w n b => number_at (s.extract 1 s.size) n b w (Nat.le_trans (cut_size s) hs)
    rw [hcut] at hce
    unfold maxLen at hs
    have HC := Lib.hid hce
    clear hce hL hlen hcut
    rcases (by omega : c.toNat = 114 ∨ c.toNat = 115 ∨ (c.toNat ≠ 114 ∧ c.toNat ≠ 115)) with h1 | h1 | ⟨h1, h2⟩
    · obtain rfl : c = 114 := UInt8.toNat_inj.1 (by rw [h1]; rfl)
      rw [h1] at hix
      by_cases hn : Num r
      · have hpi := fun w => HC.out w _ _ rfl (nk_yes hn)
        have hlt := nv_lt r
        have hk := pk_r hn
        have hv := pv_r hn
        rw [hk, hv]
        generalize nv r = n at hpi hlt
        have HP := Lib.hid hpi
        clear hpi HC hn hk hv h1 hc256
        go_enter Tryd.func9, Tryd.ntmps9
        go_wp2_with (go_at_call 19; refine (HP.out _).mono ?_; rintro e w' ⟨rfl, rfl⟩)
        go_ret2
        exact ⟨tup2 (by omega) rfl, rfl⟩
      · have hk : Hid (pk (114 :: r) = false) := Lib.hid (pk_no hn)
        have HP := Lib.hid fun w => HC.out w _ _ (nv_no hn) (nk_no hn)
        clear HC hn h1 hc256
        go_enter Tryd.func9, Tryd.ntmps9
        go_wp2_with (go_at_call 19; refine (HP.out _).mono ?_; rintro e w' ⟨rfl, rfl⟩)
        go_ret2
        exact ⟨pno2 hk.out, rfl⟩
    · obtain rfl : c = 115 := UInt8.toNat_inj.1 (by rw [h1]; rfl)
      rw [h1] at hix
      by_cases hn : Num r
      · have hpi := fun w => HC.out w _ _ rfl (nk_yes hn)
        have hlt := nv_lt r
        have hk := pk_s hn
        have hv := pv_s hn
        rw [hk, hv]
        generalize nv r = n at hpi hlt
        have HP := Lib.hid hpi
        clear hpi HC hn hk hv h1 hc256
        go_enter Tryd.func9, Tryd.ntmps9
        go_wp2_with (go_at_call 19; refine (HP.out _).mono ?_; rintro e w' ⟨rfl, rfl⟩)
        go_ret2
        exact ⟨tup2 (by omega) rfl, rfl⟩
      · have hk : Hid (pk (115 :: r) = false) := Lib.hid (pk_no hn)
        have HP := Lib.hid fun w => HC.out w _ _ (nv_no hn) (nk_no hn)
        clear HC hn h1 hc256
        go_enter Tryd.func9, Tryd.ntmps9
        go_wp2_with (go_at_call 19; refine (HP.out _).mono ?_; rintro e w' ⟨rfl, rfl⟩)
        go_ret2
        exact ⟨pno2 hk.out, rfl⟩
    · have hk : Hid (pk (c :: r) = false) := Lib.hid (pk_char h1 h2)
      have e1 : ((c.toNat : Int) != 114) = true := bne_iff_ne.2 (by omega)
      have e2 : ((c.toNat : Int) != 115) = true := bne_iff_ne.2 (by omega)
      clear HC h1 h2
      generalize c.toNat = x at hix e1 e2 hc256
      go_enter Tryd.func9, Tryd.ntmps9
      go_wp2_with fail
      go_ret2
      exact ⟨pno2 hk.out, rfl⟩

end Go.Proofs.YtkaildgbjokmnaaDoor
