/-
  The program's inRange and unusedZero.
-/
import Derived.Test.YtcindgaonaloeaaSrcMath
import Derived.LoopTactic
import Derived.Below
namespace Go.Proofs.Ytcindgaonaloeaa
open Go.RowKit
set_option linter.unusedVariables false

def Flds (w : World) (B : Nat) (A : Option Addr) (fs : List Fld) : Prop := Sees w B A (fs.flatMap Fld.cells)
theorem Flds.at_ {w : World} {B : Nat} {A : Option Addr} {fs : List Fld} (h : Flds w B A fs) {k : Nat} (hk : k < fs.length) :
    ∃ b o, A = some ⟨b, o, none⟩ ∧ b < B ∧ w.cell? ⟨b, o + k * 2, none⟩ = some (.bool fs[k].1) ∧ w.cell? ⟨b, o + k * 2 + 1, none⟩ = some (.int .i64 fs[k].2) := by
  have hg := flat_get Fld.cells 2 (fun _ => rfl) fs k fs[k] (List.getElem?_eq_getElem hk)
  have h0 := hg 0 _ rfl
  have h1 := hg 1 _ rfl
  obtain ⟨b, o, e, hb, hc⟩ := h (by intro e; rw [e] at h0; cases h0)
  exact ⟨b, o, e, hb, hc _ _ h0, by rw [Nat.add_assoc]; exact hc _ _ h1⟩
theorem Flds.below {w w' : World} {B : Nat} {A : Option Addr} {fs : List Fld} (h : Flds w B A fs) (hb : Below B w w') : Flds w' B A fs := Sees.below h hb
theorem Flds.more {w : World} {B B' : Nat} {A : Option Addr} {fs : List Fld} (h : Flds w B A fs) (hB : B ≤ B') : Flds w B' A fs := Sees.more h hB

set_option maxRecDepth 100000 in
set_option maxHeartbeats 1000000 in
theorem inrange_any (B : Nat) (A : Option Addr) (fs : List Fld) (c : Nat) (n : Int) (w : World) (hs : Flds w B A fs) (hB : B ≤ w.heap.size) (hm : fs.length ≤ 1000) :
    Calls Try.prog 32 #[.int .i64 n, .slice A fs.length c] w fun e w' => e = .returned (.bool (okR n fs)) ∧ Below w.heap.size w w' := by
  go_enter Try.func32, Try.ntmps32
  go_wp2
  go_loopw [9] (fun i wr => ∃ k : Nat, k ≤ fs.length ∧ i = .int .i64 k ∧ Hid (okR n fs = okR n (fs.drop k)) ∧ Hid (Below w.heap.size w wr)) (fun i _ => fs.length - (intOf i).toNat)
  case atStart => exact ⟨0, Nat.zero_le _, rfl, rfl, Below.refl _ _⟩
  case round =>
    obtain ⟨k, hk, rfl, HT, HB⟩ := hrel
    by_cases hlt : k < fs.length
    · obtain ⟨b, o, rfl, hb, hc0, hc1⟩ := ((hs.more hB).below HB.out).at_ hlt
      have HS := Lib.hid (HT.out.trans (okR_step n fs k hlt))
      have HB2 := Lib.hid (HB.out.alloc HB.out.size (.cells #[.bool fs[k].1, .int .i64 fs[k].2] 61))
      clear HT HB hs
      obtain ⟨rest, hr⟩ : ∃ z, okR n (fs.drop (k + 1)) = z := ⟨_, rfl⟩
      rw [hr] at HS
      have HR := Lib.hid hr
      clear hr
      generalize fs[k] = p at *
      obtain ⟨u, v⟩ := p
      dsimp only at hc0 hc1 HB2
      cases u
      · go_wp2
        go_roundw
        case rel => exact ⟨k + 1, by omega, by go_num, by have := HS.out; simpa [fR, Hid, HR.out] using this, HB2.out⟩
        case measure => simp [intOf]; omega
      · by_cases h0 : v < 0
        · go_wp2
          go_ret
          exact ⟨by rw [HS.out]; simp [fR, h0], HB2.out⟩
        · by_cases h1 : n ≤ v
          · go_wp2
            go_ret
            exact ⟨by rw [HS.out]; simp [fR, h1], HB2.out⟩
          · go_wp2
            go_roundw
            case rel => exact ⟨k + 1, by omega, by go_num, by have := HS.out; simpa [fR, h0, h1, Hid, HR.out] using this, HB2.out⟩
            case measure => simp [intOf]; omega
    · obtain rfl : k = fs.length := by omega
      rw [List.drop_length] at HT
      go_wp2
      go_ret
      exact ⟨by rw [HT.out]; rfl, HB.out⟩

set_option maxRecDepth 100000 in
set_option maxHeartbeats 1000000 in
theorem unused_any (B : Nat) (A : Option Addr) (fs : List Fld) (c : Nat) (w : World) (hs : Flds w B A fs) (hB : B ≤ w.heap.size) (hm : fs.length ≤ 1000) :
    Calls Try.prog 33 #[.slice A fs.length c] w fun e w' => e = .returned (.bool (okZ fs)) ∧ Below w.heap.size w w' := by
  go_enter Try.func33, Try.ntmps33
  go_wp2
  go_loopw [7] (fun i wr => ∃ k : Nat, k ≤ fs.length ∧ i = .int .i64 k ∧ Hid (okZ fs = okZ (fs.drop k)) ∧ Hid (Below w.heap.size w wr)) (fun i _ => fs.length - (intOf i).toNat)
  case atStart => exact ⟨0, Nat.zero_le _, rfl, rfl, Below.refl _ _⟩
  case round =>
    obtain ⟨k, hk, rfl, HT, HB⟩ := hrel
    by_cases hlt : k < fs.length
    · obtain ⟨b, o, rfl, hb, hc0, hc1⟩ := ((hs.more hB).below HB.out).at_ hlt
      have HS := Lib.hid (HT.out.trans (okZ_step fs k hlt))
      have HB2 := Lib.hid (HB.out.alloc HB.out.size (.cells #[.bool fs[k].1, .int .i64 fs[k].2] 61))
      clear HT HB hs
      obtain ⟨rest, hr⟩ : ∃ z, okZ (fs.drop (k + 1)) = z := ⟨_, rfl⟩
      rw [hr] at HS
      have HR := Lib.hid hr
      clear hr
      generalize fs[k] = p at *
      obtain ⟨u, v⟩ := p
      dsimp only at hc0 hc1 HB2
      cases u
      · by_cases h0 : v = 0
        · have e0 : (v != 0) = false := by simp [h0]
          have H0 := Lib.hid h0
          clear h0
          go_wp2
          go_roundw
          case rel => exact ⟨k + 1, by omega, by go_num, by have := HS.out; simpa [fZ, H0.out, Hid, HR.out] using this, HB2.out⟩
          case measure => simp [intOf]; omega
        · have e0 : (v != 0) = true := by simp [h0]
          go_wp2
          go_ret
          exact ⟨by rw [HS.out]; simp [fZ, h0], HB2.out⟩
      · go_wp2
        go_roundw
        case rel => exact ⟨k + 1, by omega, by go_num, by have := HS.out; simpa [fZ, Hid, HR.out] using this, HB2.out⟩
        case measure => simp [intOf]; omega
    · obtain rfl : k = fs.length := by omega
      rw [List.drop_length] at HT
      go_wp2
      go_ret
      exact ⟨by rw [HT.out]; rfl, HB.out⟩

end Go.Proofs.Ytcindgaonaloeaa
