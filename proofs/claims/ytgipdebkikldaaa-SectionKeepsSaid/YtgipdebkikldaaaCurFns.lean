/-
  The reading functions of the cursor's methods, and the methods that only need them: Byte, Uint, Int, Count, Fail, End.
-/
import Derived.Test.YtgipdebkikldaaaCurRead
import Derived.Test.YtgipdebkikldaaaVarGet
import Derived.Test.YtgipdebkikldaaaVarZig
namespace Go.Proofs.Ytgipdebkikldaaa
open Go.RowKit
set_option linter.unusedVariables false

def byteS : List Nat → Nat × Nat × Nat
  | [] => (0, 0, 1)
  | x :: _ => (x, 1, 0)
def uintS (most : Int) (l : List Nat) : Nat × Nat × Nat := if (getS l).2.2 = 0 ∧ most < ((getS l).1 : Int) then (0, 0, 6) else getS l
def countS (most size : Int) (l : List Nat) : Nat × Nat × Nat :=
  if most < 0 ∨ size < 0 then (0, 0, 32) else
  if (uintS most l).2.2 = 0 ∧ 0 < size ∧ ((l.length : Int) - (uintS most l).2.1) / size < ((uintS most l).1 : Int) then (0, 0, 1) else uintS most l

theorem getF_len : ∀ (l : List Nat) (k v : Nat), (getF k v l).2.1 ≤ k + l.length
  | [], k, v => by simp [getF]
  | c :: r, k, v => by
    rw [getF]
    split
    · simp
    · split
      · simp
      · have := getF_len r (k + 1) (v + (c - 128) * 128 ^ k)
        simp only [List.length_cons]
        omega
theorem getS_len (l : List Nat) : (getS l).2.1 ≤ l.length := by have := getF_len l 0 0; unfold getS; omega
theorem byteS_len (l : List Nat) : (byteS l).2.1 ≤ l.length := by cases l <;> simp [byteS]
theorem uintS_len (m : Int) (l : List Nat) : (uintS m l).2.1 ≤ l.length := by
  unfold uintS
  split
  · simp
  · exact getS_len l
theorem countS_len (m s : Int) (l : List Nat) : (countS m s l).2.1 ≤ l.length := by
  unfold countS
  split
  · simp
  · split
    · simp
    · exact uintS_len m l

def Trip (r : Nat × Nat × Nat) : Ending := .returned (.tuple #[.int .u64 r.1, .int .i64 r.2.1, .int .i64 r.2.2])

set_option maxRecDepth 100000 in
set_option maxHeartbeats 400000 in
theorem byteC (B : Nat) (A : Option Addr) (l : List Nat) (c : Nat) (w : World) (hs : Sees w B A (bts l)) (hb : Byt l) (hm : l.length ≤ maxLen) :
    Calls Try.prog 38 #[.slice A l.length c] w fun e w' => e = Trip (byteS l) ∧ w' = w := by
  unfold maxLen at hm
  rcases l with _ | ⟨x, r⟩
  · go_enter Try.func38, Try.ntmps38
    go_wp2
    go_ret3
    exact ⟨rfl, rfl⟩
  · obtain ⟨b, o, rfl, _, hc⟩ := hs (bts_ne (k := 0) (by simp))
    have hcell : w.cell? ⟨b, o, none⟩ = some (.int .u8 (x : Int)) := hc 0 _ rfl
    have hx : x < 256 := hb x (by simp)
    have h0 : ((((x :: r).length : Nat) : Int) == 0) = false := by simp; omega
    have h1 : 0 < (x :: r).length := by simp
    have HT := Lib.hid (show byteS (x :: r) = (x, 1, 0) from rfl)
    clear hc hs hb
    generalize (x :: r).length = n at hm h0 h1
    generalize byteS (x :: r) = t at HT
    go_enter Try.func38, Try.ntmps38
    go_wp2
    go_ret3
    exact ⟨by rw [HT.out]; rfl, rfl⟩

set_option maxRecDepth 100000 in
set_option maxHeartbeats 400000 in
theorem atMostC (B : Nat) (A : Option Addr) (l : List Nat) (c : Nat) (most : Int) (w : World) (hs : Sees w B A (bts l)) (hb : Byt l) (hm : l.length ≤ maxLen) (h0 : 0 ≤ most) :
    Calls Try.prog 40 #[.slice A l.length c, .int .u64 most] w fun e w' => e = Trip (uintS most l) ∧ w = w' := by
  have HU := Lib.hid (show uintS most l = if (getS l).2.2 = 0 ∧ most < ((getS l).1 : Int) then (0, 0, 6) else getS l from rfl)
  have HG := Lib.hid (get_any B A l c w hs hb hm)
  generalize uintS most l = u at HU
  generalize hg : getS l = g at HU HG
  obtain ⟨v, n, e⟩ := g
  clear hg
  by_cases he : e = 0
  · subst he
    by_cases hv : most < (v : Int)
    · have HU' := Lib.hid (HU.out.trans (if_pos ⟨rfl, hv⟩))
      go_enter Try.func40, Try.ntmps40
      go_wp2_with fail
      refine HG.out.mono ?_
      rintro e W ⟨rfl, rfl⟩
      go_wp2
      go_ret3
      exact ⟨by rw [HU'.out]; rfl, rfl⟩
    · have HU' := Lib.hid (HU.out.trans (if_neg fun h => hv h.2))
      have hv' : (v : Int) ≤ most := by omega
      clear hv
      go_enter Try.func40, Try.ntmps40
      go_wp2_with fail
      refine HG.out.mono ?_
      rintro e W ⟨rfl, rfl⟩
      go_wp2
      go_ret3
      exact ⟨by rw [HU'.out]; rfl, rfl⟩
  · have HU' := Lib.hid (HU.out.trans (if_neg fun h => he h.1))
    have e0 : ((e : Int) == 0) = false := by simp; omega
    go_enter Try.func40, Try.ntmps40
    go_wp2_with fail
    refine HG.out.mono ?_
    rintro e W ⟨rfl, rfl⟩
    go_wp2
    go_ret3
    exact ⟨by rw [HU'.out]; rfl, rfl⟩

set_option maxRecDepth 100000 in
set_option maxHeartbeats 400000 in
theorem uintC (B : Nat) (A : Option Addr) (l : List Nat) (c : Nat) (most : Int) (q : Nat) (w : World) (hs : Sees w B A (bts l)) (hb : Byt l) (hm : l.length ≤ maxLen) (h0 : 0 ≤ most)
    (hq : w.cell? ⟨q, 0, none⟩ = some (.int .u64 most)) :
    Calls Try.prog 39 #[.slice A l.length c, .pointer (some ⟨q, 0, none⟩)] w fun e w' => e = Trip (uintS most l) ∧ w' = w := by
  have HG := Lib.hid (atMostC B A l c most w hs hb hm h0)
  clear hs
  go_enter Try.func39, Try.ntmps39
  go_wp2_with fail
  refine HG.out.mono ?_
  rintro e W ⟨rfl, rfl⟩
  unfold Trip
  go_wp2
  go_ret3
  exact ⟨rfl, rfl⟩

theorem uintS_v (most : Int) (l : List Nat) (hb : Byt l) : (uintS most l).2.2 = 0 → (((uintS most l).1 : Nat) : Int) ≤ most := by
  unfold uintS
  split
  · intro h; cases h
  · rename_i h
    intro h2
    have : ¬ most < ((getS l).1 : Int) := fun h3 => h ⟨h2, h3⟩
    omega

end Go.Proofs.Ytgipdebkikldaaa
