/-
  The cursor's methods that turn nothing but the cursor: Byte, Uint, Int, Count, Fail, End.
-/
import Derived.Test.YtkapmfopfddmbaaGreatPk1
namespace Go.Proofs.YtkapmfopfddmbaaGreat
open Go.RowKit
set_option linter.unusedVariables false

section
variable {w : World} {lo p : Nat} {l : List Nat} {i : Nat} {er : Int} {A : Option Addr} {c : Nat}

theorem Cur.alloc (h : Cur w lo p l i er A c) (o : Obj) : Cur (w.alloc o) lo p l i er A c := h.mods (S := No) ((Mods.refl _ _).alloc o) fun _ hk => hk.elim

theorem Cur.rest (h : Cur w lo p l i er A c) : Byt (l.drop i) := fun x hx => h.byt x (List.mem_of_mem_drop hx)

theorem Cur.restmax (h : Cur w lo p l i er A c) : (l.drop i).length ≤ maxLen := by have := h.max; rw [List.length_drop]; omega

theorem Cur.restlen (h : Cur w lo p l i er A c) : (l.drop i).length = l.length - i := List.length_drop

end

theorem byteS_v (l : List Nat) (hb : Byt l) : (byteS l).1 < 256 := by
  cases l with
  | nil => simp [byteS]
  | cons x r => exact hb x (by simp)

/-- What the methods leave: r the reading function's outcome. -/
def After (w : World) (lo p : Nat) (l : List Nat) (i : Nat) (er : Int) (A : Option Addr) (c : Nat) (r : Nat × Nat × Nat) (w' : World) : Prop :=
  Mods (Is p) w w' ∧ Cur w' lo p l (stepI i er r) (stepE er r) A c

set_option maxRecDepth 100000 in
set_option maxHeartbeats 400000 in
theorem byte_any {w : World} {lo p : Nat} {l : List Nat} {i : Nat} {er : Int} {A : Option Addr} {c : Nat} (h : Cur w lo p l i er A c) :
    Calls Tryz.prog 18 #[.pointer (some ⟨p, 0, none⟩)] w fun e w' => e = .returned (.int .u8 (stepV er (byteS (l.drop i)))) ∧ After w lo p l i er A c (byteS (l.drop i)) w' := by
  have hv : stepV er (byteS (l.drop i)) < 256 := by
    unfold stepV
    split
    · exact byteS_v _ h.rest
    · omega
  have HC := Lib.hid (read_quiet 42 #[] (fun _ _ => rfl) h (byteS (l.drop i)) (byteS_len _)
    (fun A' c' n hs => by rw [← h.restlen]; exact Calls.quiet_of_same (byteC p A' (l.drop i) c' _ (hs.drewN n) h.rest h.restmax)))
  clear h
  unfold After
  generalize stepV er (byteS (l.drop i)) = v at hv HC
  go_enter Tryz.func18, Tryz.ntmps18
  go_wp2_with fail
  refine HC.out.mono ?_
  rintro e W ⟨rfl, hm, hc⟩
  have Hm := Lib.hid hm
  have Hc := Lib.hid hc
  clear hm hc
  go_wp2
  go_ret
  exact ⟨rfl, Hm.out, Hc.out⟩

set_option maxRecDepth 100000 in
set_option maxHeartbeats 400000 in
theorem uint_any {w : World} {lo p : Nat} {l : List Nat} {i : Nat} {er : Int} {A : Option Addr} {c : Nat} (h : Cur w lo p l i er A c) (most : Int) (h0 : 0 ≤ most) :
    Calls Tryz.prog 45 #[.pointer (some ⟨p, 0, none⟩), .int .u64 most] w fun e w' => e = .returned (.int .u64 (stepV er (uintS most (l.drop i)))) ∧ After w lo p l i er A c (uintS most (l.drop i)) w' := by
  have h1 := h.alloc (.cells #[.int .u64 most] 90)
  have HC := Lib.hid (read_quiet 64 #[.pointer (some ⟨w.heap.size, 0, none⟩)] (fun _ _ => rfl) h1 (uintS most (l.drop i)) (uintS_len _ _)
    (fun A' c' n hs => by
      have := uintC p A' (l.drop i) c' most w.heap.size ((w.alloc (.cells #[.int .u64 most] 90)).drewN n) (hs.drewN n) h.rest h.restmax h0 ((Row.new w 90 #[.int .u64 most]).cell 0)
      rw [h.restlen] at this
      exact Calls.quiet_of_same this))
  clear h1 h
  unfold After
  go_enter Tryz.func45, Tryz.ntmps45
  go_wp2_with fail
  refine HC.out.mono ?_
  rintro e W ⟨rfl, hm, hc⟩
  have Hm := Lib.hid (((Mods.refl (Is p) w).alloc (.cells #[.int .u64 most] 90)).trans hm)
  have Hc := Lib.hid hc
  clear hm hc
  go_wp2
  go_ret
  exact ⟨rfl, Hm.out, Hc.out⟩

set_option maxRecDepth 100000 in
set_option maxHeartbeats 400000 in
theorem int_any {w : World} {lo p : Nat} {l : List Nat} {i : Nat} {er : Int} {A : Option Addr} {c : Nat} (h : Cur w lo p l i er A c) (hv : (getS (l.drop i)).1 ≤ 18446744073709551615) :
    Calls Tryz.prog 98 #[.pointer (some ⟨p, 0, none⟩)] w fun e w' => e = .returned (.int .i64 (uz (stepV er (getS (l.drop i))))) ∧ After w lo p l i er A c (getS (l.drop i)) w' := by
  have hv2 : InU ((stepV er (getS (l.drop i)) : Nat) : Int) := by
    unfold stepV InU
    split <;> omega
  have HC := Lib.hid (read_quiet 76 #[] (fun _ _ => rfl) h (getS (l.drop i)) (getS_len _)
    (fun A' c' n hs => by
      have := get_any p A' (l.drop i) c' (w.drewN n) (hs.drewN n) h.rest h.restmax
      rw [h.restlen] at this
      exact this.mono fun _ _ ⟨h1, h2⟩ => ⟨h1, n, h2.symm⟩))
  clear h
  unfold After
  generalize stepV er (getS (l.drop i)) = v at hv2 HC
  go_enter Tryz.func98, Tryz.ntmps98
  go_wp2_with fail
  refine HC.out.mono ?_
  rintro e W ⟨rfl, hm, hc⟩
  have Hm := Lib.hid hm
  have Hc := Lib.hid hc
  clear hm hc
  go_wp2_with fail
  refine (unzig_any _ _ hv2).mono ?_
  rintro e W' ⟨rfl, rfl⟩
  go_wp2
  go_ret
  exact ⟨rfl, Hm.out, Hc.out⟩

theorem countS_v (most size : Int) (l : List Nat) (hb : Byt l) (h0 : most ≤ 9223372036854775807) : (countS most size l).2.2 = 0 → (((countS most size l).1 : Nat) : Int) ≤ 9223372036854775807 := by
  unfold countS
  split
  · intro h; cases h
  · split
    · intro h; cases h
    · intro h
      have := uintS_v most l hb h
      omega

set_option maxRecDepth 100000 in
set_option maxHeartbeats 400000 in
theorem count_any {w : World} {lo p : Nat} {l : List Nat} {i : Nat} {er : Int} {A : Option Addr} {c : Nat} (h : Cur w lo p l i er A c) (most size : Int) (hm1 : most ≤ 9223372036854775807) (hs1 : size ≤ 9223372036854775807) :
    Calls Tryz.prog 77 #[.pointer (some ⟨p, 0, none⟩), .int .i64 most, .int .i64 size] w fun e w' => e = .returned (.int .i64 (stepV er (countS most size (l.drop i)))) ∧ After w lo p l i er A c (countS most size (l.drop i)) w' := by
  have hv : ((stepV er (countS most size (l.drop i)) : Nat) : Int) ≤ 9223372036854775807 := by
    unfold stepV
    split
    · exact countS_v most size _ h.rest hm1 (by omega)
    · omega
  have h1 := (h.alloc (.cells #[.int .i64 most] 3)).alloc (.cells #[.int .i64 size] 3)
  have HC := Lib.hid (read_quiet 88 #[.pointer (some ⟨w.heap.size, 0, none⟩), .pointer (some ⟨w.heap.size + 1, 0, none⟩)] (fun _ _ => rfl) h1 (countS most size (l.drop i)) (countS_len _ _ _)
    (fun A' c' n hs => by
      have := countC p A' (l.drop i) c' most size w.heap.size (w.heap.size + 1) (((w.alloc (.cells #[.int .i64 most] 3)).alloc (.cells #[.int .i64 size] 3)).drewN n) (hs.drewN n) h.rest h.restmax hm1 hs1
        (((Row.new w 3 #[.int .i64 most]).alloc _).cell 0) (by simp)
      rw [h.restlen] at this
      exact Calls.quiet_of_same this))
  clear h1 h
  unfold After
  generalize stepV er (countS most size (l.drop i)) = v at hv HC
  go_enter Tryz.func77, Tryz.ntmps77
  go_wp2_with fail
  refine HC.out.mono ?_
  rintro e W ⟨rfl, hm, hc⟩
  have Hm := Lib.hid ((((Mods.refl (Is p) w).alloc (.cells #[.int .i64 most] 3)).alloc (.cells #[.int .i64 size] 3)).trans hm)
  have Hc := Lib.hid hc
  clear hm hc
  go_wp2
  go_ret
  exact ⟨rfl, Hm.out, Hc.out⟩

/-- The error after Fail. -/
def failS (er e : Int) : Int := if er = 0 then e else er

set_option maxRecDepth 100000 in
set_option maxHeartbeats 400000 in
theorem fail_any {w : World} {lo p : Nat} {l : List Nat} {i : Nat} {er : Int} {A : Option Addr} {c : Nat} (h : Cur w lo p l i er A c) (x : Int) :
    Calls Tryz.prog 66 #[.pointer (some ⟨p, 0, none⟩), .int .i64 x] w fun e w' => e = .returned (.tuple #[]) ∧ Mods (Is p) w w' ∧ Cur w' lo p l i (failS er x) A c := by
  have h2 : w.cell? ⟨p, 2, none⟩ = some (.int .i64 er) := h.row.cell 2
  have f2 := h.row.frozen 2
  by_cases he : er = 0
  · subst he
    go_enter Tryz.func66, Tryz.ntmps66
    go_wp2_with fail
    refine (err_any h).mono ?_
    rintro e W ⟨rfl, rfl⟩
    go_wp2
    go_end0
    exact ⟨rfl, (Mods.refl _ _).put 2 _, h.err x⟩
  · have e0 : (er == 0) = false := by simp [he]
    have HE := Lib.hid (show failS er x = er from if_neg he)
    clear he
    go_enter Tryz.func66, Tryz.ntmps66
    go_wp2_with fail
    refine (err_any h).mono ?_
    rintro e W ⟨rfl, rfl⟩
    go_wp2
    go_end0
    exact ⟨rfl, Mods.refl _ _, by rw [HE.out]; exact h⟩

/-- The error after End. -/
def endS (n i : Nat) (er : Int) : Int := if er = 0 ∧ i < n then 2 else er

set_option maxRecDepth 100000 in
set_option maxHeartbeats 400000 in
theorem end_any {w : World} {lo p : Nat} {l : List Nat} {i : Nat} {er : Int} {A : Option Addr} {c : Nat} (h : Cur w lo p l i er A c) :
    Calls Tryz.prog 47 #[.pointer (some ⟨p, 0, none⟩)] w fun e w' => e = .returned (.tuple #[]) ∧ Mods (Is p) w w' ∧ Cur w' lo p l i (endS l.length i er) A c := by
  have hle := h.le
  by_cases he : er = 0 ∧ i < l.length
  · obtain ⟨rfl, hi⟩ := he
    have hp : (0 : Int) < leftS l.length i 0 := by rw [leftS_ok]; omega
    have HE := Lib.hid (show endS l.length i 0 = 2 from if_pos ⟨rfl, hi⟩)
    have HL := Lib.hid (left_any h)
    generalize leftS l.length i 0 = z at hp HL
    go_enter Tryz.func47, Tryz.ntmps47
    go_wp2_with fail
    refine HL.out.mono ?_
    rintro e W ⟨rfl, n, rfl⟩
    go_wp2_with fail
    refine (fail_any (h.drewN n) 2).mono ?_
    rintro e W ⟨rfl, hm, hc⟩
    go_wp2
    go_end0
    exact ⟨rfl, hm.unN, by rw [HE.out]; exact hc⟩
  · have hp : leftS l.length i er ≤ 0 := by
      unfold leftS
      split
      · omega
      · omega
    have HE := Lib.hid (show endS l.length i er = er from if_neg he)
    have HL := Lib.hid (left_any h)
    clear he
    generalize leftS l.length i er = z at hp HL
    go_enter Tryz.func47, Tryz.ntmps47
    go_wp2_with fail
    refine HL.out.mono ?_
    rintro e W ⟨rfl, n, rfl⟩
    go_wp2
    go_end0
    exact ⟨rfl, (Mods.refl _ _).drewN n, by rw [HE.out]; exact h.drewN n⟩

end Go.Proofs.YtkapmfopfddmbaaGreat
