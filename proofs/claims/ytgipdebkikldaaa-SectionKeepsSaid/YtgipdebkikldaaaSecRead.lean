/-
  Reading one section: the error, and where the contents are.
-/
import Derived.Test.YtgipdebkikldaaaSecLst
import Derived.Test.YtgipdebkikldaaaCurBytes2
namespace Go.Proofs.Ytgipdebkikldaaa
open Go.RowKit
set_option linter.unusedVariables false

/-- What reading a section does to the cursor's offset and error, and what it returns. -/
def SecR (l : List Nat) (i : Nat) (er : Int) (id i' : Nat) (er' : Int) (x : List Nat) : Prop :=
  (er ≠ 0 → er' = er) ∧ (er = 0 → er' = ((oneS id (l.drop i)).1 : Nat) ∧ (er' = 0 → i' = i + (oneS id (l.drop i)).2.1 + (oneS id (l.drop i)).2.2 ∧ x = (l.drop (i + (oneS id (l.drop i)).2.1)).take (oneS id (l.drop i)).2.2))

theorem uintS_max (l : List Nat) (hb : Byt l) : uintS 18446744073709551615 l = getS l := by
  unfold uintS
  rw [if_neg]
  rintro ⟨h0, h1⟩
  have := getS_lt (l := l) hb (x := (getS l).1) (n := (getS l).2.1) (by rw [← h0])
  omega
theorem step_bad {er : Int} (h : er ≠ 0) (i : Nat) (r : Nat × Nat × Nat) : stepV er r = 0 ∧ stepI i er r = i ∧ stepE er r = er :=
  ⟨if_neg fun k => h k.1, if_neg fun k => h k.1, if_neg h⟩
theorem step_ok0 (i : Nat) {r : Nat × Nat × Nat} (h : r.2.2 = 0) : stepV 0 r = r.1 ∧ stepI i 0 r = i + r.2.1 ∧ stepE 0 r = 0 :=
  ⟨if_pos ⟨rfl, h⟩, if_pos ⟨rfl, h⟩, by rw [stepE, if_pos rfl, h]; rfl⟩
theorem step_err (i : Nat) {r : Nat × Nat × Nat} (h : r.2.2 ≠ 0) : stepV 0 r = 0 ∧ stepI i 0 r = i ∧ stepE 0 r = (r.2.2 : Nat) :=
  ⟨if_neg fun k => h k.2, if_neg fun k => h k.2, if_pos rfl⟩

/-- The end of a read that has failed. -/
theorem sec_bad {l : List Nat} {i id i3 : Nat} {er e4 : Int} {m : Int} (h4 : e4 ≠ 0) (h : (er ≠ 0 → e4 = er) ∧ (er = 0 → e4 = ((oneS id (l.drop i)).1 : Nat))) :
    SecR l i er id (stepI i3 e4 (bytesS m (l.drop i3))) (stepE e4 (bytesS m (l.drop i3))) (bytesL e4 m (l.drop i3)) := by
  obtain ⟨_, h2, h3⟩ := step_bad h4 i3 (bytesS m (l.drop i3))
  rw [h2, h3]
  exact ⟨h.1, fun h0 => ⟨h.2 h0, fun k => absurd k h4⟩⟩

theorem sec_math (l : List Nat) (hb : Byt l) (hm : l.length ≤ 70368744177664) (i id i1 i3 v1 n : Nat) (er e1 e2 e3 e4 : Int) (hi : i ≤ l.length)
    (h1 : v1 = stepV er (byteS (l.drop i))) (h2 : i1 = stepI i er (byteS (l.drop i))) (h3 : e1 = stepE er (byteS (l.drop i)))
    (h4 : e2 = if v1 = id then e1 else failS e1 7)
    (h5 : n = stepV e2 (uintS 18446744073709551615 (l.drop i1))) (h6 : i3 = stepI i1 e2 (uintS 18446744073709551615 (l.drop i1))) (h7 : e3 = stepE e2 (uintS 18446744073709551615 (l.drop i1)))
    (h8 : e4 = if leftS l.length i3 e3 < (n : Int) then failS e3 1 else e3) (m : Int) (hmm : m = IntKind.i64.wrap n) :
    SecR l i er id (stepI i3 e4 (bytesS m (l.drop i3))) (stepE e4 (bytesS m (l.drop i3))) (bytesL e4 m (l.drop i3)) := by
  subst hmm
  have fail_bad : ∀ {a : Int} (b : Int), a ≠ 0 → failS a b = a := fun b h => if_neg h
  by_cases he : er = 0
  case neg =>
    obtain ⟨a1, a2, a3⟩ := step_bad he i (byteS (l.drop i))
    rw [a1] at h1; rw [a2] at h2; rw [a3] at h3
    have e2' : e2 = er := by rw [h4, h3, fail_bad 7 he]; exact ite_self _
    subst e2'
    obtain ⟨b1, b2, b3⟩ := step_bad he i1 (uintS 18446744073709551615 (l.drop i1))
    rw [b3] at h7
    have e4' : e4 = e2 := by rw [h8, h7, fail_bad 1 he]; exact ite_self _
    exact sec_bad (by rw [e4']; exact he) ⟨fun _ => e4', fun h => absurd h he⟩
  subst he
  cases hd : l.drop i with
  | nil =>
    rw [hd] at h1 h2 h3
    have e1' : e1 = 1 := h3
    have e2' : e2 = 1 := by rw [h4, e1']; split <;> rfl
    subst e2'
    obtain ⟨b1, b2, b3⟩ := step_bad (er := 1) (by decide) i1 (uintS 18446744073709551615 (l.drop i1))
    rw [b3] at h7
    have e4' : e4 = 1 := by rw [h8, h7]; split <;> rfl
    exact sec_bad (by rw [e4']; decide) ⟨fun h => absurd rfl h, fun _ => by rw [e4', hd]; rfl⟩
  | cons x t =>
    rw [hd] at h1 h2 h3
    have v1' : v1 = x := h1
    have i1' : i1 = i + 1 := h2
    have e1' : e1 = 0 := h3
    subst v1' i1' e1'
    have hd1 : l.drop (i + 1) = t := by rw [← List.drop_drop, hd]; rfl
    have hil : i + 1 ≤ l.length := by
      have := congrArg List.length hd
      rw [List.length_drop, List.length_cons] at this
      omega
    have htl : t.length = l.length - (i + 1) := by rw [← hd1, List.length_drop]
    have htb : Byt t := by rw [← hd1]; exact fun c hc => hb c (List.mem_of_mem_drop hc)
    by_cases hid : v1 = id
    case neg =>
      have e2' : e2 = 7 := by rw [h4, if_neg hid]; rfl
      subst e2'
      obtain ⟨b1, b2, b3⟩ := step_bad (er := 7) (by decide) (i + 1) (uintS 18446744073709551615 (l.drop (i + 1)))
      rw [b3] at h7
      have e4' : e4 = 7 := by rw [h8, h7]; split <;> rfl
      exact sec_bad (by rw [e4']; decide) ⟨fun h => absurd rfl h, fun _ => by rw [e4', hd, oneS, if_pos hid]; rfl⟩
    rw [if_pos hid] at h4
    subst h4 hid
    rw [hd1, uintS_max _ htb] at h5 h6 h7
    by_cases hg : (getS t).2.2 = 0
    case neg =>
      obtain ⟨b1, b2, b3⟩ := step_err (i + 1) hg
      rw [b3] at h7
      have hgi : (((getS t).2.2 : Nat) : Int) ≠ 0 := by omega
      have e4' : e4 = ((getS t).2.2 : Nat) := by rw [h8, h7, fail_bad 1 hgi]; exact ite_self _
      exact sec_bad (by rw [e4']; exact hgi) ⟨fun h => absurd rfl h, fun _ => by rw [e4', hd, oneS, if_neg (by simp), if_pos hg]⟩
    obtain ⟨b1, b2, b3⟩ := step_ok0 (i + 1) hg
    rw [b1] at h5; rw [b2] at h6; rw [b3] at h7
    obtain ⟨c1, c2, c3⟩ := getS_canon (l := t) htb (x := (getS t).1) (n := (getS t).2.1) (by rw [← hg])
    have hone : oneS v1 (v1 :: t) = if t.length < (getS t).2.1 + (getS t).1 then (1, 0, 0) else (0, 1 + (getS t).2.1, (getS t).1) := by
      rw [oneS, if_neg (by simp), if_neg (by simpa using hg)]
    subst h5 h7
    rw [leftS_ok] at h8
    generalize (getS t).1 = n at *
    generalize (getS t).2.1 = q at *
    subst h6
    by_cases hn : t.length < q + n
    · rw [if_pos hn] at hone
      have e4' : e4 = 1 := by rw [h8, if_pos (by omega)]; rfl
      exact sec_bad (by rw [e4']; decide) ⟨fun h => absurd rfl h, fun _ => by rw [e4', hd, hone]; rfl⟩
    · rw [if_neg hn] at hone
      have e4' : e4 = 0 := by rw [h8, if_neg (by omega)]
      subst e4'
      have hw : IntKind.i64.wrap (n : Int) = n := by rw [IntKind.wrap_i64]; omega
      have hl2 : (l.drop (i + 1 + q)).length = t.length - q := by rw [List.length_drop]; omega
      have hS : bytesS (n : Int) (l.drop (i + 1 + q)) = (0, n, 0) := by
        unfold bytesS
        rw [if_neg (by omega), if_neg (by omega), Int.toNat_natCast]
      have hL := bytesL_ok (n := (n : Int)) (l := l.drop (i + 1 + q)) (by omega) (by omega)
      rw [Int.toNat_natCast] at hL
      rw [hw, hS, hL]
      unfold SecR
      rw [hd, hone]
      refine ⟨fun h => absurd rfl h, fun _ => ⟨rfl, fun _ => ⟨?_, ?_⟩⟩⟩
      · show i + 1 + q + n = i + (1 + q) + n
        omega
      · show _ = List.take n (l.drop (i + (1 + q)))
        rw [Nat.add_assoc]

/-- What readSection leaves. -/
def SecP (w : World) (lo p : Nat) (l : List Nat) (i : Nat) (er : Int) (A : Option Addr) (c : Nat) (id : Nat) (e : Ending) (w' : World) : Prop :=
  ∃ (x : List Nat) (A' : Option Addr) (c' i' : Nat) (er' : Int), e = .returned (.slice A' x.length c') ∧ Mods (Is p) w w' ∧ Cur w' lo p l i' er' A c ∧
    w'.ownsRow w.heap.size 5 1 (.slice A' x.length c') x.length (bts x) ∧ SecR l i er id i' er' x

theorem uint_v (er : Int) {l : List Nat} (r : Nat) (hb : Byt l) : stepV er (uintS 18446744073709551615 (l.drop r)) < 18446744073709551616 := by
  have hb' : Byt (l.drop r) := fun c hc => hb c (List.mem_of_mem_drop hc)
  unfold stepV
  split
  · next h =>
    rw [uintS_max _ hb'] at h ⊢
    exact getS_lt hb' (x := (getS (l.drop r)).1) (n := (getS (l.drop r)).2.1) (by rw [← h.2])
  · omega
theorem left_in {l : List Nat} {i : Nat} (h : i ≤ l.length) {er : Int} (hm : l.length ≤ 70368744177664) : 0 ≤ leftS l.length i er ∧ leftS l.length i er ≤ 70368744177664 := by
  unfold leftS
  split <;> omega

set_option maxRecDepth 100000 in
set_option maxHeartbeats 2000000 in
theorem read_section {w : World} {lo p : Nat} {l : List Nat} {i : Nat} {er : Int} {A : Option Addr} {c : Nat} (h : Cur w lo p l i er A c) (id : Nat) (hid : id < 256) (hsm : l.length ≤ 70368744177664) :
    Calls Try.prog 18 #[.pointer (some ⟨p, 0, none⟩), .int .u8 id] w (SecP w lo p l i er A c id) := by
  have HMA := Lib.hid (sec_math l h.byt hsm i id _ _ _ _ er _ _ _ _ h.le rfl rfl rfl rfl rfl rfl rfl rfl)
  have HC1 := Lib.hid (byte_any h)
  clear h
  unfold After at HC1
  generalize stepV er (byteS (l.drop i)) = v1 at *
  generalize stepI i er (byteS (l.drop i)) = i1 at *
  generalize stepE er (byteS (l.drop i)) = e1 at *
  by_cases hv : v1 = id
  · rw [if_pos hv] at HMA
    have g1 : ((v1 : Int) != (id : Int)) = false := by simp; omega
    clear hv
    go_enter Try.func18, Try.ntmps18
    go_wp2_with fail
    refine HC1.out.mono ?_
    rintro e W1 ⟨rfl, hm1, hc1⟩
    have Hc := Lib.hid hc1
    have Hm := Lib.hid hm1
    clear hm1 hc1 HC1
    go_wp2_with fail
    refine (uint_any Hc.out 18446744073709551615 (by decide)).mono ?_
    rintro e W3 ⟨rfl, hm3, hc3⟩
    have Hc3 := Lib.hid hc3
    have Hm3 := Lib.hid (Hm.out.trans hm3)
    have hn0 : stepV e1 (uintS 18446744073709551615 (l.drop i1)) < 18446744073709551616 := uint_v e1 _ Hc.out.byt
    clear hm3 hc3 Hc Hm
    generalize stepV e1 (uintS 18446744073709551615 (l.drop i1)) = n at *
    generalize stepI i1 e1 (uintS 18446744073709551615 (l.drop i1)) = i3 at *
    generalize stepE e1 (uintS 18446744073709551615 (l.drop i1)) = e3 at *
    have hle := Hc3.out.le
    have hlf := left_in hle (er := e3) hsm
    have HL := Lib.hid (left_any Hc3.out)
    generalize leftS l.length i3 e3 = z at *
    by_cases hz : z < (n : Int)
    · rw [if_pos hz] at HMA
      go_wp2_with fail
      refine HL.out.mono ?_
      rintro e W4 ⟨rfl, nd, rfl⟩
      have Hc4 := Lib.hid (Hc3.out.drewN nd)
      have Hm4 := Lib.hid (Hm3.out.drewN nd)
      clear Hc3 Hm3 HL
      go_wp2_with fail
      refine (fail_any Hc4.out 1).mono ?_
      rintro e W5 ⟨rfl, hm5, hc5⟩
      have Hc5 := Lib.hid hc5
      have Hm5 := Lib.hid (Hm4.out.trans hm5)
      clear hm5 hc5 Hc4 Hm4
      generalize failS e3 1 = e4 at *
      go_wp2_with fail
      refine (bytes_any Hc5.out _ (by first | omega | (unfold wrap64; omega)) hsm).mono ?_
      rintro e W6 ⟨A6, c6, rfl, hm6, hc6, ho6, _⟩
      have Hc6 := Lib.hid hc6
      have Hm6 := Lib.hid (Hm5.out.trans hm6)
      have Ho6 := Lib.hid (own_base ho6 Hm5.out.size)
      clear hm6 hc6 ho6 Hc5 Hm5
      go_wp2
      go_ret
      exact ⟨_, A6, c6, _, _, rfl, Hm6.out, Hc6.out, Ho6.out, HMA.out _ (by rw [IntKind.wrap_i64]; first | omega | (unfold wrap64; omega))⟩
    · rw [if_neg hz] at HMA
      go_wp2_with fail
      refine HL.out.mono ?_
      rintro e W4 ⟨rfl, nd, rfl⟩
      have Hc4 := Lib.hid (Hc3.out.drewN nd)
      have Hm4 := Lib.hid (Hm3.out.drewN nd)
      clear Hc3 Hm3 HL
      go_wp2_with fail
      refine (bytes_any Hc4.out _ (by first | omega | (unfold wrap64; omega)) hsm).mono ?_
      rintro e W6 ⟨A6, c6, rfl, hm6, hc6, ho6, _⟩
      have Hc6 := Lib.hid hc6
      have Hm6 := Lib.hid (Hm4.out.trans hm6)
      have Ho6 := Lib.hid (own_base ho6 Hm4.out.size)
      clear hm6 hc6 ho6 Hc4 Hm4
      go_wp2
      go_ret
      exact ⟨_, A6, c6, _, _, rfl, Hm6.out, Hc6.out, Ho6.out, HMA.out _ (by rw [IntKind.wrap_i64]; first | omega | (unfold wrap64; omega))⟩
  · rw [if_neg hv] at HMA
    have g1 : ((v1 : Int) != (id : Int)) = true := by simp; omega
    clear hv
    go_enter Try.func18, Try.ntmps18
    go_wp2_with fail
    refine HC1.out.mono ?_
    rintro e W1 ⟨rfl, hm1, hc1⟩
    have Hc := Lib.hid hc1
    have Hm := Lib.hid hm1
    clear hm1 hc1 HC1
    go_wp2_with fail
    refine (fail_any Hc.out 7).mono ?_
    rintro e W2 ⟨rfl, hm2, hc2⟩
    have Hc2 := Lib.hid hc2
    have Hm2 := Lib.hid (Hm.out.trans hm2)
    clear hm2 hc2 Hc Hm
    generalize failS e1 7 = e2 at *
    go_wp2_with fail
    refine (uint_any Hc2.out 18446744073709551615 (by decide)).mono ?_
    rintro e W3 ⟨rfl, hm3, hc3⟩
    have Hc3 := Lib.hid hc3
    have Hm3 := Lib.hid (Hm2.out.trans hm3)
    have hn0 : stepV e2 (uintS 18446744073709551615 (l.drop i1)) < 18446744073709551616 := uint_v e2 _ Hc2.out.byt
    clear hm3 hc3 Hc2 Hm2
    generalize stepV e2 (uintS 18446744073709551615 (l.drop i1)) = n at *
    generalize stepI i1 e2 (uintS 18446744073709551615 (l.drop i1)) = i3 at *
    generalize stepE e2 (uintS 18446744073709551615 (l.drop i1)) = e3 at *
    have hle := Hc3.out.le
    have hlf := left_in hle (er := e3) hsm
    have HL := Lib.hid (left_any Hc3.out)
    generalize leftS l.length i3 e3 = z at *
    by_cases hz : z < (n : Int)
    · rw [if_pos hz] at HMA
      go_wp2_with fail
      refine HL.out.mono ?_
      rintro e W4 ⟨rfl, nd, rfl⟩
      have Hc4 := Lib.hid (Hc3.out.drewN nd)
      have Hm4 := Lib.hid (Hm3.out.drewN nd)
      clear Hc3 Hm3 HL
      go_wp2_with fail
      refine (fail_any Hc4.out 1).mono ?_
      rintro e W5 ⟨rfl, hm5, hc5⟩
      have Hc5 := Lib.hid hc5
      have Hm5 := Lib.hid (Hm4.out.trans hm5)
      clear hm5 hc5 Hc4 Hm4
      generalize failS e3 1 = e4 at *
      go_wp2_with fail
      refine (bytes_any Hc5.out _ (by first | omega | (unfold wrap64; omega)) hsm).mono ?_
      rintro e W6 ⟨A6, c6, rfl, hm6, hc6, ho6, _⟩
      have Hc6 := Lib.hid hc6
      have Hm6 := Lib.hid (Hm5.out.trans hm6)
      have Ho6 := Lib.hid (own_base ho6 Hm5.out.size)
      clear hm6 hc6 ho6 Hc5 Hm5
      go_wp2
      go_ret
      exact ⟨_, A6, c6, _, _, rfl, Hm6.out, Hc6.out, Ho6.out, HMA.out _ (by rw [IntKind.wrap_i64]; first | omega | (unfold wrap64; omega))⟩
    · rw [if_neg hz] at HMA
      go_wp2_with fail
      refine HL.out.mono ?_
      rintro e W4 ⟨rfl, nd, rfl⟩
      have Hc4 := Lib.hid (Hc3.out.drewN nd)
      have Hm4 := Lib.hid (Hm3.out.drewN nd)
      clear Hc3 Hm3 HL
      go_wp2_with fail
      refine (bytes_any Hc4.out _ (by first | omega | (unfold wrap64; omega)) hsm).mono ?_
      rintro e W6 ⟨A6, c6, rfl, hm6, hc6, ho6, _⟩
      have Hc6 := Lib.hid hc6
      have Hm6 := Lib.hid (Hm4.out.trans hm6)
      have Ho6 := Lib.hid (own_base ho6 Hm4.out.size)
      clear hm6 hc6 ho6 Hc4 Hm4
      go_wp2
      go_ret
      exact ⟨_, A6, c6, _, _, rfl, Hm6.out, Hc6.out, Ho6.out, HMA.out _ (by rw [IntKind.wrap_i64]; first | omega | (unfold wrap64; omega))⟩

end Go.Proofs.Ytgipdebkikldaaa
