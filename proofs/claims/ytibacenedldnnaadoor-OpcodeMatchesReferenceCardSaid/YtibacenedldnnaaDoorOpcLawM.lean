/-
  The walk of the statement that layer 5 returns what the reference returns.
-/
import Derived.Test.YtibacenedldnnaaDoorOpcAwake
namespace Go.Proofs.YtibacenedldnnaaDoor
open Go.RowKit

theorem find_s' (s : ByteArray) (n : Nat) (w : World) (hn : fnd s.data.toList = n) (ht : Tab w) :
    Calls Tryd.prog 14 #[.string s] w fun e w' => e = .returned (.int .i64 n) ∧ w = w' := by
  subst hn; exact find_any s w ht
theorem rfind_s (s : ByteArray) (n : Nat) (w : World) (hn : fnd s.data.toList = n) :
    Calls Tryd.prog 15 #[.string s] w fun e w' => e = .returned (.int .i64 n) ∧ Below w.heap.size w w' := by
  subst hn; exact rfind_any s w
theorem rname_s (op : Int) (s : ByteArray) (w : World) (hs : nameB op = s) :
    Calls Tryd.prog 13 #[.int .i64 op] w fun e w' => e = .returned (.string s) ∧ Below w.heap.size w w' := by
  subst hs; exact rname_any op w

/-- The ways that the statement parts. -/
theorem ways5 (op : Int) : (op < 1 ∧ uO op = false) ∨ (18 < op ∧ uO op = false) ∨ op = 2 ∨ op = 18 ∨ (1 ≤ op ∧ op ≤ 18 ∧ (op == 2) = false ∧ (op == 18) = false ∧ uO op = true) := by
  rcases (by omega : op < 1 ∨ 18 < op ∨ (1 ≤ op ∧ op ≤ 18)) with h | h | h
  · exact .inl ⟨h, decide_eq_false (by omega)⟩
  · exact .inr (.inl ⟨h, decide_eq_false (by omega)⟩)
  · by_cases h2 : op = 2
    · exact .inr (.inr (.inl h2))
    · by_cases h3 : op = 18
      · exact .inr (.inr (.inr (.inl h3)))
      · exact .inr (.inr (.inr (.inr ⟨h.1, h.2, beq_eq_false_iff_ne.2 h2, beq_eq_false_iff_ne.2 h3, decide_eq_true h⟩)))

set_option maxRecDepth 100000 in
set_option maxHeartbeats 1000000 in
theorem OpcodeMatchesReference_walk (a0 : Int) (a1 : ByteArray) (w : World) (_ : (Lit.int .i64 a0).wf = true) (w1 : a1.size ≤ maxLen) (ht : Tab w) :
    Calls Tryd.prog 3 #[.int .i64 a0, .string a1] w fun e w' => e = .returned (.bool true) ∧ Below w.heap.size w w' := by
  unfold maxLen at w1
  by_cases hlen : (1000 : Int) < a1.size
  · go_enter Tryd.func3, Tryd.ntmps3
    go_wp2_with fail
    refine (awake_any _ ht).mono ?_
    rintro e W ⟨rfl, hst⟩
    go_wp2_with fail
    refine (awake_any _ hst.tab).mono ?_
    rintro e W2 ⟨rfl, hst2⟩
    replace hst := hst.next hst2.below
    go_wp2_with fail
    go_ret
    exact ⟨rfl, hst.below⟩
  obtain ⟨A, hA⟩ : ∃ A, nameB a0 = A := ⟨_, rfl⟩
  obtain ⟨n, hn⟩ : ∃ n, fnd a1.data.toList = n := ⟨_, rfl⟩
  obtain ⟨d, hd⟩ : ∃ d, uD a0 = d := ⟨_, rfl⟩
  obtain ⟨a, ha⟩ : ∃ a, uA a0 = a := ⟨_, rfl⟩
  obtain ⟨b, hb⟩ : ∃ b, uB a0 = b := ⟨_, rfl⟩
  obtain ⟨i, hi⟩ : ∃ i, uI a0 = i := ⟨_, rfl⟩
  have HA := Lib.hid hA; have HN := Lib.hid hn; have Hd := Lib.hid hd; have Ha := Lib.hid ha; have Hb := Lib.hid hb; have Hi := Lib.hid hi
  clear hA hn hd ha hb hi
  obtain ⟨o, s, m, ho, hs, hm, hw⟩ : ∃ o s m, uO a0 = o ∧ (uO a0 && !(a0 == 18)) = s ∧ (uO a0 && !(a0 == 2)) = m ∧
      ((a0 < 1 ∧ (o, s, m) = (false, false, false)) ∨ (18 < a0 ∧ (o, s, m) = (false, false, false)) ∨ (a0 = 2 ∧ (o, s, m) = (true, true, false)) ∨ (a0 = 18 ∧ (o, s, m) = (true, false, true)) ∨
        ((1 ≤ a0 ∧ a0 ≤ 18 ∧ (a0 != 2) = true ∧ (a0 != 18) = true) ∧ (o, s, m) = (true, true, true))) := by
    rcases ways5 a0 with ⟨h, h2⟩ | ⟨h, h2⟩ | h | h | ⟨h1, h2, h3, h4, h5⟩
    · exact ⟨_, _, _, h2, by rw [h2]; rfl, by rw [h2]; rfl, .inl ⟨h, rfl⟩⟩
    · exact ⟨_, _, _, h2, by rw [h2]; rfl, by rw [h2]; rfl, .inr (.inl ⟨h, rfl⟩)⟩
    · subst h; exact ⟨_, _, _, rfl, rfl, rfl, .inr (.inr (.inl ⟨rfl, rfl⟩))⟩
    · subst h; exact ⟨_, _, _, rfl, rfl, rfl, .inr (.inr (.inr (.inl ⟨rfl, rfl⟩)))⟩
    · exact ⟨_, _, _, h5, by rw [h5, h4]; rfl, by rw [h5, h3]; rfl, .inr (.inr (.inr (.inr ⟨⟨h1, h2, by rw [bne, h3]; rfl, by rw [bne, h4]; rfl⟩, rfl⟩)))⟩
  have HO := Lib.hid ho; have HS := Lib.hid hs; have HM := Lib.hid hm
  clear ho hs hm
  rcases hw with ⟨h, hc⟩ | ⟨h, hc⟩ | ⟨rfl, hc⟩ | ⟨rfl, hc⟩ | ⟨⟨h1, h2, h3, h4⟩, hc⟩ <;> (
    simp only [Prod.mk.injEq] at hc
    obtain ⟨rfl, rfl, rfl⟩ := hc
    go_enter Tryd.func3, Tryd.ntmps3
    go_wp2_with fail
    refine (awake_any _ ht).mono ?_
    rintro e W ⟨rfl, hst⟩
    go_wp2_with fail
    refine (of_at _ _ _ _ _ _ _ Hd.out Ha.out Hb.out Hi.out HO.out).mono ?_
    rintro e w1 ⟨rfl, hb⟩
    replace hst := hst.next hb; clear hb
    go_wp2_with fail
    refine (rusesD_any _ _ _ Hd.out).mono ?_
    rintro e w' ⟨rfl, rfl⟩
    go_wp2_with fail
    refine (rusesA_any _ _ _ Ha.out).mono ?_
    rintro e w' ⟨rfl, rfl⟩
    go_wp2_with fail
    refine (rusesB_any _ _ _ Hb.out).mono ?_
    rintro e w' ⟨rfl, rfl⟩
    go_wp2_with fail
    refine (rusesI_any _ _ _ Hi.out).mono ?_
    rintro e w' ⟨rfl, rfl⟩
    replace hst := (hst.alloc (.cells #[.bool d, .bool a, .bool b, .bool i] 24)).alloc (.cells #[.bool d, .bool a, .bool b, .bool i] 24)
    go_wp2_with fail
    refine (name_at _ A _ HA.out hst.tab).mono ?_
    rintro e w' ⟨rfl, rfl⟩
    go_wp2_with fail
    refine (rname_s _ A _ HA.out).mono ?_
    rintro e w2 ⟨rfl, hb⟩
    replace hst := hst.next hb; clear hb
    go_wp2_with fail
    refine (find_s' a1 n _ HN.out hst.tab).mono ?_
    rintro e w' ⟨rfl, rfl⟩
    go_wp2_with fail
    refine (rfind_s a1 n _ HN.out).mono ?_
    rintro e w3 ⟨rfl, hb⟩
    replace hst := hst.next hb; clear hb
    go_wp2_with fail
    refine (source_any _ _ _ HS.out).mono ?_
    rintro e w' ⟨rfl, rfl⟩
    go_wp2_with fail
    refine (machine_any _ _ _ HM.out).mono ?_
    rintro e w' ⟨rfl, rfl⟩
    go_wp2_with fail
    go_ret
    exact ⟨rfl, hst.below⟩)

end Go.Proofs.YtibacenedldnnaaDoor
