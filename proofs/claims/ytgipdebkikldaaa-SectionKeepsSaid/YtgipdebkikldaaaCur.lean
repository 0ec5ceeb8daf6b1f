/-
  A cursor in memory, and the methods that only read it: Err, At, Left; bytes.Clone.
-/
import Derived.Test.YtgipdebkikldaaaMem
import Derived.Test.YtgipdebkikldaaaAppend
namespace Go.Proofs.Ytgipdebkikldaaa
open Go.RowKit

theorem infoU8 : (Try.prog.info? 5).map (fun i => (i.zero, i.size, i.bytes)) = some (some (.int .u8 0), 1, 1) := by kernel_rfl

/-- The cursor at block p: the bytes l, whose block lies from lo on and ahead of p, the offset and the error. -/
structure Cur (w : World) (lo p : Nat) (l : List Nat) (i : Nat) (er : Int) (A : Option Addr) (c : Nat) : Prop where
  row : Row w p 60 #[.slice A l.length c, .int .i64 i, .int .i64 er]
  sees : Sees w p A (bts l)
  off : ∀ x, A = some x → lo ≤ x.block ∧ x.block < p
  lop : lo ≤ p
  byt : Byt l
  le : i ≤ l.length
  lec : l.length ≤ c
  cmax : c ≤ maxLen

section
variable {w w' : World} {lo p : Nat} {l : List Nat} {i : Nat} {er : Int} {A : Option Addr} {c : Nat}
theorem Cur.max (h : Cur w lo p l i er A c) : l.length ≤ maxLen := Nat.le_trans h.lec h.cmax
theorem Cur.mods {S : Nat → Prop} (h : Cur w lo p l i er A c) (hm : Mods S w w') (hp : ∀ k, S k → k < lo ∨ p < k) : Cur w' lo p l i er A c :=
  have hn : ¬ S p := fun hs => by have := hp p hs; have := h.lop; omega
  ⟨h.row.mods hm hn, hm.sees h.sees (Nat.le_of_lt h.row.lt) fun x hx hs => by have := hp _ hs; have := h.off x hx; omega, h.off, h.lop, h.byt, h.le, h.lec, h.cmax⟩
theorem Cur.drew (h : Cur w lo p l i er A c) : Cur w.drew lo p l i er A c := ⟨h.row, h.sees, h.off, h.lop, h.byt, h.le, h.lec, h.cmax⟩
theorem Cur.drewN (h : Cur w lo p l i er A c) (n : Nat) : Cur (w.drewN n) lo p l i er A c := ⟨h.row, h.sees, h.off, h.lop, h.byt, h.le, h.lec, h.cmax⟩
theorem Cur.err (h : Cur w lo p l i er A c) (e : Int) : Cur (w.setCell ⟨p, 2, none⟩ (.int .i64 e)) lo p l i e A c :=
  ⟨h.row.put 2 _, h.sees.setCell (p := ⟨p, 2, none⟩) (Nat.le_refl _) _, h.off, h.lop, h.byt, h.le, h.lec, h.cmax⟩
theorem Cur.at_ (h : Cur w lo p l i er A c) (j : Nat) (hj : j ≤ l.length) : Cur (w.setCell ⟨p, 1, none⟩ (.int .i64 j)) lo p l j er A c :=
  ⟨h.row.put 1 _, h.sees.setCell (p := ⟨p, 1, none⟩) (Nat.le_refl _) _, h.off, h.lop, h.byt, hj, h.lec, h.cmax⟩
end

set_option maxRecDepth 100000 in
set_option maxHeartbeats 400000 in
theorem err_any {w : World} {lo p : Nat} {l : List Nat} {i : Nat} {er : Int} {A : Option Addr} {c : Nat} (h : Cur w lo p l i er A c) :
    Calls Try.prog 20 #[.pointer (some ⟨p, 0, none⟩)] w fun e w' => e = .returned (.int .i64 er) ∧ w = w' := by
  have h2 : w.cell? ⟨p, 2, none⟩ = some (.int .i64 er) := h.row.cell 2
  clear h
  go_enter Try.func20, Try.ntmps20
  go_wp2
  go_ret
  exact ⟨rfl, rfl⟩

set_option maxRecDepth 100000 in
set_option maxHeartbeats 400000 in
theorem err_nil (w : World) :
    Calls Try.prog 20 #[.pointer none] w fun e w' => e = .returned (.int .i64 32) ∧ w = w' := by
  go_enter Try.func20, Try.ntmps20
  go_wp2
  go_ret
  exact ⟨rfl, rfl⟩

/-- What Left returns. -/
def leftS (n i : Nat) (er : Int) : Int := if er = 0 then (n : Int) - i else 0
theorem leftS_ok (n i : Nat) : leftS n i 0 = (n : Int) - i := rfl
theorem leftS_bad (n i : Nat) {er : Int} (h : er ≠ 0) : leftS n i er = 0 := if_neg h

set_option maxRecDepth 100000 in
set_option maxHeartbeats 1000000 in
theorem left_any {w : World} {lo p : Nat} {l : List Nat} {i : Nat} {er : Int} {A : Option Addr} {c : Nat} (h : Cur w lo p l i er A c) :
    Calls Try.prog 32 #[.pointer (some ⟨p, 0, none⟩)] w fun e w' => e = .returned (.int .i64 (leftS l.length i er)) ∧ ∃ n, w.drewN n = w' := by
  have h0 : w.cell? ⟨p, 0, none⟩ = some (.slice A l.length c) := h.row.cell 0
  have h1 : w.cell? ⟨p, 1, none⟩ = some (.int .i64 i) := h.row.cell 1
  have hle := h.le
  have hmx := h.max
  unfold maxLen at hmx
  by_cases he : er = 0
  · have e0 : (er != 0) = false := by simp [he]
    have HE := Lib.hid (show leftS l.length i er = (l.length : Int) - i by rw [he]; rfl)
    clear he
    go_enter Try.func32, Try.ntmps32
    go_wp2_with fail
    refine (err_any h).mono ?_
    rintro e W ⟨rfl, rfl⟩
    clear h
    go_wp2_with fail
    go_quiet (fail)
    go_wp2
    go_ret
    exact ⟨by rw [HE.out]; rfl, _, rfl⟩
  · have e0 : (er != 0) = true := by simp [he]
    have HE := Lib.hid (leftS_bad l.length i he)
    clear he
    go_enter Try.func32, Try.ntmps32
    go_wp2_with fail
    refine (err_any h).mono ?_
    rintro e W ⟨rfl, rfl⟩
    go_wp2
    go_ret
    exact ⟨by rw [HE.out]; rfl, 0, rfl⟩

/-- The library's Clone: nil for nil, and else a new slice with the same bytes. -/
theorem clone_any (A : Option Addr) (l : List Nat) (B c : Nat) (w : World) (hs : Sees w B A (bts l)) (hB : B ≤ w.heap.size) (hm : l.length ≤ 70368744177664) :
    Calls Try.prog 28 #[.slice A l.length c] w fun e w' => ∃ A' c', e = .returned (.slice A' l.length c') ∧
      w'.ownsRow w.heap.size 5 1 (.slice A' l.length c') l.length (bts l) ∧ Below w.heap.size w w' ∧ l.length ≤ c' ∧ c' ≤ maxLen ∧ (∀ x, A' = some x → w.heap.size ≤ x.block ∧ x.block < w'.heap.size) := by
  rcases A with _ | ad
  · obtain rfl : l = [] := by
      rcases l with _ | ⟨x, r⟩
      · rfl
      · obtain ⟨b, o, h, _⟩ := hs (by simp [bts])
        cases h
    have q22 : ∀ (w : World) (n c n' c' : Nat), (binOp .eql 22 (.slice none n c) (.slice none n' c')).run Try.prog w = .ok (.bool true) w := fun w n c n' c' => Lib.run_eql_slice_nil w _ _ _ n c n' c' Try.underlying22
    clear hs hm hB
    go_enter Try.func28, Try.ntmps28
    go_wp2
    go_ret
    exact ⟨none, 0, rfl, ⟨rfl, .inl ⟨rfl, rfl⟩⟩, Below.refl _ _, Nat.le_refl _, Nat.zero_le _, fun _ h => by cases h⟩
  · have q22 : ∀ (w : World) (n c n' c' : Nat), (binOp .eql 22 (.slice (some ad) n c) (.slice none n' c')).run Try.prog w = .ok (.bool false) w := fun w n c n' c' => Lib.run_eql_slice_nil w _ _ _ n c n' c' Try.underlying22
    obtain ⟨i0, hi, hz0, hz1, hz2⟩ := info_parts infoU8
    have hs1 := (hs.more hB).alloc (Nat.le_refl _) (.cells #[] 5)
    clear hs
    go_enter Try.func28, Try.ntmps28
    go_wp2_with (at_builtin; refine wpList_append_sees _ rfl (.tmp 5) (.tmp 6) 22 rfl w.heap.size 5 i0 (.int .u8 0) 1 Try.underlying22 hi hz0 hz1 hz2 rfl _ _ _ rfl (World.ownsRow_made w #[] 0 (Nat.le_refl _) (by decide) rfl) w.heap.size _ _ _ (bts l) rfl hs1 (bts_length _) (bts_one _) ?c1 ?c2 ?c3 ?_)
    case c1 => unfold maxLen; omega
    case c2 => omega
    case c3 => simp
    intro v1 W1 ho1 hg1
    have hb1 : Below w.heap.size w W1 := ((Below.refl _ _).alloc (Nat.le_refl _) _).grown hg1 (by simp) (fun k hk => by simp [Value.ownBlock] at hk; omega)
    have ho2 : W1.ownsRow w.heap.size 5 1 v1 l.length (bts l) := by simpa using ho1
    clear ho1 hg1
    rcases ho2.2 with ⟨rfl, h0⟩ | ⟨g, cap, cur, rfl, hg0, hh, hc1, hc2, _⟩
    · have h0' : l.length = 0 := h0
      go_wp2
      go_ret
      refine ⟨none, 0, by rw [h0']; rfl, by rw [h0'] at ho2 ⊢; exact ho2, hb1, by omega, Nat.zero_le _, fun _ h => by cases h⟩
    · have hlt := (Array.getElem?_eq_some_iff.1 hh).1
      go_wp2
      go_ret
      refine ⟨some ⟨g, 0, none⟩, cap, rfl, ho2, hb1, hc1, hc2, fun x h => ?_⟩
      injection h with h
      subst h
      exact ⟨hg0, hlt⟩

end Go.Proofs.Ytgipdebkikldaaa
