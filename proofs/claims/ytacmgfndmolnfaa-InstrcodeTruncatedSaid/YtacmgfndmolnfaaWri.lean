/-
  New; a writer in memory, and its methods Bytes, Byte, Uint, Int, Out.
-/
import Derived.Test.YtacmgfndmolnfaaCurBytes2
import Derived.Test.YtacmgfndmolnfaaVarPut
namespace Go.Proofs.Ytacmgfndmolnfaa
open Go.RowKit
set_option linter.unusedVariables false

set_option maxRecDepth 100000 in
set_option maxHeartbeats 400000 in
theorem new_any (A : Option Addr) (l : List Nat) (B c : Nat) (w : World) (hs : Sees w B A (bts l)) (hB : B ≤ w.heap.size) (hb : Byt l) (hm : l.length ≤ 70368744177664) :
    Calls Try.prog 8 #[.slice A l.length c] w fun e w' => ∃ p A' c', e = .returned (.pointer (some ⟨p, 0, none⟩)) ∧ w.heap.size ≤ p ∧ Cur w' w.heap.size p l 0 0 A' c' ∧ Below w.heap.size w w' := by
  have HC := Lib.hid (clone_any A l B c w hs hB hm)
  clear hs
  go_enter Try.func8, Try.ntmps8
  go_wp2_with fail
  refine HC.out.mono ?_
  rintro e W ⟨A2, c2, rfl, ho, hbl, hlc, hcm, ha⟩
  have HR := Lib.hid (Row.new W 70 #[.slice A2 l.length c2, .int .i64 0, .int .i64 0])
  have HO := Lib.hid ho
  have HB := Lib.hid hbl
  clear ho hbl HC
  go_wp2
  go_ret
  refine ⟨W.heap.size, A2, c2, rfl, HB.out.size, ⟨HR.out, ?_, fun x hx => ha x hx, HB.out.size, hb, Nat.zero_le _, hlc, hcm⟩, HB.out.alloc HB.out.size _⟩
  exact (Sees.of_own HO.out).alloc (Nat.le_refl _) _

/-- A writer at block q: the bytes l, in a slice v of its own, whose block lies behind q and ahead of hi. -/
structure Wri (w : World) (q hi : Nat) (v : Value) (l : List Nat) : Prop where
  row : Row w q 52 #[v]
  own : w.ownsRow (q + 1) 5 1 v l.length (bts l)
  blk : ∀ k, v.ownBlock = some k → q < k ∧ k < hi
  qhi : q < hi

def From (q : Nat) : Nat → Prop := fun k => q ≤ k

section
variable {w w' : World} {q hi : Nat} {v : Value} {l : List Nat}
theorem own_lt {w : World} {base n : Nat} {e : TypeId} {v : Value} {xs : List Value} (h : w.ownsRow base e 1 v n xs) (k : Nat) (hk : v.ownBlock = some k) : base ≤ k ∧ k < w.heap.size := by
  rcases h.2 with ⟨rfl, _⟩ | ⟨g, cap, cur, rfl, hg, hh, _⟩
  · simp [Value.ownBlock] at hk
  · have : g = k := by simpa [Value.ownBlock] using hk
    subst this
    exact ⟨hg, (Array.getElem?_eq_some_iff.1 hh).1⟩
theorem own_slice {w : World} {base n : Nat} {e : TypeId} {v : Value} {xs : List Value} (h : w.ownsRow base e 1 v n xs) (hl : xs.length = n) : ∃ A c, v = .slice A n c ∧ n ≤ c ∧ c ≤ maxLen := by
  rcases h.2 with ⟨rfl, h0⟩ | ⟨g, cap, cur, rfl, _, _, h1, h2, _⟩
  · subst h0
    exact ⟨none, 0, rfl, Nat.le_refl _, Nat.zero_le _⟩
  · exact ⟨_, cap, rfl, h1, h2⟩
theorem Wri.mods {S : Nat → Prop} (h : Wri w q hi v l) (hm : Mods S w w') (hp : ∀ k, S k → k < q ∨ hi ≤ k) : Wri w' q hi v l :=
  ⟨h.row.mods hm fun hs => by have := hp q hs; have := h.qhi; omega, hm.own h.own fun k hk hs => by have := hp k hs; have := h.blk k hk; omega, h.blk, h.qhi⟩
theorem Wri.drewN (h : Wri w q hi v l) (n : Nat) : Wri (w.drewN n) q hi v l := h.mods (S := No) ((Mods.refl _ _).drewN n) fun _ hk => hk.elim
theorem Wri.new (w : World) : Wri (w.alloc (.cells #[.slice none 0 0] 52)) w.heap.size (w.heap.size + 1) (.slice none 0 0) [] :=
  ⟨Row.new _ _ _, ⟨rfl, .inl ⟨rfl, rfl⟩⟩, fun k hk => by simp [Value.ownBlock] at hk, by omega⟩
end

/-- What the writing methods leave. -/
def Wrote (w : World) (q : Nat) (l : List Nat) (e : Ending) (w' : World) : Prop := e = .returned (.tuple #[]) ∧ (∃ v', Wri w' q w'.heap.size v' l) ∧ Mods (From q) w w'

set_option maxRecDepth 100000 in
set_option maxHeartbeats 400000 in
theorem wbytes_any {w : World} {q hi : Nat} {v : Value} {l : List Nat} (h : Wri w q hi v l) (A : Option Addr) (x : List Nat) (c B : Nat) (hs : Sees w B A (bts x)) (hB : B ≤ w.heap.size) (hm : l.length + x.length ≤ 70368744177664) :
    Calls Try.prog 77 #[.pointer (some ⟨q, 0, none⟩), .slice A x.length c] w (Wrote w q (l ++ x)) := by
  obtain ⟨i0, hi0, hz0, hz1, hz2⟩ := info_parts infoU8
  have h0 : w.cell? ⟨q, 0, none⟩ = some v := h.row.cell 0
  have hs1 := hs.more hB
  have hql := h.row.lt
  have HH := Lib.hid h
  have ho := h.own
  clear hs h
  go_enter Try.func77, Try.ntmps77
  go_wp2_with (at_builtin; refine wpList_append_sees _ rfl (.tmp 10) (.tmp 11) 22 rfl (q + 1) 5 i0 (.int .u8 0) 1 Try.underlying22 hi0 hz0 hz1 hz2 rfl _ _ _ rfl ho w.heap.size _ _ _ (bts x) rfl hs1 (bts_length _) (bts_one _) ?c1 ?c2 ?c3 ?_)
  case c1 => unfold maxLen; omega
  case c2 => omega
  case c3 => omega
  intro v1 W1 ho1 hg1
  have hrow : Row W1 q 52 #[v] := (hg1.block q hql (fun e => by have := HH.out.blk q e.symm; omega)).trans HH.out.row
  have hmod : Mods (From q) w W1 := (Mods.refl _ _).grown hg1 fun k hk => .inl (by have := HH.out.blk k hk; unfold From; omega)
  rw [← bts_append] at ho1
  obtain ⟨A1, c1, rfl, hc1, hc2⟩ := own_slice ho1 (by rw [bts_length, List.length_append])
  have hx0 : W1.cell? ⟨q, 0, none⟩ = some v := hrow.cell 0
  have hx1 := hrow.frozen 0
  have HO := Lib.hid ho1
  have HR := Lib.hid hrow
  have HM := Lib.hid hmod
  clear ho1 hg1 hrow hmod ho
  go_wp2
  go_end0
  have hp : Mods (Is q) W1 (W1.setCell ⟨q, 0, none⟩ (.slice A1 (l.length + x.length) c1)) := (Mods.refl _ _).put 0 _
  have ho2 := hp.own HO.out fun k hk hs => by have := own_lt HO.out k hk; unfold Is at hs; omega
  refine ⟨rfl, ⟨.slice A1 (l.length + x.length) c1, HR.out.put 0 _, by rw [List.length_append]; exact ho2, fun k hk => by have := own_lt ho2 k hk; omega, (HR.out.put 0 _).lt⟩, HM.out.then hp fun k hk => .inl (by unfold Is at hk; unfold From; omega)⟩

set_option maxRecDepth 100000 in
set_option maxHeartbeats 400000 in
theorem wbyte_any {w : World} {q hi : Nat} {v : Value} {l : List Nat} (h : Wri w q hi v l) (b : Nat) (hb : b < 256) (hm : l.length + 1 ≤ 70368744177664) :
    Calls Try.prog 56 #[.pointer (some ⟨q, 0, none⟩), .int .u8 b] w (Wrote w q (l ++ [b])) := by
  have h1 := h.mods (S := No) ((Mods.refl _ _).alloc (.cells #[.int .u8 b] 5)) fun _ hk => hk.elim
  have HC := Lib.hid (wbytes_any h1 (some ⟨w.heap.size, 0, none⟩) [b] 1 (w.heap.size + 1) (fun _ => ⟨w.heap.size, 0, rfl, by omega, fun i u hu => by
    rw [(Row.new w 5 #[.int .u8 b]).cell (0 + i), ← hu, Nat.zero_add]
    simp [bts]⟩) (by simp) (by simpa using hm))
  clear h h1
  go_enter Try.func56, Try.ntmps56
  go_wp2_with fail
  refine HC.out.mono ?_
  rintro e W ⟨rfl, hw, hmm⟩
  have HW := Lib.hid hw
  have HM := Lib.hid hmm
  clear hw hmm
  go_wp2
  go_end0
  exact ⟨rfl, HW.out, ((Mods.refl _ _).alloc _).trans HM.out⟩

set_option maxRecDepth 100000 in
set_option maxHeartbeats 400000 in
theorem wuint_any {w : World} {q hi : Nat} {v : Value} {l : List Nat} (h : Wri w q hi v l) (x : Int) (h0 : 0 ≤ x) (h1 : x ≤ 18446744073709551615) (hm : l.length + 10 ≤ 70368744177664) (hhi : hi ≤ w.heap.size) :
    Calls Try.prog 58 #[.pointer (some ⟨q, 0, none⟩), .int .u64 x] w (Wrote w q (l ++ putS x.toNat)) := by
  have hl : lenS x.toNat ≤ 10 := putS_le _
  have HH := Lib.hid h
  clear h
  go_enter Try.func58, Try.ntmps58
  go_wp2_with fail
  refine (put_any _ _ h0 h1).mono ?_
  rintro e W ⟨g, rfl, ho, hb⟩
  have hw := HH.out.mods (S := No) (Mods.of_below hb) fun _ hk => hk.elim
  have HC := Lib.hid (wbytes_any hw (some ⟨g, 0, none⟩) (putS x.toNat) (lenS x.toNat) W.heap.size (Sees.of_own ho) (Nat.le_refl _) (by unfold lenS at hl; omega))
  have HB := Lib.hid hb
  clear hw ho hb
  go_wp2_with fail
  refine HC.out.mono ?_
  rintro e W2 ⟨rfl, hw, hmm⟩
  have HW := Lib.hid hw
  have HM := Lib.hid hmm
  clear hw hmm
  go_wp2
  go_end0
  exact ⟨rfl, HW.out, (Mods.of_below HB.out).trans HM.out⟩

set_option maxRecDepth 100000 in
set_option maxHeartbeats 400000 in
theorem wint_any {w : World} {q hi : Nat} {v : Value} {l : List Nat} (h : Wri w q hi v l) (x : Int) (hx : InI x) (hm : l.length + 10 ≤ 70368744177664) (hhi : hi ≤ w.heap.size) :
    Calls Try.prog 60 #[.pointer (some ⟨q, 0, none⟩), .int .i64 x] w (Wrote w q (l ++ putS (zz x).toNat)) := by
  have hz := zz_in hx
  have HC := Lib.hid (wuint_any h (zz x) hz.1 hz.2 hm hhi)
  clear h hz
  go_enter Try.func60, Try.ntmps60
  go_wp2_with fail
  refine (zig_any _ _ hx).mono ?_
  rintro e W ⟨rfl, rfl⟩
  go_wp2_with fail
  refine HC.out.mono ?_
  rintro e W2 ⟨rfl, hw, hmm⟩
  have HW := Lib.hid hw
  have HM := Lib.hid hmm
  clear hw hmm
  go_wp2
  go_end0
  exact ⟨rfl, HW.out, HM.out⟩

/-- What Out and Clone leave: a new slice with the bytes l. -/
def Fresh (w : World) (l : List Nat) (e : Ending) (w' : World) : Prop :=
  ∃ A' c', e = .returned (.slice A' l.length c') ∧ w'.ownsRow w.heap.size 5 1 (.slice A' l.length c') l.length (bts l) ∧ Below w.heap.size w w'

set_option maxRecDepth 100000 in
set_option maxHeartbeats 400000 in
theorem out_any {w : World} {q hi : Nat} {v : Value} {l : List Nat} (h : Wri w q hi v l) (hm : l.length ≤ 70368744177664) :
    Calls Try.prog 26 #[.pointer (some ⟨q, 0, none⟩)] w (Fresh w l) := by
  obtain ⟨A, c, rfl, _, _⟩ := own_slice h.own (bts_length _)
  have h0 : w.cell? ⟨q, 0, none⟩ = some (.slice A l.length c) := h.row.cell 0
  have HC := Lib.hid (clone_any A l w.heap.size c w (Sees.of_own h.own) (Nat.le_refl _) hm)
  clear h
  go_enter Try.func26, Try.ntmps26
  go_wp2_with fail
  refine HC.out.mono ?_
  rintro e W ⟨A2, c2, rfl, ho, hbl, _⟩
  have HO := Lib.hid ho
  have HB := Lib.hid hbl
  clear ho hbl
  go_wp2
  go_ret
  exact ⟨A2, c2, rfl, HO.out, HB.out⟩

end Go.Proofs.Ytacmgfndmolnfaa
