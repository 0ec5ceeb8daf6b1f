/-
  The program of layer 17: a writer that leaves other blocks alone; put, PutInstr, PutMach, PutTerm (made by wip/lab/genicprog.py).
-/
import Derived.Test.YtacmgfndmolnfaaIcPgF
import Derived.Test.YtacmgfndmolnfaaWri
namespace Go.Proofs.Ytacmgfndmolnfaa
open Go.RowKit
set_option linter.unusedVariables false
set_option linter.unusedSimpArgs false

/-- Blocks of other types stay. -/
def Keep (w w' : World) : Prop := ∀ B T cs, Row w B T cs → T ≠ 5 → T ≠ 52 → Row w' B T cs
theorem Keep.refl (w : World) : Keep w w := fun _ _ _ h _ _ => h
theorem Keep.trans {a b c : World} (h : Keep a b) (k : Keep b c) : Keep a c := fun B T cs hr h1 h2 => k B T cs (h B T cs hr h1 h2) h1 h2
theorem Keep.below {a b : World} (h : Below a.heap.size a b) : Keep a b := fun B T cs hr _ _ => hr.below h hr.lt
theorem Keep.alloc {a b : World} (h : Keep a b) (o : Obj) : Keep a (b.alloc o) := fun B T cs hr h1 h2 => (h B T cs hr h1 h2).alloc o
theorem Wri.apart {w : World} {q hi : Nat} {v : Value} {l : List Nat} (h : Wri w q hi v l) {B : Nat} {T : TypeId} {cs : Array Value} (hr : Row w B T cs) (h1 : T ≠ 5) (h2 : T ≠ 52) : v.ownBlock ≠ some B ∧ B ≠ q := by
  refine ⟨fun e => ?_, fun e => ?_⟩
  · rcases h.own.2 with ⟨rfl, _⟩ | ⟨g, cap, cur, rfl, _, hh, _⟩
    · simp [Value.ownBlock] at e
    · have : g = B := by simpa [Value.ownBlock] using e
      subst this
      have hr' : w.heap[g]? = some (.cells cs T (0, 0)) := hr
      rw [hr'] at hh
      injection hh with hh
      injection hh with _ hT _
      exact h1 hT
  · subst e
    have hr' : w.heap[B]? = some (.cells cs T (0, 0)) := hr
    have hq : w.heap[B]? = some (.cells #[v] 52 (0, 0)) := h.row
    rw [hr'] at hq
    injection hq with hq
    injection hq with _ hT _
    exact h2 hT
theorem Wri.more {w : World} {q hi hi' : Nat} {v : Value} {l : List Nat} (h : Wri w q hi v l) (hh : hi ≤ hi') : Wri w q hi' v l := ⟨h.row, h.own, fun k hk => ⟨(h.blk k hk).1, Nat.lt_of_lt_of_le (h.blk k hk).2 hh⟩, Nat.lt_of_lt_of_le h.qhi hh⟩
/-- What a writing function leaves, and that it leaves other blocks alone. -/
def WroteK (w : World) (q : Nat) (l : List Nat) (e : Ending) (w' : World) : Prop := Wrote w q l e w' ∧ Keep w w'

set_option maxRecDepth 100000 in
set_option maxHeartbeats 400000 in
theorem wbytesK {w : World} {q hi : Nat} {v : Value} {l : List Nat} (h : Wri w q hi v l) (A : Option Addr) (x : List Nat) (c B : Nat) (hs : Sees w B A (bts x)) (hB : B ≤ w.heap.size) (hm : l.length + x.length ≤ 70368744177664) :
    Calls Try.prog 77 #[.pointer (some ⟨q, 0, none⟩), .slice A x.length c] w (WroteK w q (l ++ x)) := by
  obtain ⟨i0, hi0, hz0, hz1, hz2⟩ := info_parts infoU8
  have h0 : w.cell? ⟨q, 0, none⟩ = some v := h.row.cell 0
  have hs1 := hs.more hB
  have hql := h.row.lt
  have HH := Lib.hid h
  have ho := h.own
  clear hs h
  go_enter Try.func77, Try.ntmps77
  go_wp2_with (at_builtin; refine wpList_append_sees _ rfl (.tmp 10) (.tmp 11) 22 rfl (q + 1) 5 i0 (.int .u8 0) 1 Try.underlying22 hi0 hz0 hz1 hz2 rfl _ _ _ rfl ho w.heap.size _ _ _ (bts x) rfl hs1 (bts_length _) (bts_one _) ?c1 ?c2 ?c3 ?_)
  case c1 => unfold maxLen; omega
  case c2 => omega
  case c3 => omega
  intro v1 W1 ho1 hg1
  have hrow : Row W1 q 52 #[v] := (hg1.block q hql (fun e => by have := HH.out.blk q e.symm; omega)).trans HH.out.row
  have hmod : Mods (From q) w W1 := (Mods.refl _ _).grown hg1 fun k hk => .inl (by have := HH.out.blk k hk; unfold From; omega)
  rw [← bts_append] at ho1
  obtain ⟨A1, c1, rfl, hc1, hc2⟩ := own_slice ho1 (by rw [bts_length, List.length_append])
  have hx0 : W1.cell? ⟨q, 0, none⟩ = some v := hrow.cell 0
  have hx1 := hrow.frozen 0
  have hkp : Keep w W1 := fun B T cs hr h1 h2 => (hg1.block B hr.lt (fun e => (HH.out.apart hr h1 h2).1 e.symm)).trans hr
  have HKP := Lib.hid hkp
  have HO := Lib.hid ho1
  have HR := Lib.hid hrow
  have HM := Lib.hid hmod
  clear ho1 hg1 hrow hmod ho hkp
  go_wp2
  go_end0
  have hp : Mods (Is q) W1 (W1.setCell ⟨q, 0, none⟩ (.slice A1 (l.length + x.length) c1)) := (Mods.refl _ _).put 0 _
  have ho2 := hp.own HO.out fun k hk hs => by have := own_lt HO.out k hk; unfold Is at hs; omega
  have hkq : Keep W1 (W1.setCell ⟨q, 0, none⟩ (.slice A1 (l.length + x.length) c1)) := fun B T cs hr h1 h2 => hr.far (q := ⟨q, 0, none⟩) (fun e => by
    have e' : B = q := e
    subst e'
    have hr' : W1.heap[B]? = some (.cells cs T (0, 0)) := hr
    have hq : W1.heap[B]? = some (.cells #[v] 52 (0, 0)) := HR.out
    rw [hr'] at hq
    injection hq with hq
    injection hq with _ hT _
    exact h2 hT) _
  refine ⟨⟨rfl, ?_, ?_⟩, HKP.out.trans hkq⟩
  · exact ⟨.slice A1 (l.length + x.length) c1, HR.out.put 0 _, by rw [List.length_append]; exact ho2, fun k hk => by have := own_lt ho2 k hk; omega, (HR.out.put 0 _).lt⟩
  · exact HM.out.then hp fun k hk => .inl (by unfold Is at hk; unfold From; omega)

set_option maxRecDepth 100000 in
set_option maxHeartbeats 400000 in
theorem wbyteK {w : World} {q hi : Nat} {v : Value} {l : List Nat} (h : Wri w q hi v l) (b : Nat) (hb : b < 256) (hm : l.length + 1 ≤ 70368744177664) :
    Calls Try.prog 56 #[.pointer (some ⟨q, 0, none⟩), .int .u8 b] w (WroteK w q (l ++ [b])) := by
  have h1 := h.mods (S := No) ((Mods.refl _ _).alloc (.cells #[.int .u8 b] 5)) fun _ hk => hk.elim
  have HC := Lib.hid (wbytesK h1 (some ⟨w.heap.size, 0, none⟩) [b] 1 (w.heap.size + 1) (fun _ => ⟨w.heap.size, 0, rfl, by omega, fun i u hu => by
    rw [(Row.new w 5 #[.int .u8 b]).cell (0 + i), ← hu, Nat.zero_add]
    simp [bts]⟩) (by simp) (by simpa using hm))
  clear h h1
  go_enter Try.func56, Try.ntmps56
  go_wp2_with fail
  refine HC.out.mono ?_
  rintro e W ⟨⟨rfl, hw, hmm⟩, hk⟩
  have HW := Lib.hid hw
  have HM := Lib.hid hmm
  have HKP := Lib.hid hk
  clear hw hmm hk
  go_wp2
  go_end0
  exact ⟨⟨rfl, HW.out, ((Mods.refl _ _).alloc _).trans HM.out⟩, ((Keep.refl w).alloc _).trans HKP.out⟩

set_option maxRecDepth 100000 in
set_option maxHeartbeats 400000 in
theorem wuintK {w : World} {q hi : Nat} {v : Value} {l : List Nat} (h : Wri w q hi v l) (x : Int) (h0 : 0 ≤ x) (h1 : x ≤ 18446744073709551615) (hm : l.length + 10 ≤ 70368744177664) (hhi : hi ≤ w.heap.size) :
    Calls Try.prog 58 #[.pointer (some ⟨q, 0, none⟩), .int .u64 x] w (WroteK w q (l ++ putS x.toNat)) := by
  have hl : lenS x.toNat ≤ 10 := putS_le _
  have HH := Lib.hid h
  clear h
  go_enter Try.func58, Try.ntmps58
  go_wp2_with fail
  refine (put_any _ _ h0 h1).mono ?_
  rintro e W ⟨g, rfl, ho, hb⟩
  have hw := HH.out.mods (S := No) (Mods.of_below hb) fun _ hk => hk.elim
  have HC := Lib.hid (wbytesK hw (some ⟨g, 0, none⟩) (putS x.toNat) (lenS x.toNat) W.heap.size (Sees.of_own ho) (Nat.le_refl _) (by unfold lenS at hl; omega))
  have HB := Lib.hid hb
  clear hw ho hb
  go_wp2_with fail
  refine HC.out.mono ?_
  rintro e W2 ⟨⟨rfl, hw, hmm⟩, hk⟩
  have HW := Lib.hid hw
  have HM := Lib.hid hmm
  have HKP := Lib.hid hk
  clear hw hmm hk
  go_wp2
  go_end0
  exact ⟨⟨rfl, HW.out, (Mods.of_below HB.out).trans HM.out⟩, (Keep.below HB.out).trans HKP.out⟩

set_option maxRecDepth 100000 in
set_option maxHeartbeats 400000 in
theorem wintK {w : World} {q hi : Nat} {v : Value} {l : List Nat} (h : Wri w q hi v l) (x : Int) (hx : InI x) (hm : l.length + 10 ≤ 70368744177664) (hhi : hi ≤ w.heap.size) :
    Calls Try.prog 60 #[.pointer (some ⟨q, 0, none⟩), .int .i64 x] w (WroteK w q (l ++ putS (zz x).toNat)) := by
  have hz := zz_in hx
  have HC := Lib.hid (wuintK h (zz x) hz.1 hz.2 hm hhi)
  clear h hz
  go_enter Try.func60, Try.ntmps60
  go_wp2_with fail
  refine (zig_any _ _ hx).mono ?_
  rintro e W ⟨rfl, rfl⟩
  go_wp2_with fail
  refine HC.out.mono ?_
  rintro e W2 ⟨⟨rfl, hw, hmm⟩, hk⟩
  have HW := Lib.hid hw
  have HM := Lib.hid hmm
  have HKP := Lib.hid hk
  clear hw hmm hk
  go_wp2
  go_end0
  exact ⟨⟨rfl, HW.out, HM.out⟩, HKP.out⟩

theorem WroteK.refl {w : World} {q hi : Nat} {v : Value} {l : List Nat} (h : Wri w q hi v l) (hhi : hi ≤ w.heap.size) : WroteK w q l (.returned (.tuple #[])) w := ⟨⟨rfl, ⟨v, h.more hhi⟩, Mods.refl _ _⟩, Keep.refl _⟩

set_option maxRecDepth 100000 in
set_option maxHeartbeats 400000 in
theorem putu_any {w : World} {q hi : Nat} {v : Value} {l : List Nat} (h : Wri w q hi v l) (hm : l.length + 10 ≤ 70368744177664) (hhi : hi ≤ w.heap.size) (b : Bool) (x x' : Int) (hx : b = true → x' = x ∧ 0 ≤ x ∧ x ≤ 18446744073709551615) :
    Calls Try.prog 57 #[.bool b, .func (.func 58) #[.pointer (some ⟨q, 0, none⟩)] #[], .int .u64 x'] w (WroteK w q (l ++ encO b x)) := by
  cases b
  · have HZ : Hid (WroteK w q (l ++ encO false x) (.returned (.tuple #[])) w) := by
      show WroteK _ _ _ _ _
      rw [show encO false x = [] from rfl, List.append_nil]
      exact WroteK.refl h hhi
    clear h hx
    go_enter Try.func57, Try.ntmps57
    go_wp2
    go_end0
    exact HZ.out
  · obtain ⟨rfl, h0, h1⟩ := hx rfl
    have HC := Lib.hid (wuintK h x' h0 h1 hm hhi)
    rw [show encO true x' = putS x'.toNat from rfl]
    clear h
    go_enter Try.func57, Try.ntmps57
    go_wp2_with fail
    refine HC.out.mono ?_
    rintro e W ⟨⟨rfl, hw, hmm⟩, hk⟩
    have HZ : Hid (WroteK w q (l ++ putS x'.toNat) (.returned (.tuple #[])) W) := ⟨⟨rfl, hw, hmm⟩, hk⟩
    clear hw hmm hk HC
    go_wp2
    go_end0
    exact HZ.out

set_option maxRecDepth 100000 in
set_option maxHeartbeats 400000 in
theorem putl_any {w : World} {q hi : Nat} {v : Value} {l : List Nat} (h : Wri w q hi v l) (hm : l.length + 10 ≤ 70368744177664) (hhi : hi ≤ w.heap.size) (b : Bool) (x : Int) (hx : InI x) :
    Calls Try.prog 59 #[.bool b, .func (.func 60) #[.pointer (some ⟨q, 0, none⟩)] #[], .int .i64 x] w (WroteK w q (l ++ encO b (zz x))) := by
  cases b
  · have HZ : Hid (WroteK w q (l ++ encO false (zz x)) (.returned (.tuple #[])) w) := by
      show WroteK _ _ _ _ _
      rw [show encO false (zz x) = [] from rfl, List.append_nil]
      exact WroteK.refl h hhi
    clear h hx
    go_enter Try.func59, Try.ntmps59
    go_wp2
    go_end0
    exact HZ.out
  · have HC := Lib.hid (wintK h x hx hm hhi)
    rw [show encO true (zz x) = putS (zz x).toNat from rfl]
    clear h
    go_enter Try.func59, Try.ntmps59
    go_wp2_with fail
    refine HC.out.mono ?_
    rintro e W ⟨⟨rfl, hw, hmm⟩, hk⟩
    have HZ : Hid (WroteK w q (l ++ putS (zz x).toNat) (.returned (.tuple #[])) W) := ⟨⟨rfl, hw, hmm⟩, hk⟩
    clear hw hmm hk HC
    go_wp2
    go_end0
    exact HZ.out

end Go.Proofs.Ytacmgfndmolnfaa
