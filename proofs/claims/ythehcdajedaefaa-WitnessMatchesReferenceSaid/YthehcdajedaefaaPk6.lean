import Derived.Test.YthehcdajedaefaaCurOps
import Derived.Test.YthehcdajedaefaaPk3
import Derived.Test.YthehcdajedaefaaPk5

/-
  The cursor's method Bytes: the reading function copies, and stores the copy into a variable that the method has made.
-/
namespace Go.Proofs.Ythehcdajedaefaa
open Go.RowKit
set_option linter.unusedVariables false

def MemP (r : Nat × Nat × Nat) (S : Nat → Prop) (w : World) (Q : World → Prop) (e : Ending) (w' : World) : Prop := e = Trip r ∧ Mods S w w' ∧ Q w'

def Both (p : Nat) (S : Nat → Prop) : Nat → Prop := fun k => k = p ∨ S k

set_option maxRecDepth 100000 in
set_option maxHeartbeats 1000000 in
theorem read_mem (K : FuncId) (caps : Array Value) (hK : ∀ args W, (callFunc K args).run Try.prog W = .ok (.enter K args) W) {w : World} {lo p : Nat} {l : List Nat} {i : Nat} {er : Int} {A : Option Addr} {c : Nat} (h : Cur w lo p l i er A c) (r : Nat × Nat × Nat)
    (hr : r.2.1 ≤ (l.drop i).length) (S : Nat → Prop) (hS : ∀ k, S k → k < lo ∨ p < k) (Q : World → Prop) (hQ : ∀ w' j u, Q w' → Q (w'.setCell ⟨p, j, none⟩ u))
    (H : Hid (∀ A' c' W, (∃ n, W = w.drewN n) → Sees w p A' (bts (l.drop i)) → l.length - i ≤ c' → c' ≤ maxLen → Calls Try.prog K (#[.slice A' (l.length - i) c'] ++ caps) W (MemP r S w Q))) (he : er = 0) :
    Calls Try.prog 44 #[.pointer (some ⟨p, 0, none⟩), .func (.func K) #[] caps] w fun e w' => e = .returned (.int .u64 (stepV er r)) ∧ Mods (Both p S) w w' ∧ Cur w' lo p l (stepI i er r) (stepE er r) A c ∧ Q w' := by
  have h0 : w.cell? ⟨p, 0, none⟩ = some (.slice A l.length c) := h.row.cell 0
  have h1 : w.cell? ⟨p, 1, none⟩ = some (.int .i64 i) := h.row.cell 1
  have hle := h.le
  have hmx := h.max
  have hlc := h.lec
  have hcm := h.cmax
  have hcm2 : c - i ≤ maxLen := by omega
  unfold maxLen at hmx
  subst he
  have hdl : (l.drop i).length = l.length - i := by simp
  have hn : r.2.1 ≤ l.length - i := by omega
  have hs := h.sees.drop (k := i) (by rw [bts_length]; exact hlc)
  rw [show (bts l).drop i = bts (l.drop i) from by simp [bts]] at hs
  clear hdl hr
  obtain ⟨v, n, e⟩ := r
  simp only at H hn
  by_cases hci : c = i
  case' pos => rw [if_pos hci] at hs
  case' neg => rw [if_neg hci] at hs
  all_goals
    have Hs := Lib.hid hs
    have HQ := Lib.hid hQ
    have HS := Lib.hid hS
    clear hs hQ hS
    go_enter Try.func44, Try.ntmps44
    go_wp2_with fail
    refine (err_any h).mono ?_
    rintro e W ⟨rfl, rfl⟩
    have HC := Lib.hid h
    clear h
    go_wp2_with fail
    go_region_with ((with_reducible refine (H.out _ _ _ (by first | exact ⟨1, rfl⟩ | exact ⟨_, rfl⟩) Hs.out (by omega) (by first | exact hcm2 | exact Nat.zero_le _)).mono ?_); rintro e W ⟨rfl, hm, hq⟩; have Hm := Lib.hid hm; have Hq := Lib.hid hq; clear hm hq; unfold Trip)
    all_goals
      have hc1 := (HC.out.mods Hm.out HS.out)
      have h1' : W.cell? ⟨p, 1, none⟩ = some (.int .i64 i) := hc1.row.cell 1
      have h2' : W.cell? ⟨p, 2, none⟩ = some (.int .i64 0) := hc1.row.cell 2
      have f1 := hc1.row.frozen 1
      have f2 := hc1.row.frozen 2
      have HC1 := Lib.hid hc1
      have HM := Lib.hid (Hm.out.mono (S' := Both p S) fun k hk => .inr hk)
      clear hc1 HS Hm HC Hs
      by_cases h3 : e = 0
      · subst h3
        go_wp2
        go_ret
        exact ⟨rfl, HM.out.setCell (p := ⟨p, 1, none⟩) (.inl (.inl rfl)) _, by have := HC1.out.at_ (i + n) (by omega); rwa [Int.natCast_add] at this, HQ.out _ _ _ Hq.out⟩
      · have e3 : ((e : Int) != 0) = true := by simp; omega
        have HV := Lib.hid (show stepV 0 (v, n, e) = 0 from if_neg fun h => h3 h.2)
        have HI := Lib.hid (show stepI i 0 (v, n, e) = i from if_neg fun h => h3 h.2)
        go_wp2
        go_ret
        exact ⟨by rw [HV.out]; rfl, HM.out.setCell (p := ⟨p, 2, none⟩) (.inl (.inl rfl)) _, by rw [HI.out]; exact HC1.out.err e, HQ.out _ _ _ Hq.out⟩

def bytesS (n : Int) (l : List Nat) : Nat × Nat × Nat := if n < 0 then (0, 0, 32) else if (l.length : Int) < n then (0, 0, 1) else (0, n.toNat, 0)

theorem bytesS_len (n : Int) (l : List Nat) : (bytesS n l).2.1 ≤ l.length := by
  unfold bytesS
  split
  · simp
  · split
    · simp
    · simp; omega

/-- The bytes that Bytes returns. -/
def bytesL (er n : Int) (l : List Nat) : List Nat := if er = 0 ∧ 0 ≤ n ∧ n ≤ (l.length : Int) then l.take n.toNat else []

/-- The variable at block q holds a new slice with the bytes l, and nothing else has turned. -/
def Got (B q : Nat) (l : List Nat) (w' : World) : Prop := ∃ A' c', Row w' q 22 #[.slice A' l.length c'] ∧ w'.ownsRow B 5 1 (.slice A' l.length c') l.length (bts l) ∧ (∀ x, A' = some x → B ≤ x.block ∧ x.block ≠ q) ∧ l.length ≤ c' ∧ c' ≤ maxLen

end Go.Proofs.Ythehcdajedaefaa

/-
  The cursor's method Bytes, continued: its reading function, and the method itself.
-/
namespace Go.Proofs.Ythehcdajedaefaa
open Go.RowKit
set_option linter.unusedVariables false

theorem bytesL_ok {n : Int} {l : List Nat} (h0 : 0 ≤ n) (h1 : n ≤ (l.length : Int)) : bytesL 0 n l = l.take n.toNat := if_pos ⟨rfl, h0, h1⟩

theorem bytesL_neg {er n : Int} {l : List Nat} (h0 : n < 0) : bytesL er n l = [] := if_neg fun h => by omega

theorem bytesL_far {er n : Int} {l : List Nat} (h0 : (l.length : Int) < n) : bytesL er n l = [] := if_neg fun h => by omega

theorem bytesL_bad {er n : Int} {l : List Nat} (h0 : er ≠ 0) : bytesL er n l = [] := if_neg fun h => h0 h.1

theorem got_nil {w : World} {B q : Nat} (h : Row w q 22 #[.slice none 0 0]) : Got B q [] w :=
  ⟨none, 0, h, ⟨rfl, .inl ⟨rfl, rfl⟩⟩, (fun _ h => by cases h), Nat.le_refl _, Nat.zero_le _⟩

set_option maxRecDepth 100000 in
set_option maxHeartbeats 400000 in
theorem read_bad (K : FuncId) (caps : Array Value) {w : World} {lo p : Nat} {l : List Nat} {i : Nat} {er : Int} {A : Option Addr} {c : Nat} (h : Cur w lo p l i er A c) (he : er ≠ 0) :
    Calls Try.prog 44 #[.pointer (some ⟨p, 0, none⟩), .func (.func K) #[] caps] w fun e w' => e = .returned (.int .u64 0) ∧ w = w' := by
  have e3 : (er != 0) = true := by simp [he]
  clear he
  go_enter Try.func44, Try.ntmps44
  go_wp2_with fail
  refine (err_any h).mono ?_
  rintro e W ⟨rfl, rfl⟩
  go_wp2
  go_ret
  exact ⟨rfl, rfl⟩

/-- What Bytes leaves. -/
def BytesP (w : World) (lo p : Nat) (l : List Nat) (i : Nat) (er : Int) (A : Option Addr) (c : Nat) (n : Int) (e : Ending) (w' : World) : Prop :=
  ∃ A' c', e = .returned (.slice A' (bytesL er n (l.drop i)).length c') ∧ Mods (Is p) w w' ∧ Cur w' lo p l (stepI i er (bytesS n (l.drop i))) (stepE er (bytesS n (l.drop i))) A c ∧
    w'.ownsRow w.heap.size 5 1 (.slice A' (bytesL er n (l.drop i)).length c') (bytesL er n (l.drop i)).length (bts (bytesL er n (l.drop i))) ∧ (∀ x, A' = some x → w.heap.size ≤ x.block)

end Go.Proofs.Ythehcdajedaefaa

/-
  New; a writer in memory, and its methods Bytes, Byte, Uint, Int, Out.
-/
namespace Go.Proofs.Ythehcdajedaefaa
open Go.RowKit
set_option linter.unusedVariables false

set_option maxRecDepth 100000 in
set_option maxHeartbeats 400000 in
theorem new_any (A : Option Addr) (l : List Nat) (B c : Nat) (w : World) (hs : Sees w B A (bts l)) (hB : B ≤ w.heap.size) (hb : Byt l) (hm : l.length ≤ 70368744177664) :
    Calls Try.prog 8 #[.slice A l.length c] w fun e w' => ∃ p A' c', e = .returned (.pointer (some ⟨p, 0, none⟩)) ∧ w.heap.size ≤ p ∧ Cur w' w.heap.size p l 0 0 A' c' ∧ Below w.heap.size w w' := by
  have HC := Lib.hid (clone_any A l B c w hs hB hm)
  clear hs
  go_enter Try.func8, Try.ntmps8
  go_wp2_with fail
  refine HC.out.mono ?_
  rintro e W ⟨A2, c2, rfl, ho, hbl, hlc, hcm, ha⟩
  have HR := Lib.hid (Row.new W 56 #[.slice A2 l.length c2, .int .i64 0, .int .i64 0])
  have HO := Lib.hid ho
  have HB := Lib.hid hbl
  clear ho hbl HC
  go_wp2
  go_ret
  refine ⟨W.heap.size, A2, c2, rfl, HB.out.size, ⟨HR.out, ?_, fun x hx => ha x hx, HB.out.size, hb, Nat.zero_le _, hlc, hcm⟩, HB.out.alloc HB.out.size _⟩
  exact (Sees.of_own HO.out).alloc (Nat.le_refl _) _

/-- A writer at block q: the bytes l, in a slice v of its own, whose block lies behind q and ahead of hi. -/
structure Wri (w : World) (q hi : Nat) (v : Value) (l : List Nat) : Prop where
  row : Row w q 42 #[v]
  own : w.ownsRow (q + 1) 5 1 v l.length (bts l)
  blk : ∀ k, v.ownBlock = some k → q < k ∧ k < hi
  qhi : q < hi

def From (q : Nat) : Nat → Prop := fun k => q ≤ k

section
variable {w w' : World} {q hi : Nat} {v : Value} {l : List Nat}

theorem own_lt {w : World} {base n : Nat} {e : TypeId} {v : Value} {xs : List Value} (h : w.ownsRow base e 1 v n xs) (k : Nat) (hk : v.ownBlock = some k) : base ≤ k ∧ k < w.heap.size := by
  rcases h.2 with ⟨rfl, _⟩ | ⟨g, cap, cur, rfl, hg, hh, _⟩
  · simp [Value.ownBlock] at hk
  · have : g = k := by simpa [Value.ownBlock] using hk
    subst this
    exact ⟨hg, (Array.getElem?_eq_some_iff.1 hh).1⟩

theorem own_slice {w : World} {base n : Nat} {e : TypeId} {v : Value} {xs : List Value} (h : w.ownsRow base e 1 v n xs) (hl : xs.length = n) : ∃ A c, v = .slice A n c ∧ n ≤ c ∧ c ≤ maxLen := by
  rcases h.2 with ⟨rfl, h0⟩ | ⟨g, cap, cur, rfl, _, _, h1, h2, _⟩
  · subst h0
    exact ⟨none, 0, rfl, Nat.le_refl _, Nat.zero_le _⟩
  · exact ⟨_, cap, rfl, h1, h2⟩

theorem Wri.mods {S : Nat → Prop} (h : Wri w q hi v l) (hm : Mods S w w') (hp : ∀ k, S k → k < q ∨ hi ≤ k) : Wri w' q hi v l :=
  ⟨h.row.mods hm fun hs => by have := hp q hs; have := h.qhi; omega, hm.own h.own fun k hk hs => by have := hp k hs; have := h.blk k hk; omega, h.blk, h.qhi⟩

theorem Wri.drewN (h : Wri w q hi v l) (n : Nat) : Wri (w.drewN n) q hi v l := h.mods (S := No) ((Mods.refl _ _).drewN n) fun _ hk => hk.elim

theorem Wri.new (w : World) : Wri (w.alloc (.cells #[.slice none 0 0] 42)) w.heap.size (w.heap.size + 1) (.slice none 0 0) [] :=
  ⟨Row.new _ _ _, ⟨rfl, .inl ⟨rfl, rfl⟩⟩, fun k hk => by simp [Value.ownBlock] at hk, by omega⟩

end

/-- What the writing methods leave. -/
def Wrote (w : World) (q : Nat) (l : List Nat) (e : Ending) (w' : World) : Prop := e = .returned (.tuple #[]) ∧ (∃ v', Wri w' q w'.heap.size v' l) ∧ Mods (From q) w w'

set_option maxRecDepth 100000 in
set_option maxHeartbeats 400000 in
theorem wbytes_any {w : World} {q hi : Nat} {v : Value} {l : List Nat} (h : Wri w q hi v l) (A : Option Addr) (x : List Nat) (c B : Nat) (hs : Sees w B A (bts x)) (hB : B ≤ w.heap.size) (hm : l.length + x.length ≤ 70368744177664) :
    Calls Try.prog 51 #[.pointer (some ⟨q, 0, none⟩), .slice A x.length c] w (Wrote w q (l ++ x)) := by
  obtain ⟨i0, hi0, hz0, hz1, hz2⟩ := info_parts infoU8
  have h0 : w.cell? ⟨q, 0, none⟩ = some v := h.row.cell 0
  have hs1 := hs.more hB
  have hql := h.row.lt
  have HH := Lib.hid h
  have ho := h.own
  clear hs h
  go_enter Try.func51, Try.ntmps51
  go_wp2_with (at_builtin; refine wpList_append_sees _ rfl (.tmp 10) (.tmp 11) 22 rfl (q + 1) 5 i0 (.int .u8 0) 1 Try.underlying22 hi0 hz0 hz1 hz2 rfl _ _ _ rfl ho w.heap.size _ _ _ (bts x) rfl hs1 (bts_length _) (bts_one _) ?c1 ?c2 ?c3 ?_)
  case c1 => unfold maxLen; omega
  case c2 => omega
  case c3 => omega
  intro v1 W1 ho1 hg1
  have hrow : Row W1 q 42 #[v] := (hg1.block q hql (fun e => by have := HH.out.blk q e.symm; omega)).trans HH.out.row
  have hmod : Mods (From q) w W1 := (Mods.refl _ _).grown hg1 fun k hk => .inl (by have := HH.out.blk k hk; unfold From; omega)
  rw [← bts_append] at ho1
  obtain ⟨A1, c1, rfl, hc1, hc2⟩ := own_slice ho1 (by rw [bts_length, List.length_append])
  have hx0 : W1.cell? ⟨q, 0, none⟩ = some v := hrow.cell 0
  have hx1 := hrow.frozen 0
  have HO := Lib.hid ho1
  have HR := Lib.hid hrow
  have HM := Lib.hid hmod
  clear ho1 hg1 hrow hmod ho
  go_wp2
  go_end0
  have hp : Mods (Is q) W1 (W1.setCell ⟨q, 0, none⟩ (.slice A1 (l.length + x.length) c1)) := (Mods.refl _ _).put 0 _
  have ho2 := hp.own HO.out fun k hk hs => by have := own_lt HO.out k hk; unfold Is at hs; omega
  refine ⟨rfl, ⟨.slice A1 (l.length + x.length) c1, HR.out.put 0 _, by rw [List.length_append]; exact ho2, fun k hk => by have := own_lt ho2 k hk; omega, (HR.out.put 0 _).lt⟩, HM.out.then hp fun k hk => .inl (by unfold Is at hk; unfold From; omega)⟩

set_option maxRecDepth 100000 in
set_option maxHeartbeats 400000 in
theorem wuint_any {w : World} {q hi : Nat} {v : Value} {l : List Nat} (h : Wri w q hi v l) (x : Int) (h0 : 0 ≤ x) (h1 : x ≤ 18446744073709551615) (hm : l.length + 10 ≤ 70368744177664) (hhi : hi ≤ w.heap.size) :
    Calls Try.prog 42 #[.pointer (some ⟨q, 0, none⟩), .int .u64 x] w (Wrote w q (l ++ putS x.toNat)) := by
  have hl : lenS x.toNat ≤ 10 := putS_le _
  have HH := Lib.hid h
  clear h
  go_enter Try.func42, Try.ntmps42
  go_wp2_with fail
  refine (put_any _ _ h0 h1).mono ?_
  rintro e W ⟨g, rfl, ho, hb⟩
  have hw := HH.out.mods (S := No) (Mods.of_below hb) fun _ hk => hk.elim
  have HC := Lib.hid (wbytes_any hw (some ⟨g, 0, none⟩) (putS x.toNat) (lenS x.toNat) W.heap.size (Sees.of_own ho) (Nat.le_refl _) (by unfold lenS at hl; omega))
  have HB := Lib.hid hb
  clear hw ho hb
  go_wp2_with fail
  refine HC.out.mono ?_
  rintro e W2 ⟨rfl, hw, hmm⟩
  have HW := Lib.hid hw
  have HM := Lib.hid hmm
  clear hw hmm
  go_wp2
  go_end0
  exact ⟨rfl, HW.out, (Mods.of_below HB.out).trans HM.out⟩

/-- What Out and Clone leave: a new slice with the bytes l. -/
def Fresh (w : World) (l : List Nat) (e : Ending) (w' : World) : Prop :=
  ∃ A' c', e = .returned (.slice A' l.length c') ∧ w'.ownsRow w.heap.size 5 1 (.slice A' l.length c') l.length (bts l) ∧ Below w.heap.size w w'

set_option maxRecDepth 100000 in
set_option maxHeartbeats 400000 in
theorem out_any {w : World} {q hi : Nat} {v : Value} {l : List Nat} (h : Wri w q hi v l) (hm : l.length ≤ 70368744177664) :
    Calls Try.prog 20 #[.pointer (some ⟨q, 0, none⟩)] w (Fresh w l) := by
  obtain ⟨A, c, rfl, _, _⟩ := own_slice h.own (bts_length _)
  have h0 : w.cell? ⟨q, 0, none⟩ = some (.slice A l.length c) := h.row.cell 0
  have HC := Lib.hid (clone_any A l w.heap.size c w (Sees.of_own h.own) (Nat.le_refl _) hm)
  clear h
  go_enter Try.func20, Try.ntmps20
  go_wp2_with fail
  refine HC.out.mono ?_
  rintro e W ⟨A2, c2, rfl, ho, hbl, _⟩
  have HO := Lib.hid ho
  have HB := Lib.hid hbl
  clear ho hbl
  go_wp2
  go_ret
  exact ⟨A2, c2, rfl, HO.out, HB.out⟩

end Go.Proofs.Ythehcdajedaefaa

/-
  The fixed examples that every statement of layer 2 checks first: they come out true, and nothing that was there turns.
-/
namespace Go.Proofs.Ythehcdajedaefaa
open Go.RowKit
set_option linter.unusedVariables false

theorem lit_sees (w : World) (cs : Array Value) (e : TypeId) (l : List Nat) (h : cs.toList = bts l) : Sees (w.alloc (.cells cs e)) (w.heap.size + 1) (some ⟨w.heap.size, 0, none⟩) (bts l) := fun _ => by
  refine ⟨w.heap.size, 0, rfl, by omega, fun i u hu => ?_⟩
  rw [cell_of_row _ w.heap.size (0 + i) cs e (0, 0) (heap_alloc_new w _), ← hu, ← h, Nat.zero_add]
  simp

theorem below_mods {B : Nat} {S : Nat → Prop} {w a b : World} (h : Below B w a) (m : Mods S a b) (hS : ∀ k, S k → B ≤ k) (hB : B ≤ w.heap.size) : Below B w b :=
  h.trans (m.below (Nat.le_trans hB h.size) hS)

theorem same_lit (l : List Nat) (n : Nat) (A A' : Option Addr) (c c' : Nat) (B : Nat) (w : World) (hs : Sees w B A (bts l)) (hs' : Sees w B A' (bts l)) (hn : l.length = n) (hm : l.length ≤ 100) :
    Calls Try.prog 19 #[.slice A n c, .slice A' n c'] w fun e w' => e = .returned (.bool true) ∧ ∃ n, w.drewN n = w' := by
  subst hn
  have := same_any B A A' l l c c' w hs hs' (by unfold maxLen; omega) (by unfold maxLen; omega)
  rw [sameB_self] at this
  exact this

/-- New over a literal. -/
theorem new_lit (l : List Nat) (n0 n1 : Nat) (cs : Array Value) (w : World) (g : Nat) (hgs : g = w.heap.size) (hl : l.length = n0) (hc : cs.toList = bts l) (hb : ∀ x ∈ l, x < 256) (hm : l.length ≤ 100) :
    Calls Try.prog 8 #[.slice (some ⟨g, 0, none⟩) n0 n1] (w.alloc (.cells cs 5)) fun e w' => ∃ p A' c', e = .returned (.pointer (some ⟨p, 0, none⟩)) ∧ w.heap.size < p ∧ Cur w' (w.heap.size + 1) p l 0 0 A' c' ∧ Mods No w w' := by
  subst hl
  subst hgs
  refine (new_any (some ⟨w.heap.size, 0, none⟩) l (w.heap.size + 1) n1 (w.alloc (.cells cs 5)) (lit_sees w cs _ l hc) (by simp) hb (by omega)).mono ?_
  rintro e w' ⟨p, A', c', rfl, h1, h2, h3⟩
  simp only [World.size_alloc] at h1 h2
  exact ⟨p, A', c', rfl, by omega, h2, ((Mods.refl No w).alloc _).trans (Mods.of_below h3)⟩

section
variable {w : World} {lo p : Nat} {l : List Nat} {i : Nat} {er : Int} {A : Option Addr} {c : Nat}

theorem uint_lit (h : Cur w lo p l i er A c) (most : Int) (h0 : 0 ≤ most) (v i' : Nat) (e' : Int) (hv : stepV er (uintS most (l.drop i)) = v) (hi : stepI i er (uintS most (l.drop i)) = i') (he : stepE er (uintS most (l.drop i)) = e') :
    Calls Try.prog 47 #[.pointer (some ⟨p, 0, none⟩), .int .u64 most] w fun e w' => e = .returned (.int .u64 v) ∧ Mods (Is p) w w' ∧ Cur w' lo p l i' e' A c := by
  have := uint_any h most h0
  unfold After at this
  rwa [hv, hi, he] at this

theorem count_lit (h : Cur w lo p l i er A c) (most size : Int) (hm : most ≤ 9223372036854775807) (hs : size ≤ 9223372036854775807) (v i' : Nat) (e' : Int) (hv : stepV er (countS most size (l.drop i)) = v) (hi : stepI i er (countS most size (l.drop i)) = i') (he : stepE er (countS most size (l.drop i)) = e') :
    Calls Try.prog 33 #[.pointer (some ⟨p, 0, none⟩), .int .i64 most, .int .i64 size] w fun e w' => e = .returned (.int .i64 v) ∧ Mods (Is p) w w' ∧ Cur w' lo p l i' e' A c := by
  have := count_any h most size hm hs
  unfold After at this
  rwa [hv, hi, he] at this

end

end Go.Proofs.Ythehcdajedaefaa

/-
  The program of layer 17: a writer that leaves other blocks alone; put, PutInstr, PutMach, PutTerm (made by wip/lab/genicprog.py).
-/
namespace Go.Proofs.Ythehcdajedaefaa
open Go.RowKit
set_option linter.unusedVariables false
set_option linter.unusedSimpArgs false

/-- Blocks of other types stay. -/
def Keep (w w' : World) : Prop := ∀ B T cs, Row w B T cs → T ≠ 5 → T ≠ 42 → Row w' B T cs

theorem Keep.refl (w : World) : Keep w w := fun _ _ _ h _ _ => h

theorem Keep.trans {a b c : World} (h : Keep a b) (k : Keep b c) : Keep a c := fun B T cs hr h1 h2 => k B T cs (h B T cs hr h1 h2) h1 h2

theorem Keep.below {a b : World} (h : Below a.heap.size a b) : Keep a b := fun B T cs hr _ _ => hr.below h hr.lt

theorem Keep.alloc {a b : World} (h : Keep a b) (o : Obj) : Keep a (b.alloc o) := fun B T cs hr h1 h2 => (h B T cs hr h1 h2).alloc o

theorem Wri.apart {w : World} {q hi : Nat} {v : Value} {l : List Nat} (h : Wri w q hi v l) {B : Nat} {T : TypeId} {cs : Array Value} (hr : Row w B T cs) (h1 : T ≠ 5) (h2 : T ≠ 42) : v.ownBlock ≠ some B ∧ B ≠ q := by
  refine ⟨fun e => ?_, fun e => ?_⟩
  · rcases h.own.2 with ⟨rfl, _⟩ | ⟨g, cap, cur, rfl, _, hh, _⟩
    · simp [Value.ownBlock] at e
    · have : g = B := by simpa [Value.ownBlock] using e
      subst this
      have hr' : w.heap[g]? = some (.cells cs T (0, 0)) := hr
      rw [hr'] at hh
      injection hh with hh
      injection hh with _ hT _
      exact h1 hT
  · subst e
    have hr' : w.heap[B]? = some (.cells cs T (0, 0)) := hr
    have hq : w.heap[B]? = some (.cells #[v] 42 (0, 0)) := h.row
    rw [hr'] at hq
    injection hq with hq
    injection hq with _ hT _
    exact h2 hT

theorem Wri.more {w : World} {q hi hi' : Nat} {v : Value} {l : List Nat} (h : Wri w q hi v l) (hh : hi ≤ hi') : Wri w q hi' v l := ⟨h.row, h.own, fun k hk => ⟨(h.blk k hk).1, Nat.lt_of_lt_of_le (h.blk k hk).2 hh⟩, Nat.lt_of_lt_of_le h.qhi hh⟩

/-- What a writing function leaves, and that it leaves other blocks alone. -/
def WroteK (w : World) (q : Nat) (l : List Nat) (e : Ending) (w' : World) : Prop := Wrote w q l e w' ∧ Keep w w'

set_option maxRecDepth 100000 in
set_option maxHeartbeats 400000 in
theorem wbytesK {w : World} {q hi : Nat} {v : Value} {l : List Nat} (h : Wri w q hi v l) (A : Option Addr) (x : List Nat) (c B : Nat) (hs : Sees w B A (bts x)) (hB : B ≤ w.heap.size) (hm : l.length + x.length ≤ 70368744177664) :
    Calls Try.prog 51 #[.pointer (some ⟨q, 0, none⟩), .slice A x.length c] w (WroteK w q (l ++ x)) := by
  obtain ⟨i0, hi0, hz0, hz1, hz2⟩ := info_parts infoU8
  have h0 : w.cell? ⟨q, 0, none⟩ = some v := h.row.cell 0
  have hs1 := hs.more hB
  have hql := h.row.lt
  have HH := Lib.hid h
  have ho := h.own
  clear hs h
  go_enter Try.func51, Try.ntmps51
  go_wp2_with (at_builtin; refine wpList_append_sees _ rfl (.tmp 10) (.tmp 11) 22 rfl (q + 1) 5 i0 (.int .u8 0) 1 Try.underlying22 hi0 hz0 hz1 hz2 rfl _ _ _ rfl ho w.heap.size _ _ _ (bts x) rfl hs1 (bts_length _) (bts_one _) ?c1 ?c2 ?c3 ?_)
  case c1 => unfold maxLen; omega
  case c2 => omega
  case c3 => omega
  intro v1 W1 ho1 hg1
  have hrow : Row W1 q 42 #[v] := (hg1.block q hql (fun e => by have := HH.out.blk q e.symm; omega)).trans HH.out.row
  have hmod : Mods (From q) w W1 := (Mods.refl _ _).grown hg1 fun k hk => .inl (by have := HH.out.blk k hk; unfold From; omega)
  rw [← bts_append] at ho1
  obtain ⟨A1, c1, rfl, hc1, hc2⟩ := own_slice ho1 (by rw [bts_length, List.length_append])
  have hx0 : W1.cell? ⟨q, 0, none⟩ = some v := hrow.cell 0
  have hx1 := hrow.frozen 0
  have hkp : Keep w W1 := fun B T cs hr h1 h2 => (hg1.block B hr.lt (fun e => (HH.out.apart hr h1 h2).1 e.symm)).trans hr
  have HKP := Lib.hid hkp
  have HO := Lib.hid ho1
  have HR := Lib.hid hrow
  have HM := Lib.hid hmod
  clear ho1 hg1 hrow hmod ho hkp
  go_wp2
  go_end0
  have hp : Mods (Is q) W1 (W1.setCell ⟨q, 0, none⟩ (.slice A1 (l.length + x.length) c1)) := (Mods.refl _ _).put 0 _
  have ho2 := hp.own HO.out fun k hk hs => by have := own_lt HO.out k hk; unfold Is at hs; omega
  have hkq : Keep W1 (W1.setCell ⟨q, 0, none⟩ (.slice A1 (l.length + x.length) c1)) := fun B T cs hr h1 h2 => hr.far (q := ⟨q, 0, none⟩) (fun e => by
    have e' : B = q := e
    subst e'
    have hr' : W1.heap[B]? = some (.cells cs T (0, 0)) := hr
    have hq : W1.heap[B]? = some (.cells #[v] 42 (0, 0)) := HR.out
    rw [hr'] at hq
    injection hq with hq
    injection hq with _ hT _
    exact h2 hT) _
  refine ⟨⟨rfl, ?_, ?_⟩, HKP.out.trans hkq⟩
  · exact ⟨.slice A1 (l.length + x.length) c1, HR.out.put 0 _, by rw [List.length_append]; exact ho2, fun k hk => by have := own_lt ho2 k hk; omega, (HR.out.put 0 _).lt⟩
  · exact HM.out.then hp fun k hk => .inl (by unfold Is at hk; unfold From; omega)

set_option maxRecDepth 100000 in
set_option maxHeartbeats 400000 in
theorem wuintK {w : World} {q hi : Nat} {v : Value} {l : List Nat} (h : Wri w q hi v l) (x : Int) (h0 : 0 ≤ x) (h1 : x ≤ 18446744073709551615) (hm : l.length + 10 ≤ 70368744177664) (hhi : hi ≤ w.heap.size) :
    Calls Try.prog 42 #[.pointer (some ⟨q, 0, none⟩), .int .u64 x] w (WroteK w q (l ++ putS x.toNat)) := by
  have hl : lenS x.toNat ≤ 10 := putS_le _
  have HH := Lib.hid h
  clear h
  go_enter Try.func42, Try.ntmps42
  go_wp2_with fail
  refine (put_any _ _ h0 h1).mono ?_
  rintro e W ⟨g, rfl, ho, hb⟩
  have hw := HH.out.mods (S := No) (Mods.of_below hb) fun _ hk => hk.elim
  have HC := Lib.hid (wbytesK hw (some ⟨g, 0, none⟩) (putS x.toNat) (lenS x.toNat) W.heap.size (Sees.of_own ho) (Nat.le_refl _) (by unfold lenS at hl; omega))
  have HB := Lib.hid hb
  clear hw ho hb
  go_wp2_with fail
  refine HC.out.mono ?_
  rintro e W2 ⟨⟨rfl, hw, hmm⟩, hk⟩
  have HW := Lib.hid hw
  have HM := Lib.hid hmm
  have HKP := Lib.hid hk
  clear hw hmm hk
  go_wp2
  go_end0
  exact ⟨⟨rfl, HW.out, (Mods.of_below HB.out).trans HM.out⟩, (Keep.below HB.out).trans HKP.out⟩

theorem WroteK.refl {w : World} {q hi : Nat} {v : Value} {l : List Nat} (h : Wri w q hi v l) (hhi : hi ≤ w.heap.size) : WroteK w q l (.returned (.tuple #[])) w := ⟨⟨rfl, ⟨v, h.more hhi⟩, Mods.refl _ _⟩, Keep.refl _⟩

end Go.Proofs.Ythehcdajedaefaa
