import Derived.Test.YtkapmfopfddmbaaCurOps
import Derived.Test.YtkapmfopfddmbaaPk3
import Derived.Test.YtkapmfopfddmbaaPk5

/-
  The cursor's method Bytes: the reading function copies, and stores the copy into a variable that the method has made.
-/
namespace Go.Proofs.Ytkapmfopfddmbaa
open Go.RowKit
set_option linter.unusedVariables false

def MemP (r : Nat × Nat × Nat) (S : Nat → Prop) (w : World) (Q : World → Prop) (e : Ending) (w' : World) : Prop := e = Trip r ∧ Mods S w w' ∧ Q w'

def Both (p : Nat) (S : Nat → Prop) : Nat → Prop := fun k => k = p ∨ S k

set_option maxRecDepth 100000 in
set_option maxHeartbeats 1000000 in
theorem read_mem (K : FuncId) (caps : Array Value) (hK : ∀ args W, (callFunc K args).run Try.prog W = .ok (.enter K args) W) {w : World} {lo p : Nat} {l : List Nat} {i : Nat} {er : Int} {A : Option Addr} {c : Nat} (h : Cur w lo p l i er A c) (r : Nat × Nat × Nat)
    (hr : r.2.1 ≤ (l.drop i).length) (S : Nat → Prop) (hS : ∀ k, S k → k < lo ∨ p < k) (Q : World → Prop) (hQ : ∀ w' j u, Q w' → Q (w'.setCell ⟨p, j, none⟩ u))
    (H : Hid (∀ A' c' W, (∃ n, W = w.drewN n) → Sees w p A' (bts (l.drop i)) → l.length - i ≤ c' → c' ≤ maxLen → Calls Try.prog K (#[.slice A' (l.length - i) c'] ++ caps) W (MemP r S w Q))) (he : er = 0) :
    Calls Try.prog 36 #[.pointer (some ⟨p, 0, none⟩), .func (.func K) #[] caps] w fun e w' => e = .returned (.int .u64 (stepV er r)) ∧ Mods (Both p S) w w' ∧ Cur w' lo p l (stepI i er r) (stepE er r) A c ∧ Q w' := by
  have h0 : w.cell? ⟨p, 0, none⟩ = some (.slice A l.length c) := h.row.cell 0
  have h1 : w.cell? ⟨p, 1, none⟩ = some (.int .i64 i) := h.row.cell 1
  have hle := h.le
  have hmx := h.max
  have hlc := h.lec
  have hcm := h.cmax
  have hcm2 : c - i ≤ maxLen := by omega
  unfold maxLen at hmx
  subst he
  have hdl : (l.drop i).length = l.length - i := by simp
  have hn : r.2.1 ≤ l.length - i := by omega
  have hs := h.sees.drop (k := i) (by rw [bts_length]; exact hlc)
  rw [show (bts l).drop i = bts (l.drop i) from by simp [bts]] at hs
  clear hdl hr
  obtain ⟨v, n, e⟩ := r
  simp only at H hn
  by_cases hci : c = i
  case' pos => rw [if_pos hci] at hs
  case' neg => rw [if_neg hci] at hs
  all_goals
    have Hs := Lib.hid hs
    have HQ := Lib.hid hQ
    have HS := Lib.hid hS
    clear hs hQ hS
    go_enter Try.func36, Try.ntmps36
    go_wp2_with fail
    refine (err_any h).mono ?_
    rintro e W ⟨rfl, rfl⟩
    have HC := Lib.hid h
    clear h
    go_wp2_with fail
    go_region_with ((with_reducible refine (H.out _ _ _ (by first | exact ⟨1, rfl⟩ | exact ⟨_, rfl⟩) Hs.out (by omega) (by first | exact hcm2 | exact Nat.zero_le _)).mono ?_); rintro e W ⟨rfl, hm, hq⟩; have Hm := Lib.hid hm; have Hq := Lib.hid hq; clear hm hq; unfold Trip)
    all_goals
      have hc1 := (HC.out.mods Hm.out HS.out)
      have h1' : W.cell? ⟨p, 1, none⟩ = some (.int .i64 i) := hc1.row.cell 1
      have h2' : W.cell? ⟨p, 2, none⟩ = some (.int .i64 0) := hc1.row.cell 2
      have f1 := hc1.row.frozen 1
      have f2 := hc1.row.frozen 2
      have HC1 := Lib.hid hc1
      have HM := Lib.hid (Hm.out.mono (S' := Both p S) fun k hk => .inr hk)
      clear hc1 HS Hm HC Hs
      by_cases h3 : e = 0
      · subst h3
        go_wp2
        go_ret
        exact ⟨rfl, HM.out.setCell (p := ⟨p, 1, none⟩) (.inl (.inl rfl)) _, by have := HC1.out.at_ (i + n) (by omega); rwa [Int.natCast_add] at this, HQ.out _ _ _ Hq.out⟩
      · have e3 : ((e : Int) != 0) = true := by simp; omega
        have HV := Lib.hid (show stepV 0 (v, n, e) = 0 from if_neg fun h => h3 h.2)
        have HI := Lib.hid (show stepI i 0 (v, n, e) = i from if_neg fun h => h3 h.2)
        go_wp2
        go_ret
        exact ⟨by rw [HV.out]; rfl, HM.out.setCell (p := ⟨p, 2, none⟩) (.inl (.inl rfl)) _, by rw [HI.out]; exact HC1.out.err e, HQ.out _ _ _ Hq.out⟩

def bytesS (n : Int) (l : List Nat) : Nat × Nat × Nat := if n < 0 then (0, 0, 32) else if (l.length : Int) < n then (0, 0, 1) else (0, n.toNat, 0)

theorem bytesS_len (n : Int) (l : List Nat) : (bytesS n l).2.1 ≤ l.length := by
  unfold bytesS
  split
  · simp
  · split
    · simp
    · simp; omega

/-- The bytes that Bytes returns. -/
def bytesL (er n : Int) (l : List Nat) : List Nat := if er = 0 ∧ 0 ≤ n ∧ n ≤ (l.length : Int) then l.take n.toNat else []

/-- The variable at block q holds a new slice with the bytes l, and nothing else has turned. -/
def Got (B q : Nat) (l : List Nat) (w' : World) : Prop := ∃ A' c', Row w' q 22 #[.slice A' l.length c'] ∧ w'.ownsRow B 5 1 (.slice A' l.length c') l.length (bts l) ∧ (∀ x, A' = some x → B ≤ x.block ∧ x.block ≠ q) ∧ l.length ≤ c' ∧ c' ≤ maxLen

end Go.Proofs.Ytkapmfopfddmbaa

/-
  The cursor's method Bytes, continued: its reading function, and the method itself.
-/
namespace Go.Proofs.Ytkapmfopfddmbaa
open Go.RowKit
set_option linter.unusedVariables false

theorem bytesL_ok {n : Int} {l : List Nat} (h0 : 0 ≤ n) (h1 : n ≤ (l.length : Int)) : bytesL 0 n l = l.take n.toNat := if_pos ⟨rfl, h0, h1⟩

theorem bytesL_neg {er n : Int} {l : List Nat} (h0 : n < 0) : bytesL er n l = [] := if_neg fun h => by omega

theorem bytesL_far {er n : Int} {l : List Nat} (h0 : (l.length : Int) < n) : bytesL er n l = [] := if_neg fun h => by omega

theorem bytesL_bad {er n : Int} {l : List Nat} (h0 : er ≠ 0) : bytesL er n l = [] := if_neg fun h => h0 h.1

theorem got_nil {w : World} {B q : Nat} (h : Row w q 22 #[.slice none 0 0]) : Got B q [] w :=
  ⟨none, 0, h, ⟨rfl, .inl ⟨rfl, rfl⟩⟩, (fun _ h => by cases h), Nat.le_refl _, Nat.zero_le _⟩

set_option maxRecDepth 100000 in
set_option maxHeartbeats 1000000 in
theorem bytesC (B : Nat) (A : Option Addr) (l : List Nat) (c : Nat) (n : Int) (q q' : Nat) (w : World) (hs : Sees w B A (bts l)) (hB : B ≤ w.heap.size) (hm : l.length ≤ 70368744177664) (hlc : l.length ≤ c) (hc : c ≤ maxLen) (hn1 : n ≤ 9223372036854775807)
    (hq : w.cell? ⟨q, 0, none⟩ = some (.int .i64 n)) (hq' : Row w q' 22 #[.slice none 0 0]) (hne : q ≠ q') :
    Calls Try.prog 38 #[.slice A l.length c, .pointer (some ⟨q, 0, none⟩), .pointer (some ⟨q', 0, none⟩)] w (MemP (bytesS n l) (Is q') w (Got w.heap.size q' (bytesL 0 n l))) := by
  have HU := Lib.hid (show bytesS n l = if n < 0 then (0, 0, 32) else if (l.length : Int) < n then (0, 0, 1) else (0, n.toNat, 0) from rfl)
  by_cases n0 : n < 0
  · have HU' := Lib.hid (HU.out.trans (if_pos n0))
    have HL := Lib.hid (bytesL_neg (er := 0) (l := l) n0)
    clear hs
    go_enter Try.func38, Try.ntmps38
    go_wp2
    go_ret3
    exact ⟨by rw [HU'.out]; rfl, Mods.refl _ _, by rw [HL.out]; exact got_nil hq'⟩
  have n0' : 0 ≤ n := by omega
  unfold maxLen at hc
  by_cases hf : (l.length : Int) < n
  · have HU' := Lib.hid (HU.out.trans ((if_neg n0).trans (if_pos hf)))
    have HL := Lib.hid (bytesL_far (er := 0) (l := l) hf)
    clear hs n0
    go_enter Try.func38, Try.ntmps38
    go_wp2
    go_ret3
    exact ⟨by rw [HU'.out]; rfl, Mods.refl _ _, by rw [HL.out]; exact got_nil hq'⟩
  have HU' := Lib.hid (HU.out.trans ((if_neg n0).trans (if_neg hf)))
  have HL := Lib.hid (bytesL_ok (l := l) n0' (by omega))
  obtain ⟨k, rfl⟩ := Int.eq_ofNat_of_zero_le n0'
  have hk : k ≤ l.length := by omega
  have htl : (l.take k).length = k := by rw [List.length_take]; omega
  have hst : Sees w B A (bts (l.take k)) := by have := hs.take (k := k); unfold bts at *; rwa [List.map_take]
  have hcl := clone_any A (l.take k) B c w hst hB (by omega)
  rw [htl] at hcl
  have HCl := Lib.hid hcl
  have HTL := Lib.hid htl
  have hql : q < w.heap.size := World.block_lt_of_cell? w _ hq
  have HQ := Lib.hid hq'
  clear hs hst hcl htl n0 hf HU hq' n0'
  go_enter Try.func38, Try.ntmps38
  go_wp2_with fail
  refine HCl.out.mono ?_
  rintro e W ⟨A2, c2, rfl, ho, hb, hlc2, hm2, ha2⟩
  have hr2 := HQ.out.below hb HQ.out.lt
  have hx0 : W.cell? ⟨q', 0, none⟩ = some (.slice none 0 0) := hr2.cell 0
  have hx1 := hr2.frozen 0
  have hx2 : W.cell? ⟨q, 0, none⟩ = some (.int .i64 k) := (hb.cell (p := ⟨q, 0, none⟩) hql).trans hq
  have HO := Lib.hid ho
  have HB := Lib.hid (Mods.of_below (S := Is q') hb)
  have HR := Lib.hid hr2
  clear ho hb hr2
  go_wp2_with fail
  go_quiet (fail)
  go_wp2
  go_ret3
  have hq2 := HQ.out.lt
  have hz : w.heap.size ≤ W.heap.size := HB.out.size
  have hput : Mods (Is q') W ((W.setCell ⟨q', 0, none⟩ (.slice A2 k c2)).drewN nq) := ((Mods.refl _ _).put 0 _).drewN _
  have hne2 : ∀ x, A2 = some x → w.heap.size ≤ x.block ∧ x.block ≠ q' := fun x hx => by have := ha2 x hx; omega
  refine ⟨by rw [HU'.out]; rfl, HB.out.trans hput, ?_⟩
  rw [HL.out, Int.toNat_natCast]
  refine ⟨A2, c2, ?_, ?_, hne2, by have := HTL.out; omega, hm2⟩
  · rw [HTL.out]
    exact (HR.out.put 0 _).drewN nq
  · rw [HTL.out]
    refine hput.own HO.out fun g hg => ?_
    have : A2 = some ⟨g, 0, none⟩ ∨ ∃ x, A2 = some x ∧ x.block = g := by
      rcases A2 with _ | x
      · simp [Value.ownBlock] at hg
      · exact .inr ⟨x, rfl, by simpa [Value.ownBlock] using hg⟩
    rcases this with h | ⟨x, h, hx⟩
    · exact (hne2 _ h).2
    · intro hs
      have := (hne2 _ h).2
      unfold Is at hs
      omega

set_option maxRecDepth 100000 in
set_option maxHeartbeats 400000 in
theorem read_bad (K : FuncId) (caps : Array Value) {w : World} {lo p : Nat} {l : List Nat} {i : Nat} {er : Int} {A : Option Addr} {c : Nat} (h : Cur w lo p l i er A c) (he : er ≠ 0) :
    Calls Try.prog 36 #[.pointer (some ⟨p, 0, none⟩), .func (.func K) #[] caps] w fun e w' => e = .returned (.int .u64 0) ∧ w = w' := by
  have e3 : (er != 0) = true := by simp [he]
  clear he
  go_enter Try.func36, Try.ntmps36
  go_wp2_with fail
  refine (err_any h).mono ?_
  rintro e W ⟨rfl, rfl⟩
  go_wp2
  go_ret
  exact ⟨rfl, rfl⟩

/-- What Bytes leaves. -/
def BytesP (w : World) (lo p : Nat) (l : List Nat) (i : Nat) (er : Int) (A : Option Addr) (c : Nat) (n : Int) (e : Ending) (w' : World) : Prop :=
  ∃ A' c', e = .returned (.slice A' (bytesL er n (l.drop i)).length c') ∧ Mods (Is p) w w' ∧ Cur w' lo p l (stepI i er (bytesS n (l.drop i))) (stepE er (bytesS n (l.drop i))) A c ∧
    w'.ownsRow w.heap.size 5 1 (.slice A' (bytesL er n (l.drop i)).length c') (bytesL er n (l.drop i)).length (bts (bytesL er n (l.drop i))) ∧ (∀ x, A' = some x → w.heap.size ≤ x.block)

set_option maxRecDepth 100000 in
set_option maxHeartbeats 400000 in
theorem bytes_any {w : World} {lo p : Nat} {l : List Nat} {i : Nat} {er : Int} {A : Option Addr} {c : Nat} (h : Cur w lo p l i er A c) (n : Int) (hn1 : n ≤ 9223372036854775807) (hsm : l.length ≤ 70368744177664) :
    Calls Try.prog 16 #[.pointer (some ⟨p, 0, none⟩), .int .i64 n] w (BytesP w lo p l i er A c n) := by
  have hm0 : Mods (Is p) w ((w.alloc (.cells #[.int .i64 n] 3)).alloc (.cells #[.slice none 0 0] 22)) := ((Mods.refl _ _).alloc _).alloc _
  have h1 := (h.alloc (.cells #[.int .i64 n] 3)).alloc (.cells #[.slice none 0 0] 22)
  have r1 : Row ((w.alloc (.cells #[.int .i64 n] 3)).alloc (.cells #[.slice none 0 0] 22)) w.heap.size 3 #[.int .i64 n] := (Row.new w 3 #[.int .i64 n]).alloc _
  have r2 : Row ((w.alloc (.cells #[.int .i64 n] 3)).alloc (.cells #[.slice none 0 0] 22)) (w.heap.size + 1) 22 #[.slice none 0 0] := by
    have := Row.new (w.alloc (.cells #[.int .i64 n] 3)) 22 #[.slice none 0 0]
    simpa using this
  have hpl := h.row.lt
  have hlop := h.lop
  by_cases he : er = 0
  · have hrd := read_mem 38 #[.pointer (some ⟨w.heap.size, 0, none⟩), .pointer (some ⟨w.heap.size + 1, 0, none⟩)] (fun _ _ => rfl) h1 (bytesS n (l.drop i)) (bytesS_len _ _)
      (Is (w.heap.size + 1)) (fun k hk => by unfold Is at hk; omega) (Got (w.heap.size + 2) (w.heap.size + 1) (bytesL 0 n (l.drop i)))
      (fun w' j u ⟨A', c', g1, g2, g3, g4, g5⟩ => ⟨A', c', g1.far (q := ⟨p, j, none⟩) (by show _ ≠ p; omega) u, ownsRow_setCell_below g2 (a := ⟨p, j, none⟩) (by show p < _; omega) u, g3, g4, g5⟩)
      (fun A' c' W ⟨m, hW⟩ hs hk1 hk2 => by
        subst hW
        have := bytesC p A' (l.drop i) c' n w.heap.size (w.heap.size + 1) (((w.alloc (.cells #[.int .i64 n] 3)).alloc (.cells #[.slice none 0 0] 22)).drewN m) (hs.drewN m) (by simp; omega) (by rw [List.length_drop]; omega) (by rw [List.length_drop]; exact hk1) hk2 hn1
          (r1.cell 0) r2 (by omega)
        rw [h.restlen] at this
        exact this.mono fun e w' ⟨a, b, c⟩ => ⟨a, ⟨b.os, b.tape, b.output, b.size, b.block⟩, by simpa using c⟩) he
    have HC := Lib.hid hrd
    have HM := Lib.hid hm0
    subst he
    clear h1 r1 r2 hrd hm0
    go_enter Try.func16, Try.ntmps16
    go_wp2_with fail
    refine HC.out.mono ?_
    rintro e W ⟨rfl, hm, hc, A2, c2, g1, g2, g3, g4, g5⟩
    have hx0 : W.cell? ⟨w.heap.size + 1, 0, none⟩ = some (.slice A2 (bytesL 0 n (l.drop i)).length c2) := g1.cell 0
    have Hm := Lib.hid hm
    have Hc := Lib.hid hc
    have Hg := Lib.hid g2
    clear hm hc g1 g2 HC
    go_wp2
    go_ret
    refine ⟨A2, c2, rfl, ?_, Hc.out, ⟨Hg.out.1, ?_⟩, fun x hx => by have := (g3 x hx).1; omega⟩
    · exact HM.out.then Hm.out fun k hk => by
        rcases hk with hk | hk
        · exact .inl hk
        · unfold Is at hk; omega
    · rcases Hg.out.2 with hh | ⟨g, cap, cur, h1, h2, h3⟩
      · exact .inl hh
      · exact .inr ⟨g, cap, cur, h1, by omega, h3⟩
  · have hL := bytesL_bad (n := n) (l := l.drop i) he
    have HL := Lib.hid hL
    have HI := Lib.hid (show stepI i er (bytesS n (l.drop i)) = i from if_neg fun h => he h.1)
    have HE := Lib.hid (show stepE er (bytesS n (l.drop i)) = er from if_neg he)
    have HC := Lib.hid (read_bad 38 #[.pointer (some ⟨w.heap.size, 0, none⟩), .pointer (some ⟨w.heap.size + 1, 0, none⟩)] h1 he)
    have HM := Lib.hid hm0
    have H1 := Lib.hid h1
    clear h1 r1 r2 hm0 he hL
    go_enter Try.func16, Try.ntmps16
    go_wp2_with fail
    refine HC.out.mono ?_
    rintro e W ⟨rfl, rfl⟩
    go_wp2
    go_ret
    refine ⟨none, 0, by rw [HL.out]; rfl, HM.out, by rw [HI.out, HE.out]; exact H1.out, by rw [HL.out]; exact ⟨rfl, .inl ⟨rfl, rfl⟩⟩, fun _ h => by cases h⟩

/-- Bytes where as many bytes are left. -/
theorem bytes_ok {w : World} {lo p : Nat} {l : List Nat} {i : Nat} {A : Option Addr} {c : Nat} (h : Cur w lo p l i 0 A c) (k : Nat) (hk : i + k ≤ l.length) (hsm : l.length ≤ 70368744177664) :
    Calls Try.prog 16 #[.pointer (some ⟨p, 0, none⟩), .int .i64 (k : Int)] w fun e w' => ∃ A' c', e = .returned (.slice A' k c') ∧ Mods (Is p) w w' ∧ Cur w' lo p l (i + k) 0 A c ∧
      w'.ownsRow w.heap.size 5 1 (.slice A' k c') k (bts ((l.drop i).take k)) := by
  have h1 := bytes_any h (k : Int) (by omega) hsm
  have hlen : ((l.drop i).take k).length = k := by rw [List.length_take, List.length_drop]; omega
  have hL : bytesL 0 (k : Int) (l.drop i) = (l.drop i).take k := by
    have := bytesL_ok (n := (k : Int)) (l := l.drop i) (by omega) (by rw [List.length_drop]; omega)
    rwa [Int.toNat_natCast] at this
  have hS : bytesS (k : Int) (l.drop i) = (0, k, 0) := by
    unfold bytesS
    rw [if_neg (by omega), if_neg (by rw [List.length_drop]; omega), Int.toNat_natCast]
  unfold BytesP at h1
  rw [hL, hS, hlen] at h1
  refine h1.mono ?_
  rintro e w' ⟨A', c', he, hm, hc, ho, _⟩
  exact ⟨A', c', he, hm, hc, ho⟩

theorem bytes_okI {w : World} {lo p : Nat} {l : List Nat} {i : Nat} {A : Option Addr} {c : Nat} (h : Cur w lo p l i 0 A c) (k : Nat) (n : Int) (hn : n = (k : Int)) (hk : i + k ≤ l.length) (hsm : l.length ≤ 70368744177664) :
    Calls Try.prog 16 #[.pointer (some ⟨p, 0, none⟩), .int .i64 n] w fun e w' => ∃ A' c', e = .returned (.slice A' k c') ∧ Mods (Is p) w w' ∧ Cur w' lo p l (i + k) 0 A c ∧
      w'.ownsRow w.heap.size 5 1 (.slice A' k c') k (bts ((l.drop i).take k)) := by
  subst hn
  exact bytes_ok h k hk hsm

end Go.Proofs.Ytkapmfopfddmbaa

/-
  New; a writer in memory, and its methods Bytes, Byte, Uint, Int, Out.
-/
namespace Go.Proofs.Ytkapmfopfddmbaa
open Go.RowKit
set_option linter.unusedVariables false

set_option maxRecDepth 100000 in
set_option maxHeartbeats 400000 in
theorem new_any (A : Option Addr) (l : List Nat) (B c : Nat) (w : World) (hs : Sees w B A (bts l)) (hB : B ≤ w.heap.size) (hb : Byt l) (hm : l.length ≤ 70368744177664) :
    Calls Try.prog 14 #[.slice A l.length c] w fun e w' => ∃ p A' c', e = .returned (.pointer (some ⟨p, 0, none⟩)) ∧ w.heap.size ≤ p ∧ Cur w' w.heap.size p l 0 0 A' c' ∧ Below w.heap.size w w' := by
  have HC := Lib.hid (clone_any A l B c w hs hB hm)
  clear hs
  go_enter Try.func14, Try.ntmps14
  go_wp2_with fail
  refine HC.out.mono ?_
  rintro e W ⟨A2, c2, rfl, ho, hbl, hlc, hcm, ha⟩
  have HR := Lib.hid (Row.new W 77 #[.slice A2 l.length c2, .int .i64 0, .int .i64 0])
  have HO := Lib.hid ho
  have HB := Lib.hid hbl
  clear ho hbl HC
  go_wp2
  go_ret
  refine ⟨W.heap.size, A2, c2, rfl, HB.out.size, ⟨HR.out, ?_, fun x hx => ha x hx, HB.out.size, hb, Nat.zero_le _, hlc, hcm⟩, HB.out.alloc HB.out.size _⟩
  exact (Sees.of_own HO.out).alloc (Nat.le_refl _) _

def From (q : Nat) : Nat → Prop := fun k => q ≤ k

section
variable {w w' : World} {q hi : Nat} {v : Value} {l : List Nat}

theorem own_lt {w : World} {base n : Nat} {e : TypeId} {v : Value} {xs : List Value} (h : w.ownsRow base e 1 v n xs) (k : Nat) (hk : v.ownBlock = some k) : base ≤ k ∧ k < w.heap.size := by
  rcases h.2 with ⟨rfl, _⟩ | ⟨g, cap, cur, rfl, hg, hh, _⟩
  · simp [Value.ownBlock] at hk
  · have : g = k := by simpa [Value.ownBlock] using hk
    subst this
    exact ⟨hg, (Array.getElem?_eq_some_iff.1 hh).1⟩

theorem own_slice {w : World} {base n : Nat} {e : TypeId} {v : Value} {xs : List Value} (h : w.ownsRow base e 1 v n xs) (hl : xs.length = n) : ∃ A c, v = .slice A n c ∧ n ≤ c ∧ c ≤ maxLen := by
  rcases h.2 with ⟨rfl, h0⟩ | ⟨g, cap, cur, rfl, _, _, h1, h2, _⟩
  · subst h0
    exact ⟨none, 0, rfl, Nat.le_refl _, Nat.zero_le _⟩
  · exact ⟨_, cap, rfl, h1, h2⟩

end

/-- What Out and Clone leave: a new slice with the bytes l. -/
def Fresh (w : World) (l : List Nat) (e : Ending) (w' : World) : Prop :=
  ∃ A' c', e = .returned (.slice A' l.length c') ∧ w'.ownsRow w.heap.size 5 1 (.slice A' l.length c') l.length (bts l) ∧ Below w.heap.size w w'

end Go.Proofs.Ytkapmfopfddmbaa

/-
  The fixed examples that every statement of layer 2 checks first: they come out true, and nothing that was there turns.
-/
namespace Go.Proofs.Ytkapmfopfddmbaa
open Go.RowKit
set_option linter.unusedVariables false

theorem lit_sees (w : World) (cs : Array Value) (e : TypeId) (l : List Nat) (h : cs.toList = bts l) : Sees (w.alloc (.cells cs e)) (w.heap.size + 1) (some ⟨w.heap.size, 0, none⟩) (bts l) := fun _ => by
  refine ⟨w.heap.size, 0, rfl, by omega, fun i u hu => ?_⟩
  rw [cell_of_row _ w.heap.size (0 + i) cs e (0, 0) (heap_alloc_new w _), ← hu, ← h, Nat.zero_add]
  simp

theorem below_mods {B : Nat} {S : Nat → Prop} {w a b : World} (h : Below B w a) (m : Mods S a b) (hS : ∀ k, S k → B ≤ k) (hB : B ≤ w.heap.size) : Below B w b :=
  h.trans (m.below (Nat.le_trans hB h.size) hS)

theorem same_lit (l : List Nat) (n : Nat) (A A' : Option Addr) (c c' : Nat) (B : Nat) (w : World) (hs : Sees w B A (bts l)) (hs' : Sees w B A' (bts l)) (hn : l.length = n) (hm : l.length ≤ 100) :
    Calls Try.prog 13 #[.slice A n c, .slice A' n c'] w fun e w' => e = .returned (.bool true) ∧ ∃ n, w.drewN n = w' := by
  subst hn
  have := same_any B A A' l l c c' w hs hs' (by unfold maxLen; omega) (by unfold maxLen; omega)
  rw [sameB_self] at this
  exact this

/-- New over a literal. -/
theorem new_lit (l : List Nat) (n0 n1 : Nat) (cs : Array Value) (w : World) (g : Nat) (hgs : g = w.heap.size) (hl : l.length = n0) (hc : cs.toList = bts l) (hb : ∀ x ∈ l, x < 256) (hm : l.length ≤ 100) :
    Calls Try.prog 14 #[.slice (some ⟨g, 0, none⟩) n0 n1] (w.alloc (.cells cs 5)) fun e w' => ∃ p A' c', e = .returned (.pointer (some ⟨p, 0, none⟩)) ∧ w.heap.size < p ∧ Cur w' (w.heap.size + 1) p l 0 0 A' c' ∧ Mods No w w' := by
  subst hl
  subst hgs
  refine (new_any (some ⟨w.heap.size, 0, none⟩) l (w.heap.size + 1) n1 (w.alloc (.cells cs 5)) (lit_sees w cs _ l hc) (by simp) hb (by omega)).mono ?_
  rintro e w' ⟨p, A', c', rfl, h1, h2, h3⟩
  simp only [World.size_alloc] at h1 h2
  exact ⟨p, A', c', rfl, by omega, h2, ((Mods.refl No w).alloc _).trans (Mods.of_below h3)⟩

section
variable {w : World} {lo p : Nat} {l : List Nat} {i : Nat} {er : Int} {A : Option Addr} {c : Nat}

theorem uint_lit (h : Cur w lo p l i er A c) (most : Int) (h0 : 0 ≤ most) (v i' : Nat) (e' : Int) (hv : stepV er (uintS most (l.drop i)) = v) (hi : stepI i er (uintS most (l.drop i)) = i') (he : stepE er (uintS most (l.drop i)) = e') :
    Calls Try.prog 40 #[.pointer (some ⟨p, 0, none⟩), .int .u64 most] w fun e w' => e = .returned (.int .u64 v) ∧ Mods (Is p) w w' ∧ Cur w' lo p l i' e' A c := by
  have := uint_any h most h0
  unfold After at this
  rwa [hv, hi, he] at this

theorem byte_lit (h : Cur w lo p l i er A c) (v i' : Nat) (e' : Int) (hv : stepV er (byteS (l.drop i)) = v) (hi : stepI i er (byteS (l.drop i)) = i') (he : stepE er (byteS (l.drop i)) = e') :
    Calls Try.prog 15 #[.pointer (some ⟨p, 0, none⟩)] w fun e w' => e = .returned (.int .u8 v) ∧ Mods (Is p) w w' ∧ Cur w' lo p l i' e' A c := by
  have := byte_any h
  unfold After at this
  rwa [hv, hi, he] at this

theorem count_lit (h : Cur w lo p l i er A c) (most size : Int) (hm : most ≤ 9223372036854775807) (hs : size ≤ 9223372036854775807) (v i' : Nat) (e' : Int) (hv : stepV er (countS most size (l.drop i)) = v) (hi : stepI i er (countS most size (l.drop i)) = i') (he : stepE er (countS most size (l.drop i)) = e') :
    Calls Try.prog 70 #[.pointer (some ⟨p, 0, none⟩), .int .i64 most, .int .i64 size] w fun e w' => e = .returned (.int .i64 v) ∧ Mods (Is p) w w' ∧ Cur w' lo p l i' e' A c := by
  have := count_any h most size hm hs
  unfold After at this
  rwa [hv, hi, he] at this

end

set_option maxRecDepth 100000 in
set_option maxHeartbeats 400000 in
theorem byte_nil (w : World) :
    Calls Try.prog 15 #[.pointer none] w fun e w' => e = .returned (.int .u8 0) ∧ w = w' := by
  have hr : Calls Try.prog 36 #[.pointer none, .func (.func 37) #[] #[]] w fun e w' => e = .returned (.int .u64 0) ∧ w = w' := by
    go_enter Try.func36, Try.ntmps36
    go_wp2_with fail
    refine (err_nil w).mono ?_
    rintro e W ⟨rfl, rfl⟩
    go_wp2
    go_ret
    exact ⟨rfl, rfl⟩
  have HR := Lib.hid hr
  clear hr
  go_enter Try.func15, Try.ntmps15
  go_wp2_with fail
  refine HR.out.mono ?_
  rintro e W ⟨rfl, rfl⟩
  go_wp2
  go_ret
  exact ⟨rfl, rfl⟩

end Go.Proofs.Ytkapmfopfddmbaa

/-
  The program of layer 17: a writer that leaves other blocks alone; put, PutInstr, PutMach, PutTerm (made by wip/lab/genicprog.py).
-/
namespace Go.Proofs.Ytkapmfopfddmbaa
open Go.RowKit
set_option linter.unusedVariables false
set_option linter.unusedSimpArgs false

theorem own_lower {w : World} {a b n : Nat} {e : TypeId} {v : Value} {xs : List Value} (h : w.ownsRow b e 1 v n xs) (ha : a ≤ b) : w.ownsRow a e 1 v n xs := by
  obtain ⟨h1, h2 | ⟨g, cap, cur, rfl, h3, h4⟩⟩ := h
  · exact ⟨h1, .inl h2⟩
  · exact ⟨h1, .inr ⟨g, cap, cur, rfl, by omega, h4⟩⟩

theorem heap_lt {w : World} {B : Nat} {o : Obj} (h : w.heap[B]? = some o) : B < w.heap.size := (Array.getElem?_eq_some_iff.1 h).1

end Go.Proofs.Ytkapmfopfddmbaa
