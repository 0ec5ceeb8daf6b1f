/-
  The cursor's method Bytes, continued: its reading function, and the method itself.
-/
import Derived.Test.YtgipdebkikldaaaCurBytes
namespace Go.Proofs.Ytgipdebkikldaaa
open Go.RowKit
set_option linter.unusedVariables false

theorem bytesL_ok {n : Int} {l : List Nat} (h0 : 0 ≤ n) (h1 : n ≤ (l.length : Int)) : bytesL 0 n l = l.take n.toNat := if_pos ⟨rfl, h0, h1⟩
theorem bytesL_neg {er n : Int} {l : List Nat} (h0 : n < 0) : bytesL er n l = [] := if_neg fun h => by omega
theorem bytesL_far {er n : Int} {l : List Nat} (h0 : (l.length : Int) < n) : bytesL er n l = [] := if_neg fun h => by omega
theorem bytesL_bad {er n : Int} {l : List Nat} (h0 : er ≠ 0) : bytesL er n l = [] := if_neg fun h => h0 h.1
theorem got_nil {w : World} {B q : Nat} (h : Row w q 22 #[.slice none 0 0]) : Got B q [] w :=
  ⟨none, 0, h, ⟨rfl, .inl ⟨rfl, rfl⟩⟩, (fun _ h => by cases h), Nat.le_refl _, Nat.zero_le _⟩

set_option maxRecDepth 100000 in
set_option maxHeartbeats 1000000 in
theorem bytesC (B : Nat) (A : Option Addr) (l : List Nat) (c : Nat) (n : Int) (q q' : Nat) (w : World) (hs : Sees w B A (bts l)) (hB : B ≤ w.heap.size) (hm : l.length ≤ 70368744177664) (hlc : l.length ≤ c) (hc : c ≤ maxLen) (hn1 : n ≤ 9223372036854775807)
    (hq : w.cell? ⟨q, 0, none⟩ = some (.int .i64 n)) (hq' : Row w q' 22 #[.slice none 0 0]) (hne : q ≠ q') :
    Calls Try.prog 41 #[.slice A l.length c, .pointer (some ⟨q, 0, none⟩), .pointer (some ⟨q', 0, none⟩)] w (MemP (bytesS n l) (Is q') w (Got w.heap.size q' (bytesL 0 n l))) := by
  have HU := Lib.hid (show bytesS n l = if n < 0 then (0, 0, 32) else if (l.length : Int) < n then (0, 0, 1) else (0, n.toNat, 0) from rfl)
  by_cases n0 : n < 0
  · have HU' := Lib.hid (HU.out.trans (if_pos n0))
    have HL := Lib.hid (bytesL_neg (er := 0) (l := l) n0)
    clear hs
    go_enter Try.func41, Try.ntmps41
    go_wp2
    go_ret3
    exact ⟨by rw [HU'.out]; rfl, Mods.refl _ _, by rw [HL.out]; exact got_nil hq'⟩
  have n0' : 0 ≤ n := by omega
  unfold maxLen at hc
  by_cases hf : (l.length : Int) < n
  · have HU' := Lib.hid (HU.out.trans ((if_neg n0).trans (if_pos hf)))
    have HL := Lib.hid (bytesL_far (er := 0) (l := l) hf)
    clear hs n0
    go_enter Try.func41, Try.ntmps41
    go_wp2
    go_ret3
    exact ⟨by rw [HU'.out]; rfl, Mods.refl _ _, by rw [HL.out]; exact got_nil hq'⟩
  have HU' := Lib.hid (HU.out.trans ((if_neg n0).trans (if_neg hf)))
  have HL := Lib.hid (bytesL_ok (l := l) n0' (by omega))
  obtain ⟨k, rfl⟩ := Int.eq_ofNat_of_zero_le n0'
  have hk : k ≤ l.length := by omega
  have htl : (l.take k).length = k := by rw [List.length_take]; omega
  have hst : Sees w B A (bts (l.take k)) := by have := hs.take (k := k); unfold bts at *; rwa [List.map_take]
  have hcl := clone_any A (l.take k) B c w hst hB (by omega)
  rw [htl] at hcl
  have HCl := Lib.hid hcl
  have HTL := Lib.hid htl
  have hql : q < w.heap.size := World.block_lt_of_cell? w _ hq
  have HQ := Lib.hid hq'
  clear hs hst hcl htl n0 hf HU hq' n0'
  go_enter Try.func41, Try.ntmps41
  go_wp2_with fail
  refine HCl.out.mono ?_
  rintro e W ⟨A2, c2, rfl, ho, hb, hlc2, hm2, ha2⟩
  have hr2 := HQ.out.below hb HQ.out.lt
  have hx0 : W.cell? ⟨q', 0, none⟩ = some (.slice none 0 0) := hr2.cell 0
  have hx1 := hr2.frozen 0
  have hx2 : W.cell? ⟨q, 0, none⟩ = some (.int .i64 k) := (hb.cell (p := ⟨q, 0, none⟩) hql).trans hq
  have HO := Lib.hid ho
  have HB := Lib.hid (Mods.of_below (S := Is q') hb)
  have HR := Lib.hid hr2
  clear ho hb hr2
  go_wp2_with fail
  go_quiet (fail)
  go_wp2
  go_ret3
  have hq2 := HQ.out.lt
  have hz : w.heap.size ≤ W.heap.size := HB.out.size
  have hput : Mods (Is q') W ((W.setCell ⟨q', 0, none⟩ (.slice A2 k c2)).drewN nq) := ((Mods.refl _ _).put 0 _).drewN _
  have hne2 : ∀ x, A2 = some x → w.heap.size ≤ x.block ∧ x.block ≠ q' := fun x hx => by have := ha2 x hx; omega
  refine ⟨by rw [HU'.out]; rfl, HB.out.trans hput, ?_⟩
  rw [HL.out, Int.toNat_natCast]
  refine ⟨A2, c2, ?_, ?_, hne2, by have := HTL.out; omega, hm2⟩
  · rw [HTL.out]
    exact (HR.out.put 0 _).drewN nq
  · rw [HTL.out]
    refine hput.own HO.out fun g hg => ?_
    have : A2 = some ⟨g, 0, none⟩ ∨ ∃ x, A2 = some x ∧ x.block = g := by
      rcases A2 with _ | x
      · simp [Value.ownBlock] at hg
      · exact .inr ⟨x, rfl, by simpa [Value.ownBlock] using hg⟩
    rcases this with h | ⟨x, h, hx⟩
    · exact (hne2 _ h).2
    · intro hs
      have := (hne2 _ h).2
      unfold Is at hs
      omega

set_option maxRecDepth 100000 in
set_option maxHeartbeats 400000 in
theorem read_bad (K : FuncId) (caps : Array Value) {w : World} {lo p : Nat} {l : List Nat} {i : Nat} {er : Int} {A : Option Addr} {c : Nat} (h : Cur w lo p l i er A c) (he : er ≠ 0) :
    Calls Try.prog 37 #[.pointer (some ⟨p, 0, none⟩), .func (.func K) #[] caps] w fun e w' => e = .returned (.int .u64 0) ∧ w = w' := by
  have e3 : (er != 0) = true := by simp [he]
  clear he
  go_enter Try.func37, Try.ntmps37
  go_wp2_with fail
  refine (err_any h).mono ?_
  rintro e W ⟨rfl, rfl⟩
  go_wp2
  go_ret
  exact ⟨rfl, rfl⟩

/-- What Bytes leaves. -/
def BytesP (w : World) (lo p : Nat) (l : List Nat) (i : Nat) (er : Int) (A : Option Addr) (c : Nat) (n : Int) (e : Ending) (w' : World) : Prop :=
  ∃ A' c', e = .returned (.slice A' (bytesL er n (l.drop i)).length c') ∧ Mods (Is p) w w' ∧ Cur w' lo p l (stepI i er (bytesS n (l.drop i))) (stepE er (bytesS n (l.drop i))) A c ∧
    w'.ownsRow w.heap.size 5 1 (.slice A' (bytesL er n (l.drop i)).length c') (bytesL er n (l.drop i)).length (bts (bytesL er n (l.drop i))) ∧ (∀ x, A' = some x → w.heap.size ≤ x.block)

set_option maxRecDepth 100000 in
set_option maxHeartbeats 400000 in
theorem bytes_any {w : World} {lo p : Nat} {l : List Nat} {i : Nat} {er : Int} {A : Option Addr} {c : Nat} (h : Cur w lo p l i er A c) (n : Int) (hn1 : n ≤ 9223372036854775807) (hsm : l.length ≤ 70368744177664) :
    Calls Try.prog 33 #[.pointer (some ⟨p, 0, none⟩), .int .i64 n] w (BytesP w lo p l i er A c n) := by
  have hm0 : Mods (Is p) w ((w.alloc (.cells #[.int .i64 n] 3)).alloc (.cells #[.slice none 0 0] 22)) := ((Mods.refl _ _).alloc _).alloc _
  have h1 := (h.alloc (.cells #[.int .i64 n] 3)).alloc (.cells #[.slice none 0 0] 22)
  have r1 : Row ((w.alloc (.cells #[.int .i64 n] 3)).alloc (.cells #[.slice none 0 0] 22)) w.heap.size 3 #[.int .i64 n] := (Row.new w 3 #[.int .i64 n]).alloc _
  have r2 : Row ((w.alloc (.cells #[.int .i64 n] 3)).alloc (.cells #[.slice none 0 0] 22)) (w.heap.size + 1) 22 #[.slice none 0 0] := by
    have := Row.new (w.alloc (.cells #[.int .i64 n] 3)) 22 #[.slice none 0 0]
    simpa using this
  have hpl := h.row.lt
  have hlop := h.lop
  by_cases he : er = 0
  · have hrd := read_mem 41 #[.pointer (some ⟨w.heap.size, 0, none⟩), .pointer (some ⟨w.heap.size + 1, 0, none⟩)] (fun _ _ => rfl) h1 (bytesS n (l.drop i)) (bytesS_len _ _)
      (Is (w.heap.size + 1)) (fun k hk => by unfold Is at hk; omega) (Got (w.heap.size + 2) (w.heap.size + 1) (bytesL 0 n (l.drop i)))
      (fun w' j u ⟨A', c', g1, g2, g3, g4, g5⟩ => ⟨A', c', g1.far (q := ⟨p, j, none⟩) (by show _ ≠ p; omega) u, ownsRow_setCell_below g2 (a := ⟨p, j, none⟩) (by show p < _; omega) u, g3, g4, g5⟩)
      (fun A' c' W ⟨m, hW⟩ hs hk1 hk2 => by
        subst hW
        have := bytesC p A' (l.drop i) c' n w.heap.size (w.heap.size + 1) (((w.alloc (.cells #[.int .i64 n] 3)).alloc (.cells #[.slice none 0 0] 22)).drewN m) (hs.drewN m) (by simp; omega) (by rw [List.length_drop]; omega) (by rw [List.length_drop]; exact hk1) hk2 hn1
          (r1.cell 0) r2 (by omega)
        rw [h.restlen] at this
        exact this.mono fun e w' ⟨a, b, c⟩ => ⟨a, ⟨b.os, b.tape, b.output, b.size, b.block⟩, by simpa using c⟩) he
    have HC := Lib.hid hrd
    have HM := Lib.hid hm0
    subst he
    clear h1 r1 r2 hrd hm0
    go_enter Try.func33, Try.ntmps33
    go_wp2_with fail
    refine HC.out.mono ?_
    rintro e W ⟨rfl, hm, hc, A2, c2, g1, g2, g3, g4, g5⟩
    have hx0 : W.cell? ⟨w.heap.size + 1, 0, none⟩ = some (.slice A2 (bytesL 0 n (l.drop i)).length c2) := g1.cell 0
    have Hm := Lib.hid hm
    have Hc := Lib.hid hc
    have Hg := Lib.hid g2
    clear hm hc g1 g2 HC
    go_wp2
    go_ret
    refine ⟨A2, c2, rfl, ?_, Hc.out, ⟨Hg.out.1, ?_⟩, fun x hx => by have := (g3 x hx).1; omega⟩
    · exact HM.out.then Hm.out fun k hk => by
        rcases hk with hk | hk
        · exact .inl hk
        · unfold Is at hk; omega
    · rcases Hg.out.2 with hh | ⟨g, cap, cur, h1, h2, h3⟩
      · exact .inl hh
      · exact .inr ⟨g, cap, cur, h1, by omega, h3⟩
  · have hL := bytesL_bad (n := n) (l := l.drop i) he
    have HL := Lib.hid hL
    have HI := Lib.hid (show stepI i er (bytesS n (l.drop i)) = i from if_neg fun h => he h.1)
    have HE := Lib.hid (show stepE er (bytesS n (l.drop i)) = er from if_neg he)
    have HC := Lib.hid (read_bad 41 #[.pointer (some ⟨w.heap.size, 0, none⟩), .pointer (some ⟨w.heap.size + 1, 0, none⟩)] h1 he)
    have HM := Lib.hid hm0
    have H1 := Lib.hid h1
    clear h1 r1 r2 hm0 he hL
    go_enter Try.func33, Try.ntmps33
    go_wp2_with fail
    refine HC.out.mono ?_
    rintro e W ⟨rfl, rfl⟩
    go_wp2
    go_ret
    refine ⟨none, 0, by rw [HL.out]; rfl, HM.out, by rw [HI.out, HE.out]; exact H1.out, by rw [HL.out]; exact ⟨rfl, .inl ⟨rfl, rfl⟩⟩, fun _ h => by cases h⟩

/-- Bytes where as many bytes are left. -/
theorem bytes_ok {w : World} {lo p : Nat} {l : List Nat} {i : Nat} {A : Option Addr} {c : Nat} (h : Cur w lo p l i 0 A c) (k : Nat) (hk : i + k ≤ l.length) (hsm : l.length ≤ 70368744177664) :
    Calls Try.prog 33 #[.pointer (some ⟨p, 0, none⟩), .int .i64 (k : Int)] w fun e w' => ∃ A' c', e = .returned (.slice A' k c') ∧ Mods (Is p) w w' ∧ Cur w' lo p l (i + k) 0 A c ∧
      w'.ownsRow w.heap.size 5 1 (.slice A' k c') k (bts ((l.drop i).take k)) := by
  have h1 := bytes_any h (k : Int) (by omega) hsm
  have hlen : ((l.drop i).take k).length = k := by rw [List.length_take, List.length_drop]; omega
  have hL : bytesL 0 (k : Int) (l.drop i) = (l.drop i).take k := by
    have := bytesL_ok (n := (k : Int)) (l := l.drop i) (by omega) (by rw [List.length_drop]; omega)
    rwa [Int.toNat_natCast] at this
  have hS : bytesS (k : Int) (l.drop i) = (0, k, 0) := by
    unfold bytesS
    rw [if_neg (by omega), if_neg (by rw [List.length_drop]; omega), Int.toNat_natCast]
  unfold BytesP at h1
  rw [hL, hS, hlen] at h1
  refine h1.mono ?_
  rintro e w' ⟨A', c', he, hm, hc, ho, _⟩
  exact ⟨A', c', he, hm, hc, ho⟩

theorem bytes_okI {w : World} {lo p : Nat} {l : List Nat} {i : Nat} {A : Option Addr} {c : Nat} (h : Cur w lo p l i 0 A c) (k : Nat) (n : Int) (hn : n = (k : Int)) (hk : i + k ≤ l.length) (hsm : l.length ≤ 70368744177664) :
    Calls Try.prog 33 #[.pointer (some ⟨p, 0, none⟩), .int .i64 n] w fun e w' => ∃ A' c', e = .returned (.slice A' k c') ∧ Mods (Is p) w w' ∧ Cur w' lo p l (i + k) 0 A c ∧
      w'.ownsRow w.heap.size 5 1 (.slice A' k c') k (bts ((l.drop i).take k)) := by
  subst hn
  exact bytes_ok h k hk hsm

end Go.Proofs.Ytgipdebkikldaaa
