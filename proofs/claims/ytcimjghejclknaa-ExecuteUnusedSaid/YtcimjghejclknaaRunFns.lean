/-
  The reference's Same and Copy; Clone of a slice of integers.
-/
import Derived.Test.YtcimjghejclknaaRunMem
import Derived.Test.YtcimjghejclknaaPk1
namespace Go.Proofs.Ytcimjghejclknaa
open Go.RowKit
set_option linter.unusedVariables false

set_option maxRecDepth 100000 in
set_option maxHeartbeats 1000000 in
theorem same_any (r : Rn) (B : Nat) (RA SA TA RB SB TB : Option Addr) (rc sc tc rd sd td : Nat) (w : World) (h1 : Sees w B RA (ints r.regs)) (h2 : Sees w B RB (ints r.regs)) (h3 : Sees w B TA (ints r.trace)) (h4 : Sees w B TB (ints r.trace)) (hB : B ≤ w.heap.size) (hr : r.regs.length ≤ maxLen) (ht : r.trace.length ≤ maxLen) :
    Calls Try.prog 13 #[.agg #[.int .i64 r.st, .int .i64 (r.blk : Int), .int .i64 (r.pos : Int), .int .i64 r.val, .slice RA r.regs.length rc, .slice SA 0 sc, .slice TA r.trace.length tc, .int .i64 (r.steps : Int)], .agg #[.int .i64 r.st, .int .i64 (r.blk : Int), .int .i64 (r.pos : Int), .int .i64 r.val, .slice RB r.regs.length rd, .slice SB 0 sd, .slice TB r.trace.length td, .int .i64 (r.steps : Int)]] w fun e w' => e = .returned (.bool true) ∧ Below w.heap.size w w' := by
  obtain ⟨st, blk, pos, val, regs, trace, steps⟩ := r
  dsimp only at *
  have hA := Row.new w 29 #[.int .i64 st, .int .i64 (blk : Int), .int .i64 (pos : Int), .int .i64 val, .slice RA regs.length rc, .slice SA 0 sc, .slice TA trace.length tc, .int .i64 (steps : Int)]
  have hA2 := hA.alloc (.cells #[.int .i64 st, .int .i64 (blk : Int), .int .i64 (pos : Int), .int .i64 val, .slice RB regs.length rd, .slice SB 0 sd, .slice TB trace.length td, .int .i64 (steps : Int)] 29)
  have hC := Row.new' (W := w.alloc (.cells #[.int .i64 st, .int .i64 (blk : Int), .int .i64 (pos : Int), .int .i64 val, .slice RA regs.length rc, .slice SA 0 sc, .slice TA trace.length tc, .int .i64 (steps : Int)] 29)) (p := w.heap.size + 1) (by simp) 29 #[.int .i64 st, .int .i64 (blk : Int), .int .i64 (pos : Int), .int .i64 val, .slice RB regs.length rd, .slice SB 0 sd, .slice TB trace.length td, .int .i64 (steps : Int)]
  have HB := Lib.hid (((Below.refl w.heap.size w).alloc (Nat.le_refl _) (.cells #[.int .i64 st, .int .i64 (blk : Int), .int .i64 (pos : Int), .int .i64 val, .slice RA regs.length rc, .slice SA 0 sc, .slice TA trace.length tc, .int .i64 (steps : Int)] 29)).alloc (by simp) (.cells #[.int .i64 st, .int .i64 (blk : Int), .int .i64 (pos : Int), .int .i64 val, .slice RB regs.length rd, .slice SB 0 sd, .slice TB trace.length td, .int .i64 (steps : Int)] 29))
  have h1' := (h1.more hB).below HB.out; have h2' := (h2.more hB).below HB.out; have h3' := (h3.more hB).below HB.out; have h4' := (h4.more hB).below HB.out
  clear h1 h2 h3 h4 hA
  go_enter Try.func13, Try.ntmps13
  go_wp2_with fail
  generalize ((w.alloc (.cells #[.int .i64 st, .int .i64 (blk : Int), .int .i64 (pos : Int), .int .i64 val, .slice RA regs.length rc, .slice SA 0 sc, .slice TA trace.length tc, .int .i64 (steps : Int)] 29)).alloc (.cells #[.int .i64 st, .int .i64 (blk : Int), .int .i64 (pos : Int), .int .i64 val, .slice RB regs.length rd, .slice SB 0 sd, .slice TB trace.length td, .int .i64 (steps : Int)] 29)) = W0 at *
  have a4 := hA2.cell 4; have a5 := hA2.cell 5; have a6 := hA2.cell 6; have c4 := hC.cell 4; have c5 := hC.cell 5; have c6 := hC.cell 6
  simp only [List.getElem?_toArray, List.getElem?_cons_zero, List.getElem?_cons_succ] at a4 a5 a6 c4 c5 c6
  have C1 := Lib.hid (vals_at (W := W0) w.heap.size regs regs.length rc rd rfl h1' h2' hr)
  have C2 := Lib.hid fun n => vals_at (W := W0.drewN n) w.heap.size [] 0 sc sd rfl (A := SA) (A' := SB) Sees.nil Sees.nil (Nat.zero_le _)
  have C3 := Lib.hid fun n => vals_at (W := W0.drewN n) w.heap.size trace trace.length tc td rfl (h3'.drewN n) (h4'.drewN n) ht
  clear h1' h2' h3' h4' hA2 hC
  refine C1.out.mono ?_
  rintro e W1 ⟨rfl, k1, rfl⟩
  go_wp2_with fail
  refine (C2.out _).mono ?_
  rintro e W1 ⟨rfl, k2, rfl⟩
  rw [World.drewN_drewN]
  go_wp2_with fail
  refine (C3.out _).mono ?_
  rintro e W1 ⟨rfl, k3, rfl⟩
  rw [World.drewN_drewN]
  go_wp2
  go_ret
  exact ⟨rfl, blw_drewN HB.out _⟩

/-- A copy of integers, in memory of its own. -/
def OwnP (w : World) (l : List Int) (e : Ending) (w' : World) : Prop :=
  ∃ A c, e = .returned (.slice A l.length c) ∧ w'.ownsRow w.heap.size 2 1 (.slice A l.length c) l.length (ints l) ∧ Below w.heap.size w w'

set_option maxRecDepth 100000 in
set_option maxHeartbeats 1000000 in
theorem clone_any {w : World} {lo : Nat} {A : Option Addr} {c : Nat} (l : List Int) (ho : w.ownsRow lo 2 1 (.slice A l.length c) l.length (ints l)) (hm : l.length ≤ 1000000) :
    Calls Try.prog 29 #[.slice A l.length c] w (OwnP w l) := by
  have hs := sees_own ho
  clear ho
  rcases A with _ | ad
  · obtain rfl : l = [] := by
      rcases l with _ | ⟨x, r⟩
      · rfl
      · obtain ⟨b, o, h, _⟩ := hs (by simp [ints])
        cases h
    have q22 : ∀ (w : World) (n c n' c' : Nat), (binOp .eql 25 (.slice none n c) (.slice none n' c')).run Try.prog w = .ok (.bool true) w := fun w n c n' c' => Lib.run_eql_slice_nil w _ _ _ n c n' c' Try.underlying25
    clear hs hm
    go_enter Try.func29, Try.ntmps29
    go_wp2
    go_ret
    exact ⟨none, 0, rfl, own_none _ _ _ _, Below.refl _ _⟩
  · have q22 : ∀ (w : World) (n c n' c' : Nat), (binOp .eql 25 (.slice (some ad) n c) (.slice none n' c')).run Try.prog w = .ok (.bool false) w := fun w n c n' c' => Lib.run_eql_slice_nil w _ _ _ n c n' c' Try.underlying25
    obtain ⟨i0, hi, hz0, hz1, hz2⟩ := info_parts infoI64
    have hs1 := hs.alloc (Nat.le_refl _) (.cells #[] 2)
    clear hs
    go_enter Try.func29, Try.ntmps29
    go_wp2_with (at_builtin; refine wpList_append_sees _ rfl (.tmp 5) (.tmp 6) 25 rfl w.heap.size 2 i0 (.int .i64 0) 8 Try.underlying25 hi hz0 hz1 hz2 rfl _ _ _ rfl (own_empty w 2 1) w.heap.size _ _ _ (ints l) rfl hs1 (ints_length _) (ints_one _) ?c1 ?c2 ?c3 ?_)
    case c1 => unfold maxLen; omega
    case c2 => omega
    case c3 => simp
    intro v1 W1 ho1 hg1
    have hb1 : Below w.heap.size w W1 := ((Below.refl _ _).alloc (Nat.le_refl _) _).grown hg1 (by simp) (fun k hk => by simp [Value.ownBlock] at hk; omega)
    have ho2 : W1.ownsRow w.heap.size 2 1 v1 l.length (ints l) := by simpa using ho1
    clear ho1 hg1
    obtain ⟨A1, c1, rfl, _, _⟩ := ownS_slice ho2
    have HO := Lib.hid ho2
    have HB := Lib.hid hb1
    clear ho2 hb1
    go_wp2
    go_ret
    exact ⟨A1, c1, rfl, HO.out, HB.out⟩

end Go.Proofs.Ytcimjghejclknaa
