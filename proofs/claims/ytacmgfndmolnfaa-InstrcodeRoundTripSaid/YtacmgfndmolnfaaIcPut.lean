/-
  The reference of layer 17: put; bytes of one's own.
-/
import Derived.Test.YtacmgfndmolnfaaPk1
import Derived.Test.YtacmgfndmolnfaaVarRput
namespace Go.Proofs.Ytacmgfndmolnfaa
open Go.RowKit
set_option linter.unusedVariables false
set_option linter.unusedSimpArgs false

theorem Try.infoU8c : (Try.prog.info? 5).map (fun i => (i.zero, i.size, i.bytes)) = some (some (.int .u8 0), 1, 1) := by kernel_rfl

/-- The value v is a list of bytes in memory of its own, new to the world w0; of what was there nothing has turned. -/
structure BL (w0 : World) (v : Value) (l : List Nat) (W : World) : Prop where
  own : W.ownsRow w0.heap.size 5 1 v l.length (bts l)
  blw : Below w0.heap.size w0 W
theorem BL.next {w0 W W' : World} {v : Value} {l : List Nat} (h : BL w0 v l W) (hb : Below W.heap.size W W') : BL w0 v l W' :=
  ⟨(Mods.of_below (S := No) hb).own h.own fun _ _ hs => hs.elim, h.blw.trans (hb.mono h.blw.size)⟩
/-- Bytes appended. -/
theorem BL.app {w0 W W' : World} {v v' : Value} {l r : List Nat} {n : Nat} (h : BL w0 v l W) (hn : n = l.length) (ho : W'.ownsRow w0.heap.size 5 1 v' (n + r.length) (bts l ++ bts r)) (hg : W.grownBy W' v.ownBlock) : BL w0 v' (l ++ r) W' := by
  subst hn
  refine ⟨by rw [bts_append, List.length_append]; exact ho, h.blw.grown hg h.blw.size fun k hk => ?_⟩
  rcases h.own.2 with ⟨rfl, _⟩ | ⟨g, cap, cur, rfl, hg9, _⟩
  · cases hk
  · simp only [Value.ownBlock, Option.some.injEq] at hk
    omega

set_option maxRecDepth 100000 in
set_option maxHeartbeats 2000000 in
theorem rput17_any {w0 W : World} {v : Value} {l : List Nat} (h : BL w0 v l W) (x : Int) (h0 : 0 ≤ x) (h1 : x ≤ 9223372036854775807) (hl : l.length ≤ 10000) :
    Calls Try.prog 61 #[v, .int .i64 x] W fun e W' => ∃ v', e = .returned v' ∧ BL w0 v' (l ++ putS x.toNat) W' := by
  obtain ⟨i0, hi, hz0, hz1, hz2⟩ := info_parts Try.infoU8c
  have C1 := Lib.hid (rput_any x W h0 (by omega))
  have HL := Lib.hid h
  have hp := putS_le x.toNat
  clear h
  go_enter Try.func61, Try.ntmps61
  go_wp2_with fail
  refine C1.out.mono ?_
  rintro e W1 ⟨g, c, rfl, ho, hb⟩
  have HL1 := Lib.hid (HL.out.next hb)
  have hsee := Sees.of_own ho
  have hlo : w0.heap.size ≤ W1.heap.size := HL1.out.blw.size
  have HLS : Hid (lenS x.toNat = (putS x.toNat).length) := rfl
  clear ho hb C1 HL
  have hown := HL1.out.own
  go_wp2_with (at_builtin; refine wpList_append_sees _ rfl (.tmp 5) (.tmp 8) 22 rfl w0.heap.size 5 i0 (.int .u8 0) 1 Try.underlying22 hi hz0 hz1 hz2 rfl v l.length (bts l) rfl hown W1.heap.size _ _ _ (bts (putS x.toNat)) rfl hsee (bts_length _) (bts_one _) ?c1 ?c2 ?c3 ?_)
  case c1 => have h9 : lenS x.toNat = (putS x.toNat).length := rfl; unfold maxLen; omega
  case c2 => have h9 : lenS x.toNat = (putS x.toNat).length := rfl; omega
  case c3 => exact hlo
  intro v2 W2 ho2 hg2
  have HL2 := Lib.hid (HL1.out.app rfl ho2 hg2)
  clear ho2 hg2 hown hsee
  go_wp2
  go_ret
  exact ⟨v2, rfl, HL2.out⟩

end Go.Proofs.Ytacmgfndmolnfaa
