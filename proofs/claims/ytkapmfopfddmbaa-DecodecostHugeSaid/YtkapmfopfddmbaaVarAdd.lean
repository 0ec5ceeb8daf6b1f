/-
  The concatenation in the reference: a new slice with both contents; nothing that was there turns.
-/
import Derived.Test.YtkapmfopfddmbaaPk1
namespace Go.Proofs.Ytkapmfopfddmbaa
open Go.RowKit

theorem Try.infoU8b : (Try.prog.info? 5).map (fun i => (i.zero, i.size, i.bytes)) = some (some (.int .u8 0), 1, 1) := by kernel_rfl

set_option maxRecDepth 100000 in
set_option maxHeartbeats 1000000 in
theorem add_any (A A' : Option Addr) (l r : List Nat) (c c' : Nat) (w : World) (hs : Sees w w.heap.size A (bts l)) (hs' : Sees w w.heap.size A' (bts r)) (hm : l.length + r.length ≤ 100000000) :
    Calls Try.prog 11 #[.slice A l.length c, .slice A' r.length c'] w fun e w' => ∃ A1 c1, e = .returned (.slice A1 (l ++ r).length c1) ∧
      w'.ownsRow w.heap.size 5 1 (.slice A1 (l ++ r).length c1) (l ++ r).length (bts (l ++ r)) ∧ Below w.heap.size w w' := by
  obtain ⟨i0, hi, hz0, hz1, hz2⟩ := info_parts Try.infoU8b
  go_enter Try.func11, Try.ntmps11
  go_wp2_with (at_builtin; refine wpList_append_sees _ rfl (.tmp 5) (.tmp 6) 22 rfl w.heap.size 5 i0 (.int .u8 0) 1 Try.underlying22 hi hz0 hz1 hz2 rfl _ _ _ rfl (World.ownsRow_made w #[] 0 (Nat.le_refl _) (by decide) rfl) w.heap.size _ _ _ (bts l) rfl (hs.alloc (Nat.le_refl _) _) (bts_length l) (bts_one l) ?c1 ?c2 ?c3 ?_)
  case c1 => unfold maxLen; omega
  case c2 => omega
  case c3 => simp
  intro v1 w1 hown1 hgr1
  have hb1 : Below w.heap.size w w1 := ((Below.refl _ _).alloc (Nat.le_refl _) _).grown hgr1 (by simp) (fun k hk => by simp [Value.ownBlock] at hk; omega)
  have hs2 := hs'.below hb1
  clear hs hs' hgr1
  go_wp2_with (at_builtin; refine wpList_append_sees _ rfl (.tmp 7) (.tmp 8) 22 rfl w.heap.size 5 i0 (.int .u8 0) 1 Try.underlying22 hi hz0 hz1 hz2 rfl _ _ _ rfl hown1 w.heap.size _ _ _ (bts r) rfl hs2 (bts_length r) (bts_one r) ?d1 ?d2 ?d3 ?_)
  case d1 => unfold maxLen; omega
  case d2 => omega
  case d3 => exact hb1.size
  intro v2 w2 hown2 hgr2
  have hb2 : Below w.heap.size w w2 := hb1.grown hgr2 hb1.size (fun k hk => (hown1.lt k hk).1)
  rw [← bts_append, ← List.length_append] at hown2
  clear hown1 hgr2 hs2
  go_wp2
  go_ret
  rcases hown2.2 with ⟨hv, h0⟩ | ⟨g, cap, cur, hv, _⟩
  · subst hv
    exact ⟨none, 0, by rw [h0]; rfl, by rw [h0] at hown2 ⊢; exact hown2, hb2⟩
  · subst hv
    exact ⟨_, cap, rfl, hown2, hb2⟩

end Go.Proofs.Ytkapmfopfddmbaa
