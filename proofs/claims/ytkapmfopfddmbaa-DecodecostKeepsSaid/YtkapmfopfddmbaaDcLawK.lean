/-
  The walk of the statement that the input is not modified.
-/
import Derived.Test.YtkapmfopfddmbaaDcAwk
import Derived.Test.YtkapmfopfddmbaaPk3
import Derived.Test.YtkapmfopfddmbaaPk1
namespace Go.Proofs.Ytkapmfopfddmbaa
open Go.RowKit Go.Deep
set_option linter.unusedVariables false
set_option linter.unusedSimpArgs false

set_option maxRecDepth 100000 in
set_option maxHeartbeats 4000000 in
theorem DecodecostKeeps_walk (a0 : Option Addr) (len0 cap0 : Nat) (z0 : List Int) (w : World) (w0 : IsRow .u8 w a0 len0 cap0 z0) :
    Calls Try.prog 6 #[.slice a0 len0 cap0] w fun e w' => e = .returned (.bool true) ∧ Below w.heap.size w w' := by
  obtain ⟨i0, hi0, hz0, hz1, hz2⟩ := info_parts infoU8
  have AW : Hid (∀ W, Calls Try.prog 7 #[] W fun e w' => e = .returned (.bool true) ∧ Below W.heap.size W w') := fun W => awake21_any W
  obtain ⟨l, rfl, hby, hs, hlc, hcm⟩ := w0.bytes
  clear w0
  have HS := Lib.hid hs
  have HBY := Lib.hid hby
  obtain ⟨n, hn⟩ : ∃ n, l.length = n := ⟨_, rfl⟩
  have HN := Lib.hid hn
  rw [hn] at hlc ⊢
  clear hs hby hn
  go_enter Try.func6, Try.ntmps6
  go_wp2_with fail
  refine (AW.out _).mono ?_
  rintro e W1 ⟨rfl, hb1⟩
  by_cases hlong : 3000 < n
  · go_wp2_with fail
    refine (AW.out _).mono ?_
    rintro e W9 ⟨rfl, hb9⟩
    go_wp2
    go_ret
    exact ⟨rfl, hb1.trans (hb9.mono hb1.size)⟩
  have HB1 := Lib.hid hb1
  clear hb1
  have HS1 := Lib.hid ((HS.out.below HB1.out).more HB1.out.size)
  go_wp2_with (at_builtin; refine wpList_append_sees _ rfl (.tmp 12) (.tmp 13) 22 rfl W1.heap.size 5 i0 (.int .u8 0) 1 Try.underlying22 hi0 hz0 hz1 hz2 rfl _ _ _ rfl (World.ownsRow_made W1 #[] 0 (Nat.le_refl _) (by decide) rfl) W1.heap.size _ _ _ (bts l) rfl (HS1.out.alloc (Nat.le_refl _) _) (by rw [bts_length]; exact HN.out) (bts_one _) ?c1 ?c2 ?c3 ?_)
  case c1 => unfold maxLen; omega
  case c2 => omega
  case c3 => simp
  intro v1 W2 ho1 hg1
  have hb2 : Below W1.heap.size W1 W2 := ((Below.refl _ _).alloc (Nat.le_refl _) _).grown hg1 (by simp) (fun k hk => by simp [Value.ownBlock] at hk; omega)
  obtain ⟨A1, c1, rfl, hl1, hm1⟩ := own_slice ho1 (by rw [bts_length]; exact HN.out)
  have HO2 := Lib.hid (Sees.of_own ho1)
  have HS2 := Lib.hid ((HS1.out.below hb2).more hb2.size)
  have HB2 := Lib.hid (HB1.out.trans (hb2.mono HB1.out.size))
  have C1 : Hid (Calls Try.prog 8 #[.slice A1 n c1] W2 (OfP W2 l)) := by
    have := pof21_any A1 l c1 W2 HO2.out HBY.out (by rw [HN.out]; omega) (by rw [HN.out]; exact hl1) hm1
    rw [HN.out] at this
    exact this
  clear ho1 hg1 hb2 HS1 HB1 HS
  go_wp2_with fail
  refine C1.out.mono ?_
  rintro e W3 ⟨rfl, hb⟩
  have C2 := Lib.hid (same_at l l true n n W3.heap.size A1 a0 c1 cap0 W3 (sameB_yes rfl) HN.out HN.out (by unfold maxLen; omega) (by unfold maxLen; omega) ((HO2.out.below hb).more hb.size) ((HS2.out.below hb).more hb.size))
  have HB3 := Lib.hid (HB2.out.trans (hb.mono HB2.out.size))
  clear C1 HO2 HS2 HB2 hb
  go_wp2_with fail
  refine C2.out.mono ?_
  rintro e W4 ⟨rfl, m4, rfl⟩
  go_wp2
  go_ret
  exact ⟨rfl, blw_drewN HB3.out m4⟩

end Go.Proofs.Ytkapmfopfddmbaa
