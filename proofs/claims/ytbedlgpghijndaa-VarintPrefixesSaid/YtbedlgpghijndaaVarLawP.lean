/-
  The walk of the statement on prefixes of encodings and on encodings with a digit 0 added.
-/
import Derived.Test.YtbedlgpghijndaaVarAwake
import Derived.Test.YtbedlgpghijndaaVarAdd
import Derived.Test.YtbedlgpghijndaaVarMath2
namespace Go.Proofs.Ytbedlgpghijndaa
open Go.RowKit

set_option maxRecDepth 100000 in
set_option maxHeartbeats 400000 in
theorem VarintPrefixes_walk (a0 : Int) (a1 : Int) (w : World) (w0 : (Lit.int .u64 a0).wf = true) (w1 : (Lit.int .u8 a1).wf = true) :
    Calls Try.prog 6 #[.int .u64 a0, .int .u8 a1] w fun e w' => e = .returned (.bool true) ∧ Below w.heap.size w w' := by
  obtain ⟨u0, u1⟩ := u64_of_wf w0
  obtain ⟨b0, b1⟩ := u8_of_wf w1
  obtain ⟨m, rfl⟩ := Int.eq_ofNat_of_zero_le b0
  have hl1 : 1 ≤ lenS a0.toNat := putS_pos a0.toNat
  have hl2 : lenS a0.toNat ≤ 10 := putS_le a0.toNat
  have hk : m % lenS a0.toNat < lenS a0.toNat := Nat.mod_lt _ (by omega)
  clear w0 w1
  go_enter Try.func6, Try.ntmps6
  go_wp2_with fail
  refine (awake_any _).mono ?_
  rintro e W ⟨rfl, hb⟩
  go_wp2_with fail
  refine (rput_any _ _ u0 u1).mono ?_
  rintro e W2 ⟨g, c, rfl, ho, hb2⟩
  have s1 := Sees.of_own ho
  have hcap := (own_cap ho).1
  have hk1 : (m : Int) % (lenS a0.toNat : Int) ≤ (c : Int) := by
    have := Int.emod_lt_of_pos (m : Int) (show (0 : Int) < (lenS a0.toNat : Int) by omega)
    omega
  have hk0 : 0 ≤ (m : Int) % (lenS a0.toNat : Int) := Int.emod_nonneg _ (by omega)
  have hlen : ((putS a0.toNat).take (m % lenS a0.toNat)).length = m % lenS a0.toNat := by
    rw [List.length_take]
    unfold lenS at *
    omega
  have hg := get_any _ (some ⟨g, 0, none⟩) ((putS a0.toNat).take (m % lenS a0.toNat)) c W2 (by have := s1.take (k := m % lenS a0.toNat); unfold bts at *; rwa [List.map_take]) (fun x hx => putS_byt _ (by omega) x (List.mem_of_mem_take hx)) (by rw [hlen]; unfold maxLen; omega)
  rw [hlen, getS_prefix a0.toNat _ hk] at hg
  have HG := Lib.hid hg
  clear hg hlen s1
  go_wp2_with fail
  refine (HG.out).mono ?_
  rintro e W4 ⟨rfl, rfl⟩
  clear HG
  have s2 := Sees.of_own ho
  have hlast := putS_last a0.toNat (by omega)
  obtain ⟨x, hx128, hxl⟩ := hlast
  obtain ⟨i0, hi, hz0, hz1, hz2⟩ := info_parts Try.infoU8
  clear hk hk0 hk1 hcap ho
  go_wp2_with (at_builtin; refine wpList_append_sees _ rfl (.tmp 31) (.tmp 32) 23 rfl W2.heap.size 5 i0 (.int .u8 0) 1 Try.underlying23 hi hz0 hz1 hz2 rfl _ _ _ rfl (World.ownsRow_made W2 #[] 0 (Nat.le_refl _) (by decide) rfl) W2.heap.size _ _ _ (bts (putS a0.toNat)) rfl (s2.alloc (Nat.le_refl _) _) (bts_length _) (bts_one _) ?c1 ?c2 ?c3 ?_)
  case c1 => unfold maxLen; omega
  case c2 => omega
  case c3 => simp
  intro v1 W3 ho3 hg3
  have hb3 : Below W2.heap.size W2 W3 := ((Below.refl _ _).alloc (Nat.le_refl _) _).grown hg3 (by simp) (fun k hk => by simp [Value.ownBlock] at hk; omega)
  clear hg3 s2
  obtain ⟨g3, c3, rfl, hg3, _⟩ := ho3.form (by omega)
  have hcell : W3.cell? ⟨g3, lenS a0.toNat - 1, none⟩ = some (.int .u8 (x : Int)) := (ho3.cellAt _ (by omega)).trans (by rw [bts_get, hxl]; rfl)
  have hfr := ho3.frozenAt (lenS a0.toNat - 1)
  have hst := ho3.stored (lenS a0.toNat - 1) (.int .u8 ((x + 128 : Nat) : Int))
  rw [bts_set] at hst
  have ho4 : (W3.setCell ⟨g3, lenS a0.toNat - 1, none⟩ (.int .u8 ((x : Int) + 128))).ownsRow W2.heap.size 5 1 (.slice (some ⟨g3, 0, none⟩) (lenS a0.toNat) c3) (lenS a0.toNat) (bts ((putS a0.toNat).set (lenS a0.toNat - 1) (x + 128))) := hst.1
  have hb4 : Below W2.heap.size W2 (W3.setCell ⟨g3, lenS a0.toNat - 1, none⟩ (.int .u8 ((x : Int) + 128))) := hb3.setCell (p := ⟨g3, lenS a0.toNat - 1, none⟩) hg3 _
  have h3 := hb3.size
  have HX := Lib.hid hxl
  clear hst hxl ho3 hb3
  go_wp2_with (at_builtin; refine wpList_append_own _ rfl (.tmp 47) (.tmp 48) 23 rfl W2.heap.size 5 i0 (.int .u8 0) 1 1 Try.underlying23 hi hz0 hz1 hz2 rfl (by decide) _ _ _ rfl (ho4.alloc _) ⟨W3.heap.size, 0, none⟩ 1 1 (bts [0]) rfl rfl ?d1 (bts_one _) ?d3 ?d4 ?d5 ?_)
  case d1 =>
    have := one_new (w := W3.setCell ⟨g3, lenS a0.toNat - 1, none⟩ (.int .u8 ((x : Int) + 128))) (e := 5) (x := 0) (z := 0) rfl
    rwa [World.size_setCell] at this
  case d3 => unfold maxLen; omega
  case d4 => omega
  case d5 => simp; omega
  intro v5 W5 ho5 hg5 _
  have hb5 : Below W2.heap.size W2 W5 := (hb4.alloc (by simp; omega) _).grown hg5 (by simp; omega) (fun k hk => by simp [Value.ownBlock] at hk; omega)
  rw [← bts_append] at ho5
  clear hg5 ho4 hb4 hcell hfr
  obtain ⟨g5, c5, rfl, _, _⟩ := ho5.form (by omega)
  have hlen5 : ((putS a0.toNat).set (lenS a0.toNat - 1) (x + 128) ++ [0]).length = lenS a0.toNat + 1 := by simp [lenS]
  have hgl := get_any _ (some ⟨g5, 0, none⟩) ((putS a0.toNat).set (lenS a0.toNat - 1) (x + 128) ++ [0]) c5 W5 (Sees.of_own ho5) (fun y hy => by
    rcases List.mem_append.1 hy with h | h
    · rcases List.mem_or_eq_of_mem_set h with h | h
      · exact putS_byt _ (by omega) y h
      · omega
    · simp at h; omega) (by rw [hlen5]; unfold maxLen; omega)
  have hgs : getS ((putS a0.toNat).set (lenS a0.toNat - 1) (x + 128) ++ [0]) = (0, 0, 3) := getS_long a0.toNat x (by omega) HX.out
  rw [hlen5, hgs] at hgl
  have HG := Lib.hid hgl
  clear hgl hlen5 ho5 hgs
  go_wp2_with fail
  refine (HG.out).mono ?_
  rintro e W6 ⟨rfl, rfl⟩
  clear HG
  go_wp2_with fail
  go_ret
  exact ⟨rfl, (hb.trans (hb2.mono hb.size)).trans (hb5.mono (Nat.le_trans hb.size hb2.size))⟩

end Go.Proofs.Ytbedlgpghijndaa
