/-
  The program of layer 19: Get.
-/
import Derived.Test.YthehcdajedaefaaWnPc
namespace Go.Proofs.Ythehcdajedaefaa
open Go.RowKit
set_option linter.unusedVariables false
set_option linter.unusedSimpArgs false

theorem make_pl19 (n : Nat) (hn : n ≤ 1000000) : ∃ Z : Array Value, Z.size = n * 1 ∧ ∀ w, (Instr.makeSlice 27 (.int .i64 0) (.int .i64 (n : Int))).run Try.prog w = .ok (.slice (some ⟨w.heap.size, 0, none⟩) 0 n) (w.alloc (.cells Z 53)) := by
  obtain ⟨i, hi, hz, hs, hb⟩ := info_parts infoPl
  refine ⟨madeCells (Value.slice none 0 0).cells (n * i.size), ?_, fun w => ?_⟩
  · rw [size_madeCells, hs]
  · have := run_make (P := Try.prog) w _ _ i _ Try.underlying27 hi hz .i64 .i64 0 n (by decide) (by omega) (by rw [hb]; omega) (by omega)
    simpa using this

theorem WP.new {w W : World} {lo p : Nat} {l : List Nat} {A : Option Addr} {c : Nat} {t : Ip} (h : CE lo p l A c t w) (hb : Below w.heap.size w W) (n : Nat) (Z : Array Value) (hZ : Z.size = n * 1) (hn : n ≤ 1000000) : WP w lo p l A c t (.slice (some ⟨W.heap.size, 0, none⟩) 0 n) [] (W.alloc (.cells Z 53)) :=
  ⟨(Mods.of_below hb).alloc _, (h.mods (S := No) (Mods.of_below hb) fun _ hk => hk.elim).alloc _, ⟨[], ⟨⟨by simp, .inr ⟨W.heap.size, n, Z, rfl, hb.size, heap_alloc_new W _, Nat.zero_le _, by unfold maxLen; omega, hZ, by simp⟩⟩, rfl, fun i u x hu => by simp at hu, fun i j u u' g hu => by simp at hu⟩⟩, h.lt⟩

theorem WP.pair {w W W2 W3 : World} {lo p : Nat} {l : List Nat} {A : Option Addr} {c : Nat} {t t2 : Ip} {v u : Value} {xs : List (List Pr)} {bb : Nat} {ps : List Pr} (h : WP w lo p l A c t v xs W) (hb : Below W.heap.size W W2) (hbb : W.heap.size ≤ bb) (hi : WI W2 lo p l A c t2 bb u ps W3) : WQ w W W2.heap.size lo p l A c t2 v xs u ps W3 :=
  ⟨⟨t, h⟩, (Mods.of_below hb).then hi.md fun k hk => by rcases hk with rfl | rfl; exact .inl rfl; exact .inr hbb, hi.ce, hi.own, hb.size⟩

theorem left_ce {w : World} {lo p : Nat} {l : List Nat} {A : Option Addr} {c : Nat} {t : Ip} (h : CE lo p l A c t w) : Calls Try.prog 13 #[.pointer (some ⟨p, 0, none⟩)] w fun e w' => ∃ k : Nat, e = .returned (.int .i64 k) ∧ k ≤ l.length ∧ Below w.heap.size w w' := by
  obtain ⟨i, hc, _⟩ := h
  refine (left_any hc).mono ?_
  rintro e w' ⟨rfl, m, rfl⟩
  refine ⟨(leftS l.length i t.err).toNat, ?_, ?_, blw_drewN (Below.refl _ _) m⟩
  · have h9 : 0 ≤ leftS l.length i t.err := by have := hc.le; unfold leftS; split <;> omega
    rw [Int.toNat_of_nonneg h9]
  · unfold leftS; split <;> omega

theorem ivE_len {vr r n tot : Int} {t : Ip} (h : (ivE vr r n tot t).2.err = 0) : ((ivE vr r n tot t).1.length : Int) = (icE tot t).1 ∧ tot + (icE tot t).1 ≤ 1048576 := by
  by_cases h9 : 1048576 < tot + (cntE 2 t).1
  · exact absurd h (ivE_room h9).2
  · have h1 := (prsE_lenW (vr := vr) (r := r) (n := n) (icE tot t).1.toNat true (0, 0) (icE tot t).2).2 h
    have h2 := icE_nn (tot := tot) (s := t)
    have h3 : (ivE vr r n tot t).1.length = (icE tot t).1.toNat := h1
    exact ⟨by omega, by show tot + (cntE 2 t).1 ≤ _; omega⟩

/-- What the loop over the invariants knows. -/
def GetR (vr r n : Int) (FB : List (List Pr) × Ip) (g : Nat) (xs : List (List Pr)) (t : Ip) (room : Int) : Prop :=
  (t.err = 0 → ∃ tot, (0 ≤ tot ∧ tot ≤ 1048576) ∧ room = 1048576 - tot ∧ FB = (xs ++ (ivsE vr r n g tot t).1, (ivsE vr r n g tot t).2)) ∧ (t.err ≠ 0 → FB.2 = t)

theorem GetR.done {vr r n : Int} {FB : List (List Pr) × Ip} {xs : List (List Pr)} {t : Ip} {room : Int} (h : GetR vr r n FB 0 xs t room) (h0 : t.err = 0) : FB = (xs, t) := by
  obtain ⟨tot, _, _, h1⟩ := h.1 h0
  rw [h1]
  exact Prod.ext (List.append_nil _) rfl

theorem GetR.more {vr r n : Int} {FB : List (List Pr) × Ip} {g : Nat} {xs : List (List Pr)} {t : Ip} {room : Int} (h : GetR vr r n FB (g + 1) xs t room) (h0 : t.err = 0) :
    ∃ tot, (0 ≤ tot ∧ tot ≤ 1048576) ∧ room = 1048576 - tot ∧ ∀ ps : List Pr, ((ivE vr r n tot t).2.err = 0 → ps = (ivE vr r n tot t).1) → GetR vr r n FB g (xs ++ [ps]) (ivE vr r n tot t).2 (room - ps.length) := by
  obtain ⟨tot, ht, hr, h1⟩ := h.1 h0
  refine ⟨tot, ht, hr, fun ps hp => ?_⟩
  have e9 : ivsE vr r n (g + 1) tot t = ((ivE vr r n tot t).1 :: (ivsE vr r n g (tot + (icE tot t).1) (ivE vr r n tot t).2).1, (ivsE vr r n g (tot + (icE tot t).1) (ivE vr r n tot t).2).2) := if_neg fun hh => hh h0
  rw [e9] at h1
  refine ⟨fun h9 => ?_, fun h9 => by rw [h1, ivsE_err h9]⟩
  obtain ⟨l1, l2⟩ := ivE_len h9
  have l3 := icE_nn (tot := tot) (s := t)
  rw [hp h9]
  exact ⟨tot + (icE tot t).1, by omega, by omega, by rw [h1]; simp only [List.append_assoc, List.singleton_append]⟩

/-- What Get leaves. -/
def RGet (lo p : Nat) (l : List Nat) (A : Option Addr) (c : Nat) (zs : List (List Pr)) (t : Ip) (w : World) (e : Ending) (w' : World) : Prop :=
  ∃ v vs, e = .returned v ∧ NestV pshp w' w.heap.size v vs zs ∧ Mods (Is p) w w' ∧ CE lo p l A c t w'

set_option maxRecDepth 100000 in
set_option maxHeartbeats 16000000 in
theorem pget19_ce {w : World} {lo p : Nat} {l : List Nat} {A : Option Addr} {c : Nat} {s : Ip} (h : CE lo p l A c s w) {m vr r n : Int} (hl : l.length ≤ 1000000) (hm : 0 ≤ m ∧ m ≤ 100000) (hvr : 0 ≤ vr ∧ vr ≤ 1000000) (hr : 0 ≤ r ∧ r ≤ 1000000) (hn : 0 ≤ n ∧ n ≤ 1000000) {zs : List (List Pr)} {t : Ip} (hf : getE19 vr r n m.toNat s = (zs, t)) :
    Calls Try.prog 9 #[.pointer (some ⟨p, 0, none⟩), .int .i64 m, .int .i64 vr, .int .i64 r, .int .i64 n] w (RGet lo p l A c zs t w) := by
  obtain ⟨i1, hi1, hy0, hy1, hy2⟩ := info_parts infoPl
  obtain ⟨FB, hFB⟩ : ∃ y, ivsE vr r n m.toNat 0 s = y := ⟨_, rfl⟩
  have EB : Hid (ivsE vr r n m.toNat 0 s = FB) := hFB
  have EBad : Hid (FB.2.err ≠ 0 → zs = [] ∧ t = FB.2) := fun h9 => by
    unfold getE19 at hf
    rw [hFB, if_pos h9] at hf
    injection hf with h1 h2
    exact ⟨h1.symm, h2.symm⟩
  have EOk : Hid (FB.2.err = 0 → FB = (zs, t)) := fun h9 => by
    unfold getE19 at hf
    rw [hFB, if_neg (fun hh => hh h9)] at hf
    exact hf
  clear hFB hf
  have HC := Lib.hid h
  have HLL := Lib.hid hl
  have C1 := Lib.hid (left_ce h)
  clear h hl
  obtain ⟨M, rfl⟩ : ∃ M : Nat, m = (M : Int) := ⟨m.toNat, by omega⟩
  rw [Int.toNat_natCast] at EB
  obtain ⟨Zm, hZm, hmkm⟩ := make_pl19 M (by omega)
  obtain ⟨Z0, hZ0, hmk0⟩ := make_pl19 0 (by omega)
  have HZm := Lib.hid hZm; have HZ0 := Lib.hid hZ0
  clear hZm hZ0
  have hmk0' : ∀ w, (Instr.makeSlice 27 (.int .i64 0) (.int .i64 0)).run Try.prog w = .ok (.slice (some ⟨w.heap.size, 0, none⟩) 0 0) (w.alloc (.cells Z0 53)) := hmk0
  clear hmk0
  go_enter Try.func9, Try.ntmps9
  go_upto_region 1 with fail
  go_cut [11] from 14 (fun s11 wx => Hid (WP w lo p l A c s s11 [] wx))
  case first =>
    go_wp2_with fail
    refine C1.out.mono ?_
    rintro e W1 ⟨k, rfl, hk, hb⟩
    have hkl := HLL.out
    obtain ⟨Zk, hZk, hmkk⟩ := make_pl19 k (by omega)
    have HZk := Lib.hid hZk
    have HK := Lib.hid hk
    have HB1 := Lib.hid hb
    clear hk hb hZk
    go_wp2_with fail
    all_goals
      go_meet
      case rel => first | exact WP.new HC.out HB1.out 0 Z0 HZ0.out (by omega) | exact WP.new HC.out HB1.out M Zm HZm.out (by omega) | exact WP.new HC.out HB1.out k Zk HZk.out (by have := HLL.out; have := HK.out; omega)
  case rest =>
    have HP0 := hcut
    clear hcut C1 HC HLL hmkm hmk0' HZm HZ0
    go_wp2
    go_loopg [11, 12] M (fun g v11 v12 wr => ∃ (t1 : Ip) (room : Int) (xs : List (List Pr)), xs.length + g = M ∧ v12 = .int .i64 room ∧ (-2097152 ≤ room ∧ room ≤ 1048576) ∧ Hid (GetR vr r n FB g xs t1 room) ∧ Hid (WP w lo p l A c t1 v11 xs wr))
    case atStart => exact ⟨s, 1048576, [], by simp, rfl, by omega, ⟨fun _ => ⟨0, by omega, by omega, EB.out.symm⟩, fun h9 => by rw [← EB.out, ivsE_err h9]⟩, HP0.out⟩
    case round =>
      clear HP0 EB
      obtain ⟨t1, room, xs, hig, rfl, hroom, HI, HP⟩ := hrel
      obtain ⟨vs0, hn0⟩ := HP.out.nst
      obtain ⟨Av, cv, hv, _, _⟩ := ownS_slice hn0.outer
      rw [hn0.len] at hv
      subst hv
      clear hn0
      have C1 := Lib.hid (err_ce HP.out.ce)
      cases gk with
      | zero =>
        have hin : ¬ (xs.length : Int) < (M : Int) := by omega
        by_cases he : t1.err ≠ 0
        · have d1 : (t1.err != 0) = true := by simp [he]
          obtain ⟨hz, htt⟩ := EBad.out (by rw [HI.out.2 he]; exact he)
          rw [HI.out.2 he] at htt
          have HZ := Lib.hid hz; have HTT := Lib.hid htt
          clear he hz htt HI
          go_wp2_with fail
          refine C1.out.mono ?_
          rintro e W ⟨rfl, rfl⟩
          go_wp2
          go_ret
          exact ⟨_, [], rfl, by rw [HZ.out]; exact NestV.nil _ _, HP.out.md, by rw [HTT.out]; exact HP.out.ce⟩
        · have he : t1.err = 0 := by omega
          have d1 : (t1.err != 0) = false := by simp [he]
          have hF := HI.out.done he
          have hF2 := EOk.out (by rw [hF]; exact he)
          rw [hF] at hF2
          injection hF2 with hx htt
          have HZ := Lib.hid hx; have HTT := Lib.hid htt
          clear he hx htt hF HI
          obtain ⟨vs, hn0⟩ := HP.out.nst
          have HNN := Lib.hid hn0
          clear hn0
          go_wp2_with fail
          refine C1.out.mono ?_
          rintro e W ⟨rfl, rfl⟩
          go_wp2
          go_ret
          exact ⟨_, vs, rfl, by rw [← HZ.out]; exact HNN.out, HP.out.md, by rw [← HTT.out]; exact HP.out.ce⟩
      | succ g =>
        have hin : (xs.length : Int) < (M : Int) := by omega
        by_cases he : t1.err ≠ 0
        · have d1 : (t1.err != 0) = true := by simp [he]
          have d0 : (t1.err == 0) = false := by simp [he]
          obtain ⟨hz, htt⟩ := EBad.out (by rw [HI.out.2 he]; exact he)
          rw [HI.out.2 he] at htt
          have HZ := Lib.hid hz; have HTT := Lib.hid htt
          clear he hz htt HI
          go_wp2_with fail
          refine C1.out.mono ?_
          rintro e W ⟨rfl, rfl⟩
          go_wp2_with fail
          refine C1.out.mono ?_
          rintro e W ⟨rfl, rfl⟩
          go_wp2
          go_ret
          exact ⟨_, [], rfl, by rw [HZ.out]; exact NestV.nil _ _, HP.out.md, by rw [HTT.out]; exact HP.out.ce⟩
        · have he : t1.err = 0 := by omega
          have d0 : (t1.err == 0) = true := by simp [he]
          obtain ⟨tot, ht, hrt, hmore⟩ := HI.out.more he
          subst hrt
          have HM := Lib.hid hmore
          have C2 := Lib.hid (reader_any p vr r n wr)
          have C3 := Lib.hid fun (W2 : World) (bb : Nat) (hb : Below wr.heap.size wr W2) (hx : RDB wr.heap.size bb p vr r n 0 (-1) W2) => ginv19_ce (HP.out.ce.mods (S := No) (Mods.of_below hb) fun _ hk => hk.elim) hx HP.out.ce.lt hvr hr hn ht
          obtain ⟨⟨pz, t2⟩, hpz⟩ : ∃ y, ivE vr r n tot t1 = y := ⟨_, rfl⟩
          rw [hpz] at HM C3
          clear he HI hmore hpz
          go_wp2_with fail
          refine C1.out.mono ?_
          rintro e W ⟨rfl, rfl⟩
          clear C1
          go_wp2_with fail
          refine C2.out.mono ?_
          rintro e W2 ⟨bb, rfl, hx, hb⟩
          have C4 := Lib.hid (C3.out W2 bb hb hx)
          have HBB : Hid (wr.heap.size ≤ bb) := by have := hx.xb; show _ ≤ _; omega
          have HB2 := Lib.hid hb
          clear hx hb C2 C3
          go_wp2_with fail
          refine C4.out.mono ?_
          rintro e W3 ⟨u, ps, rfl, hw, hp, hln⟩
          obtain ⟨Ac, cc, rfl, _, _⟩ := ownS_slice hw.own
          have HQ := Lib.hid (HP.out.pair HB2.out HBB.out hw)
          have HR := Lib.hid (HM.out ps hp)
          clear hw hp C4 HM
          obtain ⟨vs, hn⟩ := HP.out.nst
          have hpz := HQ.out.pz
          have HN := Lib.hid hn
          have hvl := hn.len
          have hon := (hn.mods HQ.out.md fun k h1 _ h2 => by unfold Is at h2; have := HP.out.ce.lt; have := HP.out.pw; omega).outer
          have hown : (W3.alloc (.cells #[.slice Ac ps.length cc] 53)).ownsRow w.heap.size 53 1 (.slice Av xs.length cv) xs.length ((vs.zip xs).flatMap fun p => pshp.oc p.1 p.2) := by
            have h9 := ((Mods.refl No W3).alloc (.cells #[.slice Ac ps.length cc] 53)).ownS hon fun _ _ hk => hk.elim
            rw [hvl] at h9
            exact h9
          have hnew := sees_new W3 #[.slice Ac ps.length cc] 53
          have HVL := Lib.hid hvl
          clear hn hon hvl
          go_wp2_with (at_builtin; refine wpList_append_any _ rfl (.tmp 41) (.tmp 43) 27 rfl w.heap.size 53 i1 (.slice none 0 0) 1 24 Try.underlying27 hi1 hy0 hy1 hy2 rfl (by decide) _ _ _ rfl hown (W3.heap.size + 1) _ 1 1 _ rfl hnew rfl (poc_one ps Ac ps.length cc) ?c1 ?c2 ?c3 ?_)
          case c1 => unfold maxLen; omega
          case c2 => omega
          case c3 => (try rw [World.size_alloc]); omega
          intro v5 W5 ho hg _
          have HP7 := Lib.hid (HQ.out.fin HN.out (by rw [HVL.out]; exact ho) hg)
          clear hown hnew ho hg HQ HN HVL HP
          go_wp2
          go_roundg g
          case measure => omega
          case rel => exact ⟨t2, 1048576 - tot - ps.length, xs ++ [ps], by rw [List.length_append]; simp only [List.length_cons, List.length_nil]; omega, by go_num, by omega, HR.out, HP7.out⟩

end Go.Proofs.Ythehcdajedaefaa
