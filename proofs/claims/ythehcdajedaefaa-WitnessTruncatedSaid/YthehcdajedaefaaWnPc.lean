/-
  The program of layer 19: reading an invariant (getInvariant).
-/
import Derived.Test.YthehcdajedaefaaWnPb
namespace Go.Proofs.Ythehcdajedaefaa
open Go.RowKit
set_option linter.unusedVariables false
set_option linter.unusedSimpArgs false

theorem make_pr19 (n : Nat) (hn : n ≤ 1048576) : ∃ Z : Array Value, Z.size = n * 2 ∧ ∀ w, (Instr.makeSlice 53 (.int .i64 0) (.int .i64 (n : Int))).run Try.prog w = .ok (.slice (some ⟨w.heap.size, 0, none⟩) 0 n) (w.alloc (.cells Z 52)) := by
  obtain ⟨i, hi, hz, hs, hb⟩ := info_parts (show (Try.prog.info? 52).map (fun i => (i.zero, i.size, i.bytes)) = some (some (.agg #[.int .i64 0, .int .i64 0]), 2, 16) from by kernel_rfl)
  refine ⟨madeCells (Value.agg #[.int .i64 0, .int .i64 0]).cells (n * i.size), ?_, fun w => ?_⟩
  · rw [size_madeCells, hs]
  · have := run_make (P := Try.prog) w _ _ i _ Try.underlying53 hi hz .i64 .i64 0 n (by decide) (by omega) (by rw [hb]; omega) (by omega)
    simpa using this

/-- A list of pairs of one's own beside a cursor and the closure's pair before. -/
structure WI (w : World) (lo p : Nat) (l : List Nat) (A : Option Addr) (c : Nat) (t : Ip) (bb : Nat) (u : Value) (ps : List Pr) (W : World) : Prop where
  md : Mods (fun k => k = p ∨ k = bb) w W
  ce : CE lo p l A c t W
  own : W.ownsRow w.heap.size 52 2 u ps.length (prs ps)
  pw : p < w.heap.size ∧ bb < w.heap.size

section
variable {w W W' : World} {lo p : Nat} {l : List Nat} {A : Option Addr} {c : Nat} {t t' : Ip} {bb : Nat} {u u' : Value} {ps : List Pr}

theorem WI.next {S : Nat → Prop} (h : WI w lo p l A c t bb u ps W) (hm : Mods S W W') (hS : ∀ k, S k → k = p ∨ k = bb) (hc : CE lo p l A c t' W') : WI w lo p l A c t' bb u ps W' :=
  ⟨h.md.then hm fun k hk => .inl (hS k hk), hc, hm.ownS h.own fun k hk e => by have := ownS_lt h.own k hk; have := h.pw; have := hS k e; omega, h.pw⟩

/-- A pair has been appended. -/
theorem WI.app (h : WI w lo p l A c t bb u ps W) {a b : Int} {o : Obj} (ho : W'.ownsRow w.heap.size 52 2 u' (ps.length + 1) (prs ps ++ [.int .i64 a, .int .i64 b])) (hg : (W.alloc o).grownBy W' u.ownBlock) : WI w lo p l A c t bb u' (ps ++ [(a, b)]) W' := by
  have hm : Mods (fun k => u.ownBlock = some k) W W' := ((Mods.refl _ W).alloc o).grown hg fun k hk => .inl hk
  have hk : ∀ k, u.ownBlock = some k → w.heap.size ≤ k := fun k hk => (ownS_lt h.own k hk).1
  exact ⟨h.md.then hm fun k hh => .inr (hk k hh), h.ce.mods hm fun k hh => .inr (Nat.lt_of_lt_of_le h.pw.1 (hk k hh)), by rw [List.length_append, prs_snoc19']; exact ho, h.pw⟩

/-- What lies below the list stays when a pair is appended. -/
theorem WI.appBox (h : WI w lo p l A c t bb u ps W) {b : Nat} {vr r n q1 q2 : Int} (hr : RDB b bb p vr r n q1 q2 W) {o : Obj} (hg : (W.alloc o).grownBy W' u.ownBlock) : RDB b bb p vr r n q1 q2 W' :=
  hr.mods (((Mods.refl (fun k => u.ownBlock = some k) W).alloc o).grown hg fun k hk => .inl hk) fun k hh => by have := (ownS_lt h.own k hh).1; have := h.pw; omega

end

theorem ivE_room {vr r n tot : Int} {t : Ip} (h : 1048576 < tot + (cntE 2 t).1) : (ivE vr r n tot t).2 = failE 6 (cntE 2 t).2 ∧ (ivE vr r n tot t).2.err ≠ 0 := by
  have h1 : icE tot t = ((cntE 2 t).1, failE 6 (cntE 2 t).2) := by unfold icE; rw [if_pos h]
  have h2 : (ivE vr r n tot t).2 = failE 6 (cntE 2 t).2 := by
    unfold ivE
    rw [h1, prsE_err (failE_err (by decide))]
  exact ⟨h2, by rw [h2]; exact failE_err (by decide)⟩

theorem pr_one19' (a b : Int) : ∀ u ∈ [Value.int .i64 a, Value.int .i64 b], u.oneCell' = true := by
  intro u hu
  simp only [List.mem_cons, List.not_mem_nil, or_false] at hu
  rcases hu with rfl | rfl <;> rfl

/-- What the loop over the pairs knows. -/
def InvR (vr r n : Int) (FB : List Pr × Ip) (g : Nat) (ps : List Pr) (t : Ip) (b bb p : Nat) (W : World) : Prop :=
  (t.err = 0 → ∃ (f : Bool) (q : Pr), FB = (ps ++ (prsE vr r n g f q t).1, (prsE vr r n g f q t).2) ∧ PosP vr f q ∧ q.2 ≤ 4000000000 ∧ RDB b bb p vr r n q.1 (bf19 f q) W) ∧ (t.err ≠ 0 → FB.2 = t)

theorem InvR.done {vr r n : Int} {FB : List Pr × Ip} {ps : List Pr} {t : Ip} {b bb p : Nat} {W : World} (h : InvR vr r n FB 0 ps t b bb p W) : FB.2 = t ∧ (FB.2.err = 0 → ps = FB.1) := by
  by_cases h0 : t.err = 0
  · obtain ⟨f, q, h1, _⟩ := h.1 h0
    rw [h1]
    exact ⟨rfl, fun _ => (List.append_nil _).symm⟩
  · rw [h.2 h0]
    exact ⟨rfl, fun h9 => absurd h9 h0⟩

theorem InvR.bad {vr r n : Int} {FB : List Pr × Ip} {g : Nat} {ps : List Pr} {t : Ip} {b bb p : Nat} {W : World} (h : InvR vr r n FB g ps t b bb p W) (h0 : t.err ≠ 0) : FB.2 = t ∧ (FB.2.err = 0 → ps = FB.1) := by
  rw [h.2 h0]
  exact ⟨rfl, fun h9 => absurd h9 h0⟩

theorem InvR.more {vr r n : Int} {FB : List Pr × Ip} {g : Nat} {ps : List Pr} {t : Ip} {b bb p : Nat} {W : World} (h : InvR vr r n FB (g + 1) ps t b bb p W) (h0 : t.err = 0) (hb : Byt t.rest) (hr : r ≤ 1000000000) (hn : n ≤ 1000000000) :
    ∃ (f : Bool) (q : Pr), (PosP vr f q ∧ q.2 ≤ 4000000000 ∧ RDB b bb p vr r n q.1 (bf19 f q) W) ∧ ∀ (a : Pr) (W' : World), ((pairE vr r n f q t).2.err = 0 → a = (pairE vr r n f q t).1 ∧ RDB b bb p vr r n a.1 a.2 W') → InvR vr r n FB g (ps ++ [a]) (pairE vr r n f q t).2 b bb p W' := by
  obtain ⟨f, q, h1, h2, h3, h4⟩ := h.1 h0
  refine ⟨f, q, ⟨h2, h3, h4⟩, fun a W' ha => ?_⟩
  have e9 : prsE vr r n (g + 1) f q t = ((pairE vr r n f q t).1 :: (prsE vr r n g false (pairE vr r n f q t).1 (pairE vr r n f q t).2).1, (prsE vr r n g false (pairE vr r n f q t).1 (pairE vr r n f q t).2).2) := if_neg fun hh => hh h0
  rw [e9] at h1
  refine ⟨fun h9 => ?_, fun h9 => by rw [h1, prsE_err h9]⟩
  obtain ⟨rfl, h5⟩ := ha h9
  obtain ⟨h6, h7⟩ := pairE_pos h2 hb hr hn h9
  exact ⟨false, _, by rw [h1]; simp only [List.append_assoc, List.singleton_append], h6, h7, h5⟩

/-- What reading an invariant leaves. -/
def RInv (lo p : Nat) (l : List Nat) (A : Option Addr) (c bb : Nat) (FB : List Pr × Ip) (w : World) (e : Ending) (w' : World) : Prop :=
  ∃ u ps, e = .returned u ∧ WI w lo p l A c FB.2 bb u ps w' ∧ (FB.2.err = 0 → ps = FB.1) ∧ ps.length ≤ 1048576

set_option maxRecDepth 100000 in
set_option maxHeartbeats 8000000 in
theorem ginv19_ce {w : World} {lo p : Nat} {l : List Nat} {A : Option Addr} {c : Nat} {s : Ip} (h : CE lo p l A c s w) {b bb : Nat} {vr r n : Int} (hb : RDB b bb p vr r n 0 (-1) w) (hpb : p < b) (hvr : 0 ≤ vr ∧ vr ≤ 1000000) (hr : 0 ≤ r ∧ r ≤ 1000000) (hn : 0 ≤ n ∧ n ≤ 1000000) {tot : Int} (ht : 0 ≤ tot ∧ tot ≤ 1048576) :
    Calls Try.prog 23 #[.pointer (some ⟨p, 0, none⟩), .int .i64 (1048576 - tot), .func (.func 36) #[] #[.pointer (some ⟨b, 0, none⟩), .pointer (some ⟨bb, 0, none⟩), .pointer (some ⟨b + 1, 0, none⟩), .pointer (some ⟨b + 2, 0, none⟩), .pointer (some ⟨b + 3, 0, none⟩)]] w
      (RInv lo p l A c bb (ivE vr r n tot s) w) := by
  obtain ⟨i0, hi0, hz0, hz1, hz2⟩ := info_parts (show (Try.prog.info? 52).map (fun i => (i.zero, i.size, i.bytes)) = some (some (.agg #[.int .i64 0, .int .i64 0]), 2, 16) from by kernel_rfl)
  obtain ⟨⟨k, sn⟩, hN⟩ : ∃ y, cntE 2 s = y := ⟨_, rfl⟩
  have rn : 0 ≤ k ∧ k ≤ 1048576 := by have := cntE_rng (k := 2) (s := s); rw [hN] at this; exact this
  have C1 := Lib.hid (count_ce h 2 (by decide) (by decide))
  rw [hN] at C1
  have HB := Lib.hid hb
  have HP : Hid (p < w.heap.size ∧ bb < w.heap.size) := ⟨h.lt, hb.lt⟩
  have HR1 : Hid (1048576 < tot + k → (ivE vr r n tot s).2 = failE 6 sn ∧ (ivE vr r n tot s).2.err ≠ 0) := fun h9 => by
    have := ivE_room (vr := vr) (r := r) (n := n) (tot := tot) (t := s) (by rw [hN]; exact h9)
    rw [hN] at this
    exact this
  have HR2 : Hid (¬ 1048576 < tot + k → ivE vr r n tot s = prsE vr r n k.toNat true (0, 0) sn) := fun h9 => by
    show _ = _
    unfold ivE icE
    rw [hN, if_neg h9]
  obtain ⟨FB, hFB⟩ : ∃ y, ivE vr r n tot s = y := ⟨_, rfl⟩
  rw [hFB] at HR1 HR2 ⊢
  clear h hb hN hFB
  obtain ⟨k, rfl⟩ : ∃ k' : Nat, k = (k' : Int) := ⟨k.toNat, by omega⟩
  rw [Int.toNat_natCast] at HR2
  obtain ⟨Z, hZ, hmk⟩ := make_pr19 k (by omega)
  have hpp : Hid (∀ W b2, RDB b bb p vr r n 0 b2 W → p ≠ bb) := fun W b2 hh => by have := hh.xb; omega
  go_enter Try.func23, Try.ntmps23
  go_wp2_with fail
  refine C1.out.mono ?_
  rintro e W1 ⟨rfl, hm, hc⟩
  have HM1 := Lib.hid hm
  have HC1 := Lib.hid hc
  have HB1 := Lib.hid (HB.out.mods hm fun k hk => by unfold Is at hk; omega)
  clear hm hc C1 HB
  by_cases hroom : 1048576 - tot < (k : Int)
  · have C2 := Lib.hid (fail_ceE HC1.out 6 (by decide))
    obtain ⟨e1, e2⟩ := HR1.out (by omega)
    have HE := Lib.hid e1
    have HE2 := Lib.hid e2
    clear HR1 HR2 e1 e2
    go_wp2_with fail
    refine C2.out.mono ?_
    rintro e W2 ⟨rfl, hm, hc⟩
    have HM2 := Lib.hid (HM1.out.trans hm)
    have HC2 := Lib.hid hc
    rw [← HE.out] at HC2
    clear hm hc C2
    go_wp2
    go_ret
    exact ⟨_, [], rfl, ⟨HM2.out.mono fun k hk => .inl hk, HC2.out, ⟨by simp [prs], .inl ⟨rfl, rfl⟩⟩, HP.out⟩, fun h9 => absurd h9 HE2.out, by decide⟩
  · have HE := Lib.hid (HR2.out (by omega))
    have HL : Hid (WI w lo p l A c sn bb (.slice (some ⟨W1.heap.size, 0, none⟩) 0 k) [] (W1.alloc (.cells Z 52))) :=
      ⟨(HM1.out.mono fun k hk => .inl hk).alloc _, HC1.out.alloc _, ⟨by simp [prs], .inr ⟨W1.heap.size, k, Z, rfl, HM1.out.size, heap_alloc_new W1 _, Nat.zero_le _, by unfold maxLen; omega, hZ, by simp [prs]⟩⟩, HP.out⟩
    have HB2 := Lib.hid (HB1.out.mods ((Mods.refl No W1).alloc (.cells Z 52)) fun _ hk => hk.elim)
    clear HR1 HR2 HM1 HC1 HB1 hZ
    go_wp2
    generalize (W1.alloc (.cells Z 52)) = W2 at *
    generalize W1.heap.size = b1 at *
    go_loopg [8] k (fun g v8 wr => ∃ (t : Ip) (ps : List Pr), ps.length + g = k ∧ Hid (InvR vr r n FB g ps t b bb p wr) ∧ Hid (WI w lo p l A c t bb v8 ps wr))
    case atStart => exact ⟨sn, [], by simp, ⟨fun _ => ⟨true, (0, 0), by rw [HE.out]; rfl, .inl ⟨rfl, rfl⟩, by decide, HB2.out⟩, fun h9 => by rw [HE.out, prsE_err h9]⟩, HL.out⟩
    case round =>
      clear HE HL HB2
      obtain ⟨t, ps, hmk, HI, HL⟩ := hrel
      obtain ⟨Av, cv, rfl, _, _⟩ := ownS_slice HL.out.own
      cases gk with
      | zero =>
        have hlt : ¬ (ps.length : Int) < (k : Int) := by omega
        obtain ⟨e1, e2⟩ := HI.out.done
        have HE1 := Lib.hid e1; have HE2 := Lib.hid e2
        clear e1 e2
        go_wp2
        go_ret
        exact ⟨_, ps, rfl, by rw [HE1.out]; exact HL.out, HE2.out, by omega⟩
      | succ g =>
        have hlt : (ps.length : Int) < (k : Int) := by omega
        have C1 := Lib.hid (err_ce HL.out.ce)
        by_cases he : t.err = 0
        · have d0 : (t.err == 0) = true := by simp [he]
          obtain ⟨f, q, ⟨q1, q2, q3⟩, hi⟩ := HI.out.more he (HL.out.ce.byt he) (by omega) (by omega)
          have C2 := Lib.hid (rd1_any HL.out.ce q3 hpb hvr hr hn q1 q2)
          obtain ⟨⟨pr, t2⟩, hx⟩ : ∃ y, pairE vr r n f q t = y := ⟨_, rfl⟩
          rw [hx] at hi C2
          have HI2 := Lib.hid hi
          dsimp only at HI2 C2
          clear he hx hi HI q1 q2 q3
          go_wp2_with fail
          refine C1.out.mono ?_
          rintro e W ⟨rfl, rfl⟩
          clear C1
          go_wp2_with fail
          refine C2.out.mono ?_
          rintro e W3 ⟨a1, a2, rfl, hm, hc, hbx, hok⟩
          have HL3 := Lib.hid (HL.out.next hm (fun k hk => hk) hc)
          have HB3 := Lib.hid hbx
          have HOK := Lib.hid hok
          clear hm hc hbx hok C2 HL
          have hown : (W3.alloc (.cells #[.int .i64 a1, .int .i64 a2] 52)).ownsRow w.heap.size 52 2 (.slice Av ps.length cv) ps.length (prs ps) := ((Mods.refl No W3).alloc _).ownS HL3.out.own fun _ _ hk => hk.elim
          have hnew := sees_new W3 #[.int .i64 a1, .int .i64 a2] 52
          go_wp2_with (at_builtin; refine wpList_append_any _ rfl (.tmp 27) (.tmp 30) 53 rfl w.heap.size 52 i0 (.agg #[.int .i64 0, .int .i64 0]) 2 16 Try.underlying53 hi0 hz0 hz1 hz2 rfl (by decide) _ _ _ rfl hown (W3.heap.size + 1) _ 1 1 _ rfl hnew rfl (pr_one19' a1 a2) ?c1 ?c2 ?c3 ?_)
          case c1 => unfold maxLen; omega
          case c2 => omega
          case c3 => have := HL3.out.md.size; simp; omega
          intro v2 W4 ho2 hg2 hb2
          have HL4 := Lib.hid (HL3.out.app ho2 hg2)
          have HB4 := Lib.hid (HL3.out.appBox HB3.out hg2)
          have HI4 := Lib.hid (HI2.out (a1, a2) W4 fun h9 => ⟨HOK.out h9, HB4.out⟩)
          clear ho2 hg2 hb2 hown hnew HL3 HB3 HB4 HOK HI2
          go_wp2
          go_roundg g
          case measure => omega
          case rel => exact ⟨t2, ps ++ [(a1, a2)], by rw [List.length_append]; simp only [List.length_cons, List.length_nil]; omega, HI4.out, HL4.out⟩
        · have d0 : (t.err == 0) = false := by simp [he]
          obtain ⟨e1, e2⟩ := HI.out.bad he
          have HE1 := Lib.hid e1; have HE2 := Lib.hid e2
          clear e1 e2 he
          go_wp2_with fail
          refine C1.out.mono ?_
          rintro e W ⟨rfl, rfl⟩
          clear C1
          go_wp2
          go_ret
          exact ⟨_, ps, rfl, by rw [HE1.out]; exact HL.out, HE2.out, by omega⟩

end Go.Proofs.Ythehcdajedaefaa
