import Derived.Test.YtkapmfopfddmbaaPk21
import Derived.Test.YtkapmfopfddmbaaPk18
import Derived.Test.YtkapmfopfddmbaaPk2
import Derived.Deep.LoopGhost
import Derived.Deep.Cut
import Derived.Deep.CutRange
import Derived.BigRegion

/-
  The reference of layer 19: Get.
-/
namespace Go.Proofs.Ytkapmfopfddmbaa
open Go.RowKit
set_option linter.unusedVariables false
set_option linter.unusedSimpArgs false

theorem infoPr19 : (Try.prog.info? 112).map (fun i => (i.zero, i.size, i.bytes)) = some (some (.agg #[.int .i64 0, .int .i64 0]), 2, 16) := by kernel_rfl

theorem pr_one19 (p1 p2 : Int) : ∀ u ∈ ([.int .i64 p1, .int .i64 p2] : List Value), u.oneCell' = true := by
  intro u hu
  simp only [List.mem_cons, List.not_mem_nil, or_false] at hu
  rcases hu with rfl | rfl <;> rfl

theorem prs_snoc19 (l : List Pr) (p : Pr) : prs (l ++ [p]) = prs l ++ [.int .i64 p.1, .int .i64 p.2] := by simp [prs]

/-- What Get carries: the input, the result's block, the invariants so far. -/
structure GWS (w : World) (B : Nat) (A : Option Addr) (c : Nat) (s : Ip) (v : Value) (xs : List (List Pr)) (W : World) : Prop where
  blw : Below w.heap.size w W
  inb : Row W w.heap.size 55 #[.slice A s.rest.length c, .int .i64 s.err]
  z3 : Row W (w.heap.size + 1) 55 #[.slice none 0 0, .int .i64 0]
  ip : IpV W B A c s
  nst : ∃ vs, NestV pshp W (w.heap.size + 1 + 1) v vs xs

/-- Within an invariant: Wq is the world ahead of it. -/
structure GWI (w Wq : World) (B : Nat) (A : Option Addr) (c : Nat) (s : Ip) (v : Value) (xs : List (List Pr)) (q1 q2 : Int) (u : Value) (l : List Pr) (W : World) : Prop where
  q : ∃ A0 c0 s0, GWS w B A0 c0 s0 v xs Wq
  md : Mods (Is w.heap.size) Wq W
  inb : Row W w.heap.size 55 #[.slice A s.rest.length c, .int .i64 s.err]
  ip : IpV W B A c s
  qb : Row W Wq.heap.size 112 #[.int .i64 q1, .int .i64 q2]
  own : W.ownsRow (Wq.heap.size + 1) 112 2 u l.length (prs l)

section
variable {w Wq : World} {B : Nat} {A A' : Option Addr} {c c' : Nat} {s s' : Ip} {v v' u u' : Value} {xs : List (List Pr)} {q1 q2 : Int} {l : List Pr} {W W' : World}

theorem GWS.lo (h : GWS w B A c s v xs W) : w.heap.size + 1 < W.heap.size := h.z3.lt

theorem GWS.start (h : IpV w B A c s) (hB : B ≤ w.heap.size) :
    GWS w B A c s (.slice none 0 0) [] ((w.alloc (.cells #[.slice A s.rest.length c, .int .i64 s.err] 55)).alloc (.cells #[.slice none 0 0, .int .i64 0] 55)) := by
  have hb := ((Below.refl w.heap.size w).alloc (Nat.le_refl _) (.cells #[.slice A s.rest.length c, .int .i64 s.err] 55)).alloc (by simp) (.cells #[.slice none 0 0, .int .i64 0] 55)
  exact ⟨hb, (Row.new w _ _).alloc _, Row.new' (by simp) _ _, h.below (hb.mono hB), ⟨[], NestV.nil _ _⟩⟩

theorem GWS.next (h : GWS w B A c s v xs W) (hb : Below W.heap.size W W') (hB : B ≤ w.heap.size) : GWS w B A c s v xs W' :=
  ⟨h.blw.trans (hb.mono h.blw.size), h.inb.below hb h.inb.lt, h.z3.below hb h.z3.lt, h.ip.below (hb.mono (Nat.le_trans hB h.blw.size)), let ⟨vs, hn⟩ := h.nst; ⟨vs, hn.below hb⟩⟩

theorem GWS.inpt (h : GWS w B A c s v xs W) (hI : IpV W B A' c' s') (hB : B ≤ w.heap.size) : GWS w B A' c' s' v xs ((W.setCell ⟨w.heap.size, 0, none⟩ (.slice A' s'.rest.length c')).setCell ⟨w.heap.size, 1, none⟩ (.int .i64 s'.err)) := by
  have hb : Below w.heap.size W ((W.setCell ⟨w.heap.size, 0, none⟩ (.slice A' s'.rest.length c')).setCell ⟨w.heap.size, 1, none⟩ (.int .i64 s'.err)) := ((Below.refl _ W).setCell (p := ⟨w.heap.size, 0, none⟩) (Nat.le_refl _) _).setCell (p := ⟨w.heap.size, 1, none⟩) (Nat.le_refl _) _
  have hm : Mods (Is w.heap.size) W ((W.setCell ⟨w.heap.size, 0, none⟩ (.slice A' s'.rest.length c')).setCell ⟨w.heap.size, 1, none⟩ (.int .i64 s'.err)) := ((Mods.refl _ W).put 0 _).put 1 _
  exact ⟨h.blw.trans hb, (h.inb.put 0 _).put 1 _, h.z3.mods hm (fun e => by unfold Is at e; omega), hI.below (hb.mono hB), let ⟨vs, hn⟩ := h.nst; ⟨vs, hn.mods hm fun k h1 _ h2 => by unfold Is at h2; omega⟩⟩

theorem GWS.fin (h : GWS w B A c s v xs W) (hB : B ≤ w.heap.size) :
    Row ((W.setCell ⟨w.heap.size + 1, 0, none⟩ (.slice A s.rest.length c)).setCell ⟨w.heap.size + 1, 1, none⟩ (.int .i64 s.err)).drew (w.heap.size + 1) 55 #[.slice A s.rest.length c, .int .i64 s.err] ∧
    Below w.heap.size w ((W.setCell ⟨w.heap.size + 1, 0, none⟩ (.slice A s.rest.length c)).setCell ⟨w.heap.size + 1, 1, none⟩ (.int .i64 s.err)).drew ∧
    IpV ((W.setCell ⟨w.heap.size + 1, 0, none⟩ (.slice A s.rest.length c)).setCell ⟨w.heap.size + 1, 1, none⟩ (.int .i64 s.err)).drew B A c s ∧
    ∃ vs, NestV pshp ((W.setCell ⟨w.heap.size + 1, 0, none⟩ (.slice A s.rest.length c)).setCell ⟨w.heap.size + 1, 1, none⟩ (.int .i64 s.err)).drew (w.heap.size + 1 + 1) v vs xs := by
  have hm : Mods (Is (w.heap.size + 1)) W ((W.setCell ⟨w.heap.size + 1, 0, none⟩ (.slice A s.rest.length c)).setCell ⟨w.heap.size + 1, 1, none⟩ (.int .i64 s.err)).drew := (((Mods.refl _ W).put 0 _).put 1 _).drew
  have hb : Below w.heap.size W ((W.setCell ⟨w.heap.size + 1, 0, none⟩ (.slice A s.rest.length c)).setCell ⟨w.heap.size + 1, 1, none⟩ (.int .i64 s.err)).drew := hm.below h.blw.size fun k hk => by unfold Is at hk; omega
  obtain ⟨vs, hn⟩ := h.nst
  exact ⟨((h.z3.put 0 _).put 1 _).drew, h.blw.trans hb, h.ip.below (hb.mono hB), vs, hn.mods hm fun k h1 _ h2 => by unfold Is at h2; omega⟩

theorem GWI.lo (h : GWI w Wq B A c s v xs q1 q2 u l W) : w.heap.size + 1 < Wq.heap.size ∧ Wq.heap.size < W.heap.size := let ⟨_, _, _, hq⟩ := h.q; ⟨hq.lo, h.qb.lt⟩

theorem GWI.blw (h : GWI w Wq B A c s v xs q1 q2 u l W) : Below w.heap.size w W := by
  obtain ⟨_, _, _, hq⟩ := h.q
  exact hq.blw.trans (h.md.below hq.blw.size fun k hk => by unfold Is at hk; omega)

theorem GWI.next (h : GWI w Wq B A c s v xs q1 q2 u l W) (hb : Below W.heap.size W W') (hB : B ≤ w.heap.size) : GWI w Wq B A c s v xs q1 q2 u l W' :=
  ⟨h.q, h.md.trans (Mods.of_below hb), h.inb.below hb h.inb.lt, h.ip.below (hb.mono (Nat.le_trans hB h.blw.size)), h.qb.below hb h.qb.lt, (Mods.of_below (S := No) hb).ownS h.own fun _ _ hs => hs.elim⟩

/-- Pair and input stored. -/
theorem GWI.step (h : GWI w Wq B A c s v xs q1 q2 u l W) (hI : IpV W B A' c' s') (hB : B ≤ w.heap.size) (p1 p2 : Int) :
    GWI w Wq B A' c' s' v xs p1 p2 u l ((((W.setCell ⟨Wq.heap.size, 0, none⟩ (.int .i64 p1)).setCell ⟨Wq.heap.size, 1, none⟩ (.int .i64 p2)).setCell ⟨w.heap.size, 0, none⟩ (.slice A' s'.rest.length c')).setCell ⟨w.heap.size, 1, none⟩ (.int .i64 s'.err)) := by
  have hl := h.lo
  have h1 : Mods (Is Wq.heap.size) W ((W.setCell ⟨Wq.heap.size, 0, none⟩ (.int .i64 p1)).setCell ⟨Wq.heap.size, 1, none⟩ (.int .i64 p2)) := ((Mods.refl _ W).put 0 _).put 1 _
  have r1 : Row ((W.setCell ⟨Wq.heap.size, 0, none⟩ (.int .i64 p1)).setCell ⟨Wq.heap.size, 1, none⟩ (.int .i64 p2)) Wq.heap.size 112 #[.int .i64 p1, .int .i64 p2] := (h.qb.put 0 _).put 1 _
  have hi := h.inb.mods h1 fun e => by unfold Is at e; omega
  have hI1 := hI.below (w' := ((W.setCell ⟨Wq.heap.size, 0, none⟩ (.int .i64 p1)).setCell ⟨Wq.heap.size, 1, none⟩ (.int .i64 p2))) (h1.below (by omega) fun k hk => by unfold Is at hk; omega)
  have ho1 := h1.ownS h.own fun k hk e => by have := ownS_lt h.own k hk; unfold Is at e; omega
  have hs1 := h1.size
  generalize ((W.setCell ⟨Wq.heap.size, 0, none⟩ (.int .i64 p1)).setCell ⟨Wq.heap.size, 1, none⟩ (.int .i64 p2)) = V at *
  have h2 : Mods (Is w.heap.size) V ((V.setCell ⟨w.heap.size, 0, none⟩ (.slice A' s'.rest.length c')).setCell ⟨w.heap.size, 1, none⟩ (.int .i64 s'.err)) := ((Mods.refl _ V).put 0 _).put 1 _
  exact ⟨h.q, (h.md.then h1 fun k hk => .inr (by unfold Is at hk; omega)).trans h2, (hi.put 0 _).put 1 _, hI1.below (h2.below (by omega) fun k hk => by unfold Is at hk; omega), r1.mods h2 (fun e => by unfold Is at e; omega), h2.ownS ho1 fun k hk e => by have := ownS_lt ho1 k hk; unfold Is at e; omega⟩

/-- A pair has been appended. -/
theorem GWI.app (h : GWI w Wq B A c s v xs q1 q2 u l W) (hB : B ≤ w.heap.size) {o : Obj} (ho : W'.ownsRow (Wq.heap.size + 1) 112 2 u' (l.length + 1) (prs l ++ [.int .i64 q1, .int .i64 q2])) (hg : (W.alloc o).grownBy W' u.ownBlock) :
    GWI w Wq B A c s v xs q1 q2 u' (l ++ [(q1, q2)]) W' := by
  have hl := h.lo
  have hm : Mods (fun k => u.ownBlock = some k) W W' := ((Mods.refl _ W).alloc o).grown hg fun k hk => .inl hk
  have hk : ∀ k, u.ownBlock = some k → Wq.heap.size + 1 ≤ k := fun k hk => (ownS_lt h.own k hk).1
  have hBel : Below w.heap.size W W' := hm.below (by omega) fun k hh => by have := hk k hh; omega
  exact ⟨h.q, h.md.then hm fun k hh => .inr (by have := hk k hh; omega), h.inb.mods hm (fun e => by have := hk _ e; omega), h.ip.below (hBel.mono hB), h.qb.mods hm (fun e => by have := hk _ e; omega), by rw [List.length_append, prs_snoc19]; exact ho⟩

/-- The invariant has been appended. -/
theorem GWI.fin (h : GWI w Wq B A c s v xs q1 q2 u l W) (hB : B ≤ w.heap.size) {vs : List Value} (hn : NestV pshp Wq (w.heap.size + 1 + 1) v vs xs) {o : Obj}
    (ho : W'.ownsRow (w.heap.size + 1 + 1) 110 1 v' (vs.length + 1) (((vs.zip xs).flatMap fun p => pshp.oc p.1 p.2) ++ pshp.oc u l)) (hg : (W.alloc o).grownBy W' v.ownBlock) : GWS w B A c s v' (xs ++ [l]) W' := by
  have hl := h.lo
  have hsn := hn.snoc (x := l) h.md (fun k hk => by unfold Is at hk; omega) (by omega) (ownS_base h.own (by omega)) o ho hg
  obtain ⟨_, _, _, hq⟩ := h.q
  have hon := (hn.mods h.md fun k h1 _ h2 => by unfold Is at h2; omega).outer
  have hb : Below (w.heap.size + 1 + 1) W W' := ((Below.refl _ W).alloc (by omega) o).grown hg (by rw [World.size_alloc]; omega) fun k hk => (ownS_lt hon k hk).1
  have hz := (hq.z3.mods h.md (fun e => by unfold Is at e; omega)).below hb (by omega)
  exact ⟨h.blw.trans (hb.mono (by omega)), h.inb.below hb (by omega), hz, h.ip.below (hb.mono (by omega)), ⟨_, hsn⟩⟩

end

/-- What Get returns. -/
def RGW (w : World) (B : Nat) (xs : List (List Pr)) (t : Ip) (e : Ending) (w' : World) : Prop :=
  ∃ v vs A' c', e = .returned (.tuple #[v, .agg #[.slice A' t.rest.length c', .int .i64 t.err]]) ∧ NestV pshp w' w.heap.size v vs xs ∧ IpV w' B A' c' t ∧ Below w.heap.size w w'

end Go.Proofs.Ytkapmfopfddmbaa

/-
  The reference of layer 19: Get (made by wip/lab/genwnget.py).
-/
namespace Go.Proofs.Ytkapmfopfddmbaa
open Go.RowKit
set_option linter.unusedVariables false
set_option linter.unusedSimpArgs false

theorem pairE_pos {vr r n : Int} {f : Bool} {q : Pr} {s : Ip} (hq : PosP vr f q) (hb : Byt s.rest) (hr : r ≤ 1000000000) (hn : n ≤ 1000000000) (h : (pairE vr r n f q s).2.err = 0) :
    PosP vr false (pairE vr r n f q s).1 ∧ (pairE vr r n f q s).1.2 ≤ 4000000000 := by
  obtain ⟨_, h2, h3, _⟩ := pairE_ok hq hb h
  refine ⟨h3, ?_⟩
  have hl : locS (pairE vr r n f q s).1.2 r n = true := by
    cases h9 : locS (pairE vr r n f q s).1.2 r n
    · unfold prE at h2
      rw [h9] at h2
      split at h2
      · cases h2
      · rw [if_pos rfl] at h2
        cases h2
    · rfl
  have := locS_le hr hn hl
  omega

theorem ivE_tot {vr r n tot : Int} {s : Ip} (h : (ivE vr r n tot s).2.err = 0) : tot + (icE tot s).1 ≤ 1048576 := by
  by_cases h0 : (icE tot s).2.err = 0
  · unfold icE at h0 ⊢
    dsimp only at h0 ⊢
    by_cases hh : 1048576 < tot + (cntE 2 s).1
    · rw [if_pos hh] at h0
      exact absurd h0 (failE_err (by decide))
    · omega
  · unfold ivE at h
    rw [prsE_err h0] at h
    exact absurd h h0

set_option maxRecDepth 100000 in
set_option maxHeartbeats 16000000 in
theorem rget19_any {w : World} {B : Nat} {A : Option Addr} {c : Nat} {s : Ip} (h : IpV w B A c s) (hB : B ≤ w.heap.size) {m vr r n : Int} (hm : 0 ≤ m ∧ m ≤ 1000000) (hvr : 0 ≤ vr ∧ vr ≤ 1000000000) (hr : r ≤ 1000000000) (hn : n ≤ 1000000000) :
    Calls Try.prog 34 #[.agg #[.slice A s.rest.length c, .int .i64 s.err], .int .i64 m, .int .i64 vr, .int .i64 r, .int .i64 n] w (RGW w B (getE19 vr r n m.toNat s).1 (getE19 vr r n m.toNat s).2) := by
  obtain ⟨i0, hi0, hz0, hz1, hz2⟩ := info_parts infoPr19
  obtain ⟨i1, hi1, hy0, hy1, hy2⟩ := info_parts infoPl
  obtain ⟨FB, hFB⟩ : ∃ y, ivsE vr r n m.toNat 0 s = y := ⟨_, rfl⟩
  have EB : Hid (ivsE vr r n m.toNat 0 s = FB) := hFB
  obtain ⟨FE, hFE⟩ : ∃ y, y = getE19 vr r n m.toNat s := ⟨_, rfl⟩
  have EF : Hid (FE = if FB.2.err ≠ 0 then ([], FB.2) else FB) := by show _ = _; rw [hFE]; unfold getE19; rw [hFB]
  rw [← hFE]
  clear hFB hFE
  have HBB := Lib.hid hB
  have HF0 := Lib.hid (GWS.start h hB)
  clear h hB
  go_enter Try.func34, Try.ntmps34
  go_upto_region 1 with fail
  generalize ((w.alloc (.cells #[.slice A s.rest.length c, .int .i64 s.err] 55)).alloc (.cells #[.slice none 0 0, .int .i64 0] 55)) = W0 at *
  go_wp2
  go_loopg [12, 13, 14] m.toNat (fun g v12 v13 v14 wr => ∃ (i : Nat) (tot : Int) (A : Option Addr) (c : Nat) (t : Ip) (xs : List (List Pr)), i + g = m.toNat ∧ v13 = .int .i64 tot ∧ v14 = .int .i64 i ∧ 0 ≤ tot ∧ Hid (t.err = 0 → tot ≤ 1048576) ∧ Hid (xs.length = i) ∧ Hid (FB = (xs ++ (ivsE vr r n g tot t).1, (ivsE vr r n g tot t).2)) ∧ Hid (GWS w B A c t v12 xs wr))
  case atStart => exact ⟨0, 0, A, c, s, [], by omega, rfl, rfl, Int.le_refl _, (fun _ => by decide), rfl, EB.out.symm, HF0.out⟩
  case round =>
    clear HF0 EB
    obtain ⟨i, tot, A, c, t, xs, hig, rfl, rfl, ht0, ht1, hbl, HE, HF⟩ := hrel
    cases gk with
    | zero =>
      have hin : ¬ (i : Int) < m := by omega
      have HEE : Hid (FB = (xs, t)) := by show _ = _; rw [HE.out]; show (xs ++ [], t) = _; rw [List.append_nil]
      by_cases he : t.err ≠ 0
      · have p0 := HF.out.inb.cell 0; have p1 := HF.out.inb.cell 1
        simp only [List.getElem?_toArray, List.getElem?_cons_zero, List.getElem?_cons_succ] at p0 p1
        have q0 := HF.out.z3.cell 0; have q1 := HF.out.z3.cell 1
        have qf0 := HF.out.z3.frozen 0; have qf1 := HF.out.z3.frozen 1
        simp only [List.getElem?_toArray, List.getElem?_cons_zero, List.getElem?_cons_succ] at q0 q1
        have d0 : (t.err != 0) = true := by simp [he]
        have d1 : (t.err == 0) = false := by simp [he]
        have HFE : Hid (FE = ([], t)) := by show _ = _; rw [EF.out, HEE.out]; exact if_pos he
        clear he
        go_wp2_with fail
        go_region
        go_wp2
        (try simp only [Exit.inBlock, Exit.then])
        obtain ⟨f1, f2, f3, f4⟩ := HF.out.fin HBB.out
        refine bodyPost_ret (v := .tuple #[.slice none 0 0, .agg #[.slice A t.rest.length c, .int .i64 t.err]]) ?_ rfl ⟨.slice none 0 0, [], A, c, by rw [HFE.out], by rw [HFE.out]; exact NestV.nil _ _, by rw [HFE.out]; exact f3, f2⟩
        exact results_tmp_row rfl _ _ (w.heap.size + 1) 55 #[.slice A t.rest.length c, .int .i64 t.err] (0, 0) _ rfl rfl f1 Try.underlying55 rfl (by kernel_rfl)
      · have he : t.err = 0 := by omega
        obtain ⟨vs0, hn0⟩ := HF.out.nst
        obtain ⟨Av, cv, rfl, _, _⟩ := ownS_slice hn0.outer
        clear hn0
        have p0 := HF.out.inb.cell 0; have p1 := HF.out.inb.cell 1
        simp only [List.getElem?_toArray, List.getElem?_cons_zero, List.getElem?_cons_succ] at p0 p1
        have q0 := HF.out.z3.cell 0; have q1 := HF.out.z3.cell 1
        have qf0 := HF.out.z3.frozen 0; have qf1 := HF.out.z3.frozen 1
        simp only [List.getElem?_toArray, List.getElem?_cons_zero, List.getElem?_cons_succ] at q0 q1
        have d0 : (t.err != 0) = false := by simp [he]
        have HFE : Hid (FE = (xs, t)) := by show _ = _; rw [EF.out, HEE.out]; exact if_neg fun hh => hh he
        clear he
        go_wp2_with fail
        go_region
        go_wp2
        (try simp only [Exit.inBlock, Exit.then])
        obtain ⟨f1, f2, f3, vs, f4⟩ := HF.out.fin HBB.out
        refine bodyPost_ret (v := .tuple #[.slice Av vs0.length cv, .agg #[.slice A t.rest.length c, .int .i64 t.err]]) ?_ rfl ⟨.slice Av vs0.length cv, vs, A, c, by rw [HFE.out], by rw [HFE.out]; exact f4.rebase (by omega), by rw [HFE.out]; exact f3, f2⟩
        exact results_tmp_row rfl _ _ (w.heap.size + 1) 55 #[.slice A t.rest.length c, .int .i64 t.err] (0, 0) _ rfl rfl f1 Try.underlying55 rfl (by kernel_rfl)
    | succ g =>
      have hin : (i : Int) < m := by omega
      by_cases he : t.err ≠ 0
      · have HEE : Hid (FB = (xs, t)) := by show _ = _; rw [HE.out, ivsE_err he]; show (xs ++ [], t) = _; rw [List.append_nil]
        have p0 := HF.out.inb.cell 0; have p1 := HF.out.inb.cell 1
        simp only [List.getElem?_toArray, List.getElem?_cons_zero, List.getElem?_cons_succ] at p0 p1
        have q0 := HF.out.z3.cell 0; have q1 := HF.out.z3.cell 1
        have qf0 := HF.out.z3.frozen 0; have qf1 := HF.out.z3.frozen 1
        simp only [List.getElem?_toArray, List.getElem?_cons_zero, List.getElem?_cons_succ] at q0 q1
        have d0 : (t.err != 0) = true := by simp [he]
        have d1 : (t.err == 0) = false := by simp [he]
        have HFE : Hid (FE = ([], t)) := by show _ = _; rw [EF.out, HEE.out]; exact if_pos he
        clear he
        go_wp2_with fail
        go_region
        go_wp2
        (try simp only [Exit.inBlock, Exit.then])
        obtain ⟨f1, f2, f3, f4⟩ := HF.out.fin HBB.out
        refine bodyPost_ret (v := .tuple #[.slice none 0 0, .agg #[.slice A t.rest.length c, .int .i64 t.err]]) ?_ rfl ⟨.slice none 0 0, [], A, c, by rw [HFE.out], by rw [HFE.out]; exact NestV.nil _ _, by rw [HFE.out]; exact f3, f2⟩
        exact results_tmp_row rfl _ _ (w.heap.size + 1) 55 #[.slice A t.rest.length c, .int .i64 t.err] (0, 0) _ rfl rfl f1 Try.underlying55 rfl (by kernel_rfl)
      · have he : t.err = 0 := by omega
        have HEZ := Lib.hid he
        have d0 : (t.err == 0) = true := by simp [he]
        have ht2 := ht1.out he
        obtain ⟨⟨k, tk⟩, hK⟩ : ∃ y, cntE 2 t = y := ⟨_, rfl⟩
        have rk : 0 ≤ k ∧ k ≤ 1048576 := by have := cntE_rng (k := 2) (s := t); rw [hK] at this; exact this
        obtain ⟨t3, hT3⟩ : ∃ y, (if 1048576 < tot + k then failE 6 tk else tk) = y := ⟨_, rfl⟩
        have EK : Hid (icE tot t = (k, t3)) := by show _ = _; unfold icE; rw [hK]; dsimp only; rw [hT3]
        have ET3 := Lib.hid hT3
        have C := Lib.hid (rcnt18_any 2 ⟨by decide, by decide⟩ HF.out.ip (Nat.le_trans HBB.out HF.out.blw.size))
        rw [hK] at C
        clear he hK hT3
        have p0 := HF.out.inb.cell 0; have p1 := HF.out.inb.cell 1
        simp only [List.getElem?_toArray, List.getElem?_cons_zero, List.getElem?_cons_succ] at p0 p1
        go_wp2_with fail
        refine C.out.mono ?_
        rintro e W2 ⟨A2, c2, rfl, hI, hb⟩
        have HG1 := Lib.hid (HF.out.next hb HBB.out)
        have HI1 := Lib.hid hI
        clear hb hI C p0 p1 HF
        have p0 := HG1.out.inb.cell 0; have p1 := HG1.out.inb.cell 1
        have pf0 := HG1.out.inb.frozen 0; have pf1 := HG1.out.inb.frozen 1
        simp only [List.getElem?_toArray, List.getElem?_cons_zero, List.getElem?_cons_succ] at p0 p1
        go_upto_region 8 with fail
        have HG2 := Lib.hid (HG1.out.inpt HI1.out HBB.out)
        clear p0 p1 pf0 pf1 HG1 HI1
        generalize ((W2.setCell ⟨w.heap.size, 0, none⟩ (.slice A2 tk.rest.length c2)).setCell ⟨w.heap.size, 1, none⟩ (.int .i64 tk.err)) = W3 at *
        have p0 := HG2.out.inb.cell 0; have p1 := HG2.out.inb.cell 1
        have pf0 := HG2.out.inb.frozen 0; have pf1 := HG2.out.inb.frozen 1
        simp only [List.getElem?_toArray, List.getElem?_cons_zero, List.getElem?_cons_succ] at p0 p1
        go_upto_if 38 with fail
        go_cut [] from 19 to 69 (fun wx => ∃ W9 A c, W9 = wx ∧ Hid (GWS w B A c t3 u12 xs W9))
        case first =>
          by_cases hc : 1048576 < tot + k
          · have hcE : Hid (failE 6 tk = t3) := by show _ = _; rw [← ET3.out, if_pos hc]
            have C := Lib.hid (rfail18_any 6 HG2.out.ip (Nat.le_trans HBB.out HG2.out.blw.size))
            rw [hcE.out] at C
            go_wp2_with fail
            refine C.out.mono ?_
            rintro e W4 ⟨A3, c3, rfl, hI, hb⟩
            have HF3 := Lib.hid (HG2.out.next hb HBB.out)
            have HI3 := Lib.hid hI
            clear hb hI C p0 p1 pf0 pf1 HG2
            have p0 := HF3.out.inb.cell 0; have p1 := HF3.out.inb.cell 1
            have pf0 := HF3.out.inb.frozen 0; have pf1 := HF3.out.inb.frozen 1
            simp only [List.getElem?_toArray, List.getElem?_cons_zero, List.getElem?_cons_succ] at p0 p1
            go_wp2_with fail
            go_meet
            case rel => exact ⟨_, A3, c3, rfl, HF3.out.inpt HI3.out HBB.out⟩
          · have hcE : Hid (tk = t3) := by show _ = _; rw [← ET3.out, if_neg hc]
            go_wp2_with fail
            go_meet
            case rel => exact ⟨_, A2, c2, rfl, by rw [← hcE.out]; exact HG2.out⟩
        case rest =>
          obtain ⟨Wq, A4, c4, hWq, HF4⟩ := hcut
          subst hWq
          clear HG2 p0 p1 pf0 pf1
          go_upto_region 13 with fail
          have hbx := (Below.refl Wq.heap.size Wq).alloc (Nat.le_refl _) (.cells #[.int .i64 0, .int .i64 0] 112)
          have HG0 : Hid (GWI w Wq B A4 c4 t3 u12 xs 0 0 (.slice none 0 0) [] (Wq.alloc (.cells #[.int .i64 0, .int .i64 0] 112))) :=
            ⟨⟨A4, c4, t3, HF4.out⟩, (Mods.refl _ _).alloc _, HF4.out.inb.alloc _, HF4.out.ip.below (hbx.mono (Nat.le_trans HBB.out HF4.out.blw.size)), Row.new _ _ _, ⟨by simp [prs], .inl ⟨rfl, rfl⟩⟩⟩
          clear hbx HF4
          generalize (Wq.alloc (.cells #[.int .i64 0, .int .i64 0] 112)) = Wb at *
          go_wp2
          go_loopg [16, 18] k.toNat (fun g2 v16 v18 wx => ∃ (j : Nat) (A : Option Addr) (c : Nat) (t2 : Ip) (q1 q2 : Int) (l : List Pr), j + g2 = k.toNat ∧ v18 = .int .i64 j ∧ Hid (l.length = j) ∧ Hid (t2.err = 0 → PosP vr ((j : Int) == 0) (q1, q2) ∧ q2 ≤ 4000000000) ∧ Hid (ivE vr r n tot t = (l ++ (prsE vr r n g2 ((j : Int) == 0) (q1, q2) t2).1, (prsE vr r n g2 ((j : Int) == 0) (q1, q2) t2).2)) ∧ Hid (GWI w Wq B A c t2 u12 xs q1 q2 v16 l wx))
          case atStart => exact ⟨0, A4, c4, t3, 0, 0, [], by omega, rfl, rfl, (fun _ => ⟨.inl ⟨rfl, rfl⟩, by decide⟩), (by show ivE vr r n tot t = _; unfold ivE; rw [EK.out]; rfl), HG0.out⟩
          case round =>
            clear HG0
            obtain ⟨j, A, c, t2, q1, q2, l, hjg, rfl, hxl2, HP, HI, HG⟩ := hrel
            cases gk with
            | zero =>
              have hjn : ¬ (j : Int) < k := by omega
              replace HI : Hid (ivE vr r n tot t = (l, t2)) := by show _ = _; rw [HI.out]; show (l ++ [], t2) = _; rw [List.append_nil]
              obtain ⟨A0, c0, s0, hq⟩ := HG.out.q
              obtain ⟨vs, hn⟩ := hq.nst
              have hlo := HG.out.lo
              have HN := Lib.hid hn
              have hvl := Lib.hid hn.len
              have hon := (hn.mods HG.out.md fun k h1 _ h2 => by unfold Is at h2; omega).outer
              obtain ⟨Av, cv, rfl, _, _⟩ := ownS_slice hon
              obtain ⟨Ac, cc, rfl, _, _⟩ := ownS_slice HG.out.own
              have hown : (wr.alloc (.cells #[.slice Ac l.length cc] 110)).ownsRow (w.heap.size + 1 + 1) 110 1 (.slice Av vs.length cv) vs.length ((vs.zip xs).flatMap fun p => pshp.oc p.1 p.2) := ((Mods.refl No wr).alloc _).ownS hon fun _ _ hk => hk.elim
              have hnew := sees_new wr #[.slice Ac l.length cc] 110
              clear hq hn hon
              have p0 := HG.out.inb.cell 0; have p1 := HG.out.inb.cell 1
              simp only [List.getElem?_toArray, List.getElem?_cons_zero, List.getElem?_cons_succ] at p0 p1
              go_wp2_with (at_builtin; refine wpList_append_any _ rfl (.tmp 66) (.tmp 68) 72 rfl (w.heap.size + 1 + 1) 110 i1 (.slice none 0 0) 1 24 Try.underlying72 hi1 hy0 hy1 hy2 rfl (by decide) _ _ _ rfl hown (wr.heap.size + 1) _ 1 1 _ rfl hnew rfl (poc_one l Ac l.length cc) ?c1 ?c2 ?c3 ?_)
              case c1 => have := hvl.out; have := hbl.out; unfold maxLen; omega
              case c2 => have := hvl.out; have := hbl.out; omega
              case c3 => (try rw [World.size_alloc]); omega
              intro v5 W5 ho hg _
              have HF7 := Lib.hid (HG.out.fin HBB.out HN.out ho hg)
              have ht7 : Hid (t2.err = 0 → tot + k ≤ 1048576) := fun h9 => by
                have := ivE_tot (vr := vr) (r := r) (n := n) (tot := tot) (s := t) (by rw [HI.out]; exact h9)
                rw [EK.out] at this
                exact this
              clear p0 p1 hown hnew ho hg HG HN
              have HE7 : Hid (FB = ((xs ++ [l]) ++ (ivsE vr r n g (tot + k) t2).1, (ivsE vr r n g (tot + k) t2).2)) := by
                show _ = _
                rw [HE.out]
                have e9 : ivsE vr r n (g + 1) tot t = ((ivE vr r n tot t).1 :: (ivsE vr r n g (tot + (icE tot t).1) (ivE vr r n tot t).2).1, (ivsE vr r n g (tot + (icE tot t).1) (ivE vr r n tot t).2).2) := if_neg fun hh => hh HEZ.out
                rw [e9, HI.out, EK.out]
                simp only [List.append_assoc, List.singleton_append]
              go_wp2
              go_roundg g
              case measure => omega
              case rel => exact ⟨i + 1, tot + k, A, c, t2, xs ++ [l], by omega, by go_num, by go_num, by omega, ht7, by show _ = _; rw [List.length_append, hbl.out]; rfl, HE7.out, HF7.out⟩
            | succ g2 =>
              have hjn : (j : Int) < k := by omega
              by_cases he2 : t2.err = 0
              · have HE2Z := Lib.hid he2
                have d2 : (t2.err == 0) = true := by simp [he2]
                clear he2
                obtain ⟨⟨⟨x1, x2⟩, tm⟩, hM⟩ : ∃ y, pairE vr r n ((j : Int) == 0) (q1, q2) t2 = y := ⟨_, rfl⟩
                have EM := Lib.hid hM
                clear hM
                have C := Lib.hid (rpair19_any (f := ((j : Int) == 0)) (q := (q1, q2)) HG.out.ip (Nat.le_trans HBB.out HG.out.blw.size) hvr hr hn (HP.out HE2Z.out).1 (HP.out HE2Z.out).2)
                rw [EM.out] at C
                have HP' : Hid (tm.err = 0 → PosP vr (((j + 1 : Nat) : Int) == 0) (x1, x2) ∧ x2 ≤ 4000000000) := fun h9 => by
                  have := pairE_pos (vr := vr) (r := r) (n := n) (f := ((j : Int) == 0)) (q := (q1, q2)) (s := t2) (HP.out HE2Z.out).1 HG.out.ip.byt hr hn (by rw [EM.out]; exact h9)
                  rw [EM.out] at this
                  rw [show ((((j + 1 : Nat) : Int)) == 0) = false by simp; omega]
                  exact this
                have p0 := HG.out.inb.cell 0; have p1 := HG.out.inb.cell 1
                simp only [List.getElem?_toArray, List.getElem?_cons_zero, List.getElem?_cons_succ] at p0 p1
                have y0 := HG.out.qb.cell 0; have y1 := HG.out.qb.cell 1
                simp only [List.getElem?_toArray, List.getElem?_cons_zero, List.getElem?_cons_succ] at y0 y1
                go_wp2_with fail
                refine C.out.mono ?_
                rintro e W2 ⟨A2, c2, rfl, hI, hb⟩
                have HG2 := Lib.hid (HG.out.next hb HBB.out)
                have HI2 := Lib.hid hI
                clear hb hI C HG p0 p1 y0 y1 HP
                have p0 := HG2.out.inb.cell 0; have p1 := HG2.out.inb.cell 1
                have pf0 := HG2.out.inb.frozen 0; have pf1 := HG2.out.inb.frozen 1
                simp only [List.getElem?_toArray, List.getElem?_cons_zero, List.getElem?_cons_succ] at p0 p1
                have y0 := HG2.out.qb.cell 0; have y1 := HG2.out.qb.cell 1
                have yf0 := HG2.out.qb.frozen 0; have yf1 := HG2.out.qb.frozen 1
                simp only [List.getElem?_toArray, List.getElem?_cons_zero, List.getElem?_cons_succ] at y0 y1
                have hq1 : ¬ Wq.heap.size = w.heap.size := by have := HG2.out.lo; omega
                have hq2 : ¬ w.heap.size = Wq.heap.size := by omega
                go_upto_region 17 with fail
                have HG3 := Lib.hid (HG2.out.step HI2.out HBB.out x1 x2)
                clear p0 p1 pf0 pf1 y0 y1 yf0 yf1 HG2 HI2
                generalize ((((W2.setCell ⟨Wq.heap.size, 0, none⟩ (.int .i64 x1)).setCell ⟨Wq.heap.size, 1, none⟩ (.int .i64 x2)).setCell ⟨w.heap.size, 0, none⟩ (.slice A2 tm.rest.length c2)).setCell ⟨w.heap.size, 1, none⟩ (.int .i64 tm.err)) = V3 at *
                obtain ⟨Ac, cc, rfl, _, _⟩ := ownS_slice HG3.out.own
                have hown : (V3.alloc (.cells #[.int .i64 x1, .int .i64 x2] 112)).ownsRow (Wq.heap.size + 1) 112 2 (.slice Ac l.length cc) l.length (prs l) := ((Mods.refl No V3).alloc _).ownS HG3.out.own fun _ _ hk => hk.elim
                have hnew := sees_new V3 #[.int .i64 x1, .int .i64 x2] 112
                have hlo := HG3.out.lo
                have p0 := HG3.out.inb.cell 0; have p1 := HG3.out.inb.cell 1
                simp only [List.getElem?_toArray, List.getElem?_cons_zero, List.getElem?_cons_succ] at p0 p1
                have y0 := HG3.out.qb.cell 0; have y1 := HG3.out.qb.cell 1
                simp only [List.getElem?_toArray, List.getElem?_cons_zero, List.getElem?_cons_succ] at y0 y1
                go_wp2_with (at_builtin; refine wpList_append_any _ rfl (.tmp 62) (.tmp 64) 110 rfl (Wq.heap.size + 1) 112 i0 (.agg #[.int .i64 0, .int .i64 0]) 2 16 Try.underlying110 hi0 hz0 hz1 hz2 rfl (by decide) _ _ _ rfl hown (V3.heap.size + 1) _ 1 1 _ rfl hnew rfl (pr_one19 x1 x2) ?c1 ?c2 ?c3 ?_)
                case c1 => have := hxl2.out; unfold maxLen; omega
                case c2 => have := hxl2.out; omega
                case c3 => (try rw [World.size_alloc]); omega
                intro v5 W5 ho hg _
                have HG7 := Lib.hid (HG3.out.app HBB.out ho hg)
                clear p0 p1 y0 y1 hown hnew ho hg HG3
                have HI7 : Hid (ivE vr r n tot t = ((l ++ [(x1, x2)]) ++ (prsE vr r n g2 (((j + 1 : Nat) : Int) == 0) (x1, x2) tm).1, (prsE vr r n g2 (((j + 1 : Nat) : Int) == 0) (x1, x2) tm).2)) := by
                  show _ = _
                  rw [HI.out]
                  have e9 : prsE vr r n (g2 + 1) ((j : Int) == 0) (q1, q2) t2 = ((pairE vr r n ((j : Int) == 0) (q1, q2) t2).1 :: (prsE vr r n g2 false (pairE vr r n ((j : Int) == 0) (q1, q2) t2).1 (pairE vr r n ((j : Int) == 0) (q1, q2) t2).2).1, (prsE vr r n g2 false (pairE vr r n ((j : Int) == 0) (q1, q2) t2).1 (pairE vr r n ((j : Int) == 0) (q1, q2) t2).2).2) := if_neg fun hh => hh HE2Z.out
                  rw [e9, EM.out, show ((((j + 1 : Nat) : Int)) == 0) = false by simp; omega]
                  simp only [List.append_assoc, List.singleton_append]
                go_wp2
                go_roundg g2
                case measure => omega
                case rel => exact ⟨j + 1, A2, c2, tm, x1, x2, l ++ [(x1, x2)], by omega, by go_num, by show _ = _; rw [List.length_append, hxl2.out]; rfl, HP'.out, HI7.out, HG7.out⟩
              · have d2 : (t2.err == 0) = false := by simp [he2]
                replace HI : Hid (ivE vr r n tot t = (l, t2)) := by show _ = _; rw [HI.out, prsE_err he2]; show (l ++ [], t2) = _; rw [List.append_nil]
                clear he2
                obtain ⟨A0, c0, s0, hq⟩ := HG.out.q
                obtain ⟨vs, hn⟩ := hq.nst
                have hlo := HG.out.lo
                have HN := Lib.hid hn
                have hvl := Lib.hid hn.len
                have hon := (hn.mods HG.out.md fun k h1 _ h2 => by unfold Is at h2; omega).outer
                obtain ⟨Av, cv, rfl, _, _⟩ := ownS_slice hon
                obtain ⟨Ac, cc, rfl, _, _⟩ := ownS_slice HG.out.own
                have hown : (wr.alloc (.cells #[.slice Ac l.length cc] 110)).ownsRow (w.heap.size + 1 + 1) 110 1 (.slice Av vs.length cv) vs.length ((vs.zip xs).flatMap fun p => pshp.oc p.1 p.2) := ((Mods.refl No wr).alloc _).ownS hon fun _ _ hk => hk.elim
                have hnew := sees_new wr #[.slice Ac l.length cc] 110
                clear hq hn hon
                have p0 := HG.out.inb.cell 0; have p1 := HG.out.inb.cell 1
                simp only [List.getElem?_toArray, List.getElem?_cons_zero, List.getElem?_cons_succ] at p0 p1
                go_wp2_with (at_builtin; refine wpList_append_any _ rfl (.tmp 66) (.tmp 68) 72 rfl (w.heap.size + 1 + 1) 110 i1 (.slice none 0 0) 1 24 Try.underlying72 hi1 hy0 hy1 hy2 rfl (by decide) _ _ _ rfl hown (wr.heap.size + 1) _ 1 1 _ rfl hnew rfl (poc_one l Ac l.length cc) ?c1 ?c2 ?c3 ?_)
                case c1 => have := hvl.out; have := hbl.out; unfold maxLen; omega
                case c2 => have := hvl.out; have := hbl.out; omega
                case c3 => (try rw [World.size_alloc]); omega
                intro v5 W5 ho hg _
                have HF7 := Lib.hid (HG.out.fin HBB.out HN.out ho hg)
                have ht7 : Hid (t2.err = 0 → tot + k ≤ 1048576) := fun h9 => by
                  have := ivE_tot (vr := vr) (r := r) (n := n) (tot := tot) (s := t) (by rw [HI.out]; exact h9)
                  rw [EK.out] at this
                  exact this
                clear p0 p1 hown hnew ho hg HG HN
                have HE7 : Hid (FB = ((xs ++ [l]) ++ (ivsE vr r n g (tot + k) t2).1, (ivsE vr r n g (tot + k) t2).2)) := by
                  show _ = _
                  rw [HE.out]
                  have e9 : ivsE vr r n (g + 1) tot t = ((ivE vr r n tot t).1 :: (ivsE vr r n g (tot + (icE tot t).1) (ivE vr r n tot t).2).1, (ivsE vr r n g (tot + (icE tot t).1) (ivE vr r n tot t).2).2) := if_neg fun hh => hh HEZ.out
                  rw [e9, HI.out, EK.out]
                  simp only [List.append_assoc, List.singleton_append]
                go_wp2
                go_roundg g
                case measure => omega
                case rel => exact ⟨i + 1, tot + k, A, c, t2, xs ++ [l], by omega, by go_num, by go_num, by omega, ht7, by show _ = _; rw [List.length_append, hbl.out]; rfl, HE7.out, HF7.out⟩

end Go.Proofs.Ytkapmfopfddmbaa
