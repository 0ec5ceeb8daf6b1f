/-
  use, scan: what a block uses before defining it, and what it defines.
-/
import Derived.Test.YtncigbpeempnfaaLvSort
import Derived.Test.YtncigbpeempnfaaPk1
import Derived.Test.YtncigbpeempnfaaLvSound
import Derived.Deep.Cut
import Derived.Deep.CutRange
namespace Go.Proofs.Ytncigbpeempnfaa
open Go.RowKit
set_option linter.unusedVariables false

/-- The node that is being filled: in block X, which is new to w. -/
structure ND (w : World) (X N : Nat) (Su Sd : Int → Bool) (W : World) : Prop where
  ex : ∃ u d, Row W X 63 #[u, d, .slice none 0 0, .map none] ∧ MS23 W u N Su ∧ MS23 W d N Sd ∧ (∀ q, mapOf u = some q → w.heap.size ≤ q ∧ ¬ mapOf d = some q) ∧ ∀ q, mapOf d = some q → w.heap.size ≤ q
  xge : w.heap.size ≤ X
  blw : Below w.heap.size w W

section
variable {w W W' : World} {X N : Nat} {Su Sd Su' Sd' : Int → Bool}

theorem ND.congr (h : ND w X N Su Sd W) (h1 : ∀ z, Su' z = Su z) (h2 : ∀ z, Sd' z = Sd z) : ND w X N Su' Sd' W := by rw [show Su' = Su from funext h1, show Sd' = Sd from funext h2]; exact h

theorem ND.next (h : ND w X N Su Sd W) (hb : Below W.heap.size W W') : ND w X N Su Sd W' := by
  obtain ⟨u, d, h1, h2, h3, h4⟩ := h.ex
  exact ⟨⟨u, d, h1.below hb h1.lt, h2.below hb, h3.below hb, h4⟩, h.xge, h.blw.trans (hb.mono h.blw.size)⟩

theorem ND.new (w : World) (N : Nat) : ND w w.heap.size N (fun _ => false) (fun _ => false) (w.alloc (.cells #[.map none, .map none, .slice none 0 0, .map none] 63)) :=
  ⟨⟨_, _, Row.new _ _ _, MS23.nil _ _, MS23.nil _ _, ⟨fun q h => (by cases h), fun q h => (by cases h)⟩⟩, Nat.le_refl _, (Below.refl _ _).alloc (Nat.le_refl _) _⟩

/-- One of the two sets has been added to. -/
theorem ND.addU (h : ND w X N Su Sd W) {u d mv : Value} (hr : Row W X 63 #[u, d, .slice none 0 0, .map none]) (hd : MS23 W d N Sd) (hq : ∀ q, mapOf u = some q → w.heap.size ≤ q ∧ ¬ mapOf d = some q) (hq' : ∀ q, mapOf d = some q → w.heap.size ≤ q)
    (v : Int) (ha : AddP W X 0 63 #[u, d, .slice none 0 0, .map none] u N Su v W') : ND w X N (fun z => Su z || decide (z = v)) Sd W' := by
  obtain ⟨mv, h1, h2, h3⟩ := ha.ex
  have hS := h.blw.size
  refine ⟨⟨mv, d, h2, h1, hd.mods ha.mods fun q e hm => ?_, fun q e => ?_, hq'⟩, h.xge, h.blw.trans (ha.mods.below hS fun k hk => ?_)⟩
  · rcases hm with rfl | hm
    · exact hd.row hr e
    · exact (hq q hm).2 e
  · rcases h3 with h3 | ⟨p, h3, hp⟩
    · exact hq q (by rw [← h3]; exact e)
    · rw [h3] at e
      injection e with e
      subst e
      refine ⟨by omega, fun e => ?_⟩
      have := hd.lt e
      omega
  · rcases hk with rfl | hk
    · exact h.xge
    · exact (hq k hk).1

theorem ND.addD (h : ND w X N Su Sd W) {u d mv : Value} (hr : Row W X 63 #[u, d, .slice none 0 0, .map none]) (hu : MS23 W u N Su) (hq : ∀ q, mapOf u = some q → w.heap.size ≤ q ∧ ¬ mapOf d = some q) (hq' : ∀ q, mapOf d = some q → w.heap.size ≤ q)
    (v : Int) (ha : AddP W X 1 63 #[u, d, .slice none 0 0, .map none] d N Sd v W') : ND w X N Su (fun z => Sd z || decide (z = v)) W' := by
  obtain ⟨mv, h1, h2, h3⟩ := ha.ex
  have hS := h.blw.size
  refine ⟨⟨u, mv, h2, hu.mods ha.mods fun q e hm => ?_, h1, fun q e => ⟨(hq q e).1, fun e' => ?_⟩, fun q e => ?_⟩, h.xge, h.blw.trans (ha.mods.below hS fun k hk => ?_)⟩
  · rcases hm with rfl | hm
    · exact hu.row hr e
    · exact (hq q e).2 hm
  · rcases h3 with h3 | ⟨p, h3, hp⟩
    · exact (hq q e).2 (by rw [← h3]; exact e')
    · rw [h3] at e'
      injection e' with e'
      subst e'
      have := hu.lt e
      omega
  · rcases h3 with h3 | ⟨p, h3, hp⟩
    · exact hq' q (by rw [← h3]; exact e)
    · rw [h3] at e
      injection e with e
      subst e
      omega
  · rcases hk with rfl | hk
    · exact h.xge
    · exact hq' k hk

end

theorem def_any (w W : World) (X N : Nat) (Su Sd : Int → Bool) (v : Int) (h : ND w X N Su Sd W) (h0 : 0 ≤ v) (h1 : v < N) (hN : N ≤ 100000) :
    Calls Try.prog 40 #[.pointer (some ⟨X, 1, none⟩), .int .i64 v] W fun e w' => (∃ b, e = .returned (.bool b)) ∧ ND w X N Su (fun z => Sd z || decide (z = v)) w' ∧ RowK X W w' := by
  obtain ⟨u, d, hr, hu, hd, hq, hq'⟩ := h.ex
  refine (add23_any X 1 _ _ d N Sd v W hr rfl hd h0 h1 hN).mono ?_
  rintro e w' ⟨rfl, ha⟩
  exact ⟨⟨_, rfl⟩, h.addD (mv := d) hr hu hq hq' v ha, ha.rowk hd⟩

set_option maxRecDepth 100000 in
set_option maxHeartbeats 2000000 in
theorem use_any (w W : World) (X N : Nat) (Su Sd : Int → Bool) (v : Int) (h : ND w X N Su Sd W) (h0 : 0 ≤ v) (h1 : v < N) (hN : N ≤ 100000) :
    Calls Try.prog 45 #[.pointer (some ⟨X, 0, none⟩), .int .i64 v] W fun e w' => e = .returned (.tuple #[]) ∧ ND w X N (fun z => Su z || decide (z = v) && !Sd v) Sd w' ∧ RowK X W w' := by
  have hwf : (Lit.int .i64 v).wf = true := WalkArith.wf_i64 ⟨by omega, by omega⟩
  obtain ⟨u, d, hr, hu, hd, hq, hq'⟩ := h.ex
  have hc := add23_any X 0 _ _ u N Su v W hr rfl hu h0 h1 hN
  have HP := Lib.hid (fun w' ha => And.intro (h.addU (W' := w') (mv := u) hr hd hq hq' v ha) (ha.rowk hu))
  have HH := Lib.hid h
  have y1 := hr.k1
  cases hS : Sd v
  · have HC := Lib.hid hc
    clear hc hq hq' hr hu h
    go_enter Try.func45, Try.ntmps45
    go_wp2_with (first
      | (at_lookup; refine wpList_ms_has W rfl _ _ rfl rfl hd v rfl hwf ?_; rw [hS])
      | (go_at_call 40; refine (HC.out).mono ?_; rintro e w4 ⟨rfl, h4⟩; have H4 := Lib.hid h4; clear h4))
    go_end0
    exact ⟨rfl, (HP.out _ H4.out).1.congr (fun z => by simp) fun _ => rfl, (HP.out _ H4.out).2⟩
  · clear hc hq hq' hr hu h
    go_enter Try.func45, Try.ntmps45
    go_wp2_with (first
      | (at_lookup; refine wpList_ms_has W rfl _ _ rfl rfl hd v rfl hwf ?_; rw [hS]))
    go_end0
    exact ⟨rfl, HH.out.congr (fun z => by simp) fun _ => rfl, RowK.refl _ _⟩

/-- The node that is being filled, an instruction and its shape in their boxes. -/
structure IB (w : World) (X N : Nat) (Su Sd : Int → Bool) (xb : Nat) (ci : Array Value) (sb : Nat) (cs : Array Value) (W : World) : Prop where
  nd : ND w X N Su Sd W
  ri : Row W xb 56 ci
  rs : Row W sb 77 cs
  ni : xb ≠ X
  ns : sb ≠ X

theorem IB.to {w W W' : World} {X N : Nat} {Su Sd Su' Sd' : Int → Bool} {xb sb : Nat} {ci cs : Array Value} (h : IB w X N Su Sd xb ci sb cs W) (hn : ND w X N Su' Sd' W') (hk : RowK X W W') : IB w X N Su' Sd' xb ci sb cs W' :=
  ⟨hn, hk _ _ _ h.ni h.ri, hk _ _ _ h.ns h.rs, h.ni, h.ns⟩

theorem IB.congr {w W : World} {X N : Nat} {Su Sd Su' Sd' : Int → Bool} {xb sb : Nat} {ci cs : Array Value} (h : IB w X N Su Sd xb ci sb cs W) (h1 : ∀ z, Su' z = Su z) (h2 : ∀ z, Sd' z = Sd z) : IB w X N Su' Sd' xb ci sb cs W := { h with nd := h.nd.congr h1 h2 }

theorem scan_stepU (f : Int → Bool) (u ba bb : Bool) (a b z : Int) : (u || (ba && a == z || bb && b == z) && !f z) = ((u || ba && (decide (z = a) && !f a)) || bb && (decide (z = b) && !f b)) := by
  by_cases h1 : z = a
  · subst h1
    by_cases h2 : z = b
    · subst h2; cases u <;> cases ba <;> cases bb <;> simp
    · have : (b == z) = false := by simp; exact fun e => h2 e.symm
      rw [this, decide_eq_false h2]; cases u <;> cases ba <;> cases bb <;> simp
  · have h1' : (a == z) = false := by simp; exact fun e => h1 e.symm
    rw [h1', decide_eq_false h1]
    by_cases h2 : z = b
    · subst h2; cases u <;> cases ba <;> cases bb <;> simp
    · have : (b == z) = false := by simp; exact fun e => h2 e.symm
      rw [this, decide_eq_false h2]; cases u <;> cases ba <;> cases bb <;> simp

theorem scan_stepD (u bd : Bool) (d z : Int) : (u || bd && d == z) = (u || bd && decide (z = d)) := by
  by_cases h1 : z = d
  · subst h1; simp
  · have : (d == z) = false := by simp; exact fun e => h1 e.symm
    rw [this, decide_eq_false h1]

/-- The registers of a block that matter are registers of the function. -/
def BlkOk (N : Nat) (x : Blk) : Prop :=
  (∀ i ∈ x.code, (uA i.op = true → 0 ≤ i.a ∧ i.a < N) ∧ (uB i.op = true → 0 ≤ i.b ∧ i.b < N) ∧ (uD i.op = true → 0 ≤ i.d ∧ i.d < N)) ∧ (x.term.kind = 1 ∨ (x.term.kind = 2 ∨ x.term.kind = 3) ∧ 0 ≤ x.term.a ∧ x.term.a < N)

/-- A node that scan has made. -/
structure ScP (w : World) (N : Nat) (Su Sd : Int → Bool) (u d : Value) (W : World) : Prop where
  su : MS23 W u N Su
  sd : MS23 W d N Sd
  qu : ∀ q, mapOf u = some q → w.heap.size ≤ q ∧ ¬ mapOf d = some q
  qd : ∀ q, mapOf d = some q → w.heap.size ≤ q
  blw : Below w.heap.size w W

theorem ScP.mods {w W W' : World} {N : Nat} {Su Sd : Int → Bool} {u d : Value} {M : Nat → Prop} (h : ScP w N Su Sd u d W) (hm : Mods M W W') (hu : ∀ q, mapOf u = some q → ¬ M q) (hd : ∀ q, mapOf d = some q → ¬ M q) (hM : ∀ k, M k → w.heap.size ≤ k) : ScP w N Su Sd u d W' :=
  ⟨h.su.mods hm hu, h.sd.mods hm hd, h.qu, h.qd, h.blw.trans (hm.below h.blw.size hM)⟩

/-- The result's cell. -/
theorem node_end {w W : World} {N b : Nat} {Su Sd : Int → Bool} {u d : Option Nat} (h : ScP w N Su Sd (.map u) (.map d) W) (hr : Row W b 63 #[.map none, .map none, .slice none 0 0, .map none]) (hb : w.heap.size ≤ b) :
    ScP w N Su Sd (.map u) (.map d) ((((W.setCell ⟨b, 0, none⟩ (.map u)).setCell ⟨b, 1, none⟩ (.map d)).setCell ⟨b, 2, none⟩ (.slice none 0 0)).setCell ⟨b, 3, none⟩ (.map none)) ∧
    Row ((((W.setCell ⟨b, 0, none⟩ (.map u)).setCell ⟨b, 1, none⟩ (.map d)).setCell ⟨b, 2, none⟩ (.slice none 0 0)).setCell ⟨b, 3, none⟩ (.map none)) b 63 #[.map u, .map d, .slice none 0 0, .map none] := by
  refine ⟨h.mods ((((Mods.refl (Is b) W).put 0 _).put 1 _ |>.put 2 _).put 3 _) (fun q e hq => ?_) (fun q e hq => ?_) (fun k hk => ?_), ?_⟩
  · unfold Is at hq; subst hq; exact h.su.row hr e
  · unfold Is at hq; subst hq; exact h.sd.row hr e
  · unfold Is at hk; omega
  · have := (((hr.put 0 (.map u)).put 1 (.map d)).put 2 (.slice none 0 0)).put 3 (.map none)
    simpa using this

set_option maxRecDepth 100000 in
set_option maxHeartbeats 4000000 in
theorem scan_any (A : Option Addr) (x : Blk) (c N : Nat) (w : World) (hs : InsAt w w.heap.size A x.code) (hm : x.code.length ≤ 100000000) (hN : N ≤ 100000) (hok : BlkOk N x) :
    Calls Try.prog 35 #[.agg #[.slice A x.code.length c, .int .i64 x.term.kind, .int .i64 x.term.a, .int .i64 x.term.to, .int .i64 x.term.el]] w fun e w' => ∃ u d : Option Nat, e = .returned (.agg #[.map u, .map d, .slice none 0 0, .map none]) ∧ ScP w N (bUse x) (bDef x) (.map u) (.map d) w' := by
  obtain ⟨hoi, hot⟩ := hok
  have HU : Hid (∀ v, bUse x v = (lvU x.code v x.code.length || tUse x.term v && !lvD x.code v x.code.length)) := fun v => rfl
  have HDF : Hid (∀ v, bDef x v = lvD x.code v x.code.length) := fun v => rfl
  generalize bUse x = RU at *
  generalize bDef x = RD at *
  obtain ⟨xs, ⟨kk, ta, tt, el⟩⟩ := x
  dsimp only at *
  have HOI := Lib.hid hoi
  have HOT := Lib.hid hot
  have HX := Row.new w 34 #[.slice A xs.length c, .int .i64 kk, .int .i64 ta, .int .i64 tt, .int .i64 el]
  have hb0 : Below w.heap.size w ((w.alloc (.cells #[.slice A xs.length c, .int .i64 kk, .int .i64 ta, .int .i64 tt, .int .i64 el] 34)).alloc (.cells #[.map none, .map none, .slice none 0 0, .map none] 63)) := ((Below.refl _ _).alloc (Nat.le_refl _) _).alloc (by simp) _
  have HX := HX.alloc (.cells #[.map none, .map none, .slice none 0 0, .map none] 63)
  have HZ := Row.new (w.alloc (.cells #[.slice A xs.length c, .int .i64 kk, .int .i64 ta, .int .i64 tt, .int .i64 el] 34)) 63 #[.map none, .map none, .slice none 0 0, .map none]
  have hs0 := (hs.below hb0).more hb0.size
  have HB0 := Lib.hid hb0
  clear hs hb0 hoi hot
  go_enter Try.func35, Try.ntmps35
  go_upto_region 1 with fail
  generalize ((w.alloc (.cells #[.slice A xs.length c, .int .i64 kk, .int .i64 ta, .int .i64 tt, .int .i64 el] 34)).alloc (.cells #[.map none, .map none, .slice none 0 0, .map none] 63)) = W0 at *
  obtain ⟨b1, hb1⟩ : ∃ z, w.heap.size = z := ⟨_, rfl⟩
  obtain ⟨b2, hb2⟩ : ∃ z, b1 + 1 = z := ⟨_, rfl⟩
  have h1w : b1 < W0.heap.size := by have := HX.lt; omega
  have HZ2 : Row W0 b2 63 #[.map none, .map none, .slice none 0 0, .map none] := by rw [← hb2, ← hb1]; simpa using HZ
  have h2w : b2 < W0.heap.size := HZ2.lt
  rw [hb1] at HX
  simp only [hb1, hb2]
  have HB1 := Lib.hid hb1
  have HB2 : Hid (w.heap.size ≤ b2) := by rw [Hid]; omega
  clear hb1 hb2 HZ
  go_upto_region 2 with fail
  have HN0 := Lib.hid (ND.new W0 N)
  obtain ⟨X, hX⟩ : ∃ z, W0.heap.size = z := ⟨_, rfl⟩
  generalize (W0.alloc (.cells #[.map none, .map none, .slice none 0 0, .map none] 63)) = W1 at *
  rw [hX] at HN0 ⊢
  have hX1 := HX.below HN0.out.blw h1w
  have y0 := hX1.k0; have y1 := hX1.k1; have y2 := hX1.k2; have y3 := hX1.k3; have y4 := hX1.k4
  rw [hX] at h1w h2w
  have HXX := Lib.hid hX
  clear hX
  have HOF := fun op W => of_any op W
  go_upto_region 3 with fail
  clear y0 y1 y2 y3 y4 hX1
  go_loopg [11] xs.length (fun q i wr => ∃ j : Nat, j + q = xs.length ∧ i = .int .i64 j ∧ Hid (ND W0 X N (fun z => lvU xs z j) (fun z => lvD xs z j) wr))
  case atStart => exact ⟨0, by omega, rfl, HN0.out.congr (fun z => rfl) fun z => lvD_zero _ _⟩
  case round =>
    clear HN0
    obtain ⟨j, hj, rfl, HP⟩ := hrel
    cases gk with
    | zero =>
      obtain rfl : j = xs.length := by omega
      have hX := HX.below HP.out.blw (by have := HXX.out; omega)
      have y0 := hX.k0; have y1 := hX.k1; have y2 := hX.k2; have y3 := hX.k3; have y4 := hX.k4
      have hd0 : Hid (∀ z, RU z = ((fun z => lvU xs z xs.length) z || !(kk == 1) && (decide (z = ta) && !lvD xs ta xs.length))) := fun z => by
        rw [HU.out]
        show (lvU xs z xs.length || (kk != 1 && ta == z) && !lvD xs z xs.length) = _
        have := scan_stepU (fun z => lvD xs z xs.length) (lvU xs z xs.length) (kk != 1) false ta 0 z
        simp only [Bool.false_and, Bool.or_false] at this
        rw [this]; rfl
      have HEND : Hid (∀ W, ND W0 X N RU RD W → ∃ u d, Row W X 63 #[.map u, .map d, .slice none 0 0, .map none] ∧ ScP w N RU RD (.map u) (.map d) W ∧ Row W b2 63 #[.map none, .map none, .slice none 0 0, .map none]) := fun W h => by
        obtain ⟨u, d, h1, h2, h3, h4, h5⟩ := h.ex
        have hw := HB0.out.size
        obtain ⟨mu, rfl⟩ := h2.shape
        obtain ⟨md, rfl⟩ := h3.shape
        refine ⟨mu, md, h1, ⟨h2, h3, fun q e => ⟨?_, (h4 q e).2⟩, fun q e => ?_, HB0.out.trans (h.blw.mono hw)⟩, HZ2.below h.blw (by have := HXX.out; omega)⟩
        · have := (h4 q e).1; omega
        · have := h5 q e; omega
      clear HX hX
      rcases HOT.out with e1 | ⟨e1, e2, e3⟩
      · have e2 : (kk == 2) = false := by rw [e1]; rfl
        have e3 : (kk == 3) = false := by rw [e1]; rfl
        have e4 : (kk == 1) = true := by rw [e1]; rfl
        obtain ⟨u, d, h1, h2, h3⟩ := HEND.out wr (HP.out.congr (fun z => by rw [hd0.out, e4]; simp) fun z => HDF.out z)
        have h2 := node_end h2 h3 HB2.out
        have f0 := h1.k0; have f1 := h1.k1; have f2 := h1.k2; have f3 := h1.k3
        have g0 := h3.frozen 0; have g1 := h3.frozen 1; have g2 := h3.frozen 2; have g3 := h3.frozen 3
        have c0 := h3.k0; have c1 := h3.k1; have c2 := h3.k2; have c3 := h3.k3
        clear e1 e4 hd0 HEND HP
        go_wp2_with fail
        have HS := Lib.hid h2.1
        have HK := Lib.hid h2.2
        clear h2 f0 f1 f2 f3 g0 g1 g2 g3 c0 c1 c2 c3 h1 h3
        refine bodyPost_ret (v := .agg #[.map u, .map d, .slice none 0 0, .map none]) ?_ rfl ⟨_, _, rfl, HS.out⟩
        exact results_cell_row rfl _ _ b2 63 #[.map u, .map d, .slice none 0 0, .map none] (0, 0) _ rfl HK.out Try.underlying63 rfl rfl
      · have e5 : ((kk == 2) = true) ∨ ((kk == 2) = false ∧ (kk == 3) = true) := by rcases e1 with e1 | e1 <;> rw [e1] <;> simp
        have e4 : (kk == 1) = false := by rcases e1 with e1 | e1 <;> rw [e1] <;> rfl
        have HC := Lib.hid (use_any W0 wr X N _ _ ta HP.out e2 e3 hN)
        have HEE : Hid (∀ W, ND W0 X N (fun z => lvU xs z xs.length || decide (z = ta) && !lvD xs ta xs.length) (fun z => lvD xs z xs.length) W → _) := fun W h => HEND.out W (h.congr (fun z => by rw [hd0.out, e4]; simp) fun z => HDF.out z)
        clear e4 hd0 HEND HP e1
        rcases e5 with e5 | ⟨e5, e6⟩
        · go_upto_region 15 with (go_at_call 45; refine (HC.out).mono ?_; rintro e w4 ⟨rfl, h4, _⟩; have H4 := Lib.hid h4; clear h4)
          obtain ⟨u, d, h1, h2, h3⟩ := HEE.out _ H4.out
          have h2 := node_end h2 h3 HB2.out
          have f0 := h1.k0; have f1 := h1.k1; have f2 := h1.k2; have f3 := h1.k3
          have g0 := h3.frozen 0; have g1 := h3.frozen 1; have g2 := h3.frozen 2; have g3 := h3.frozen 3
          have c0 := h3.k0; have c1 := h3.k1; have c2 := h3.k2; have c3 := h3.k3
          clear HEE H4 HC y0 y1 y2 y3 y4
          go_wp2_with fail
          have HS := Lib.hid h2.1
          have HK := Lib.hid h2.2
          clear h2 f0 f1 f2 f3 g0 g1 g2 g3 c0 c1 c2 c3 h1 h3
          refine bodyPost_ret (v := .agg #[.map u, .map d, .slice none 0 0, .map none]) ?_ rfl ⟨_, _, rfl, HS.out⟩
          exact results_cell_row rfl _ _ b2 63 #[.map u, .map d, .slice none 0 0, .map none] (0, 0) _ rfl HK.out Try.underlying63 rfl rfl
        · go_upto_region 15 with (go_at_call 45; refine (HC.out).mono ?_; rintro e w4 ⟨rfl, h4, _⟩; have H4 := Lib.hid h4; clear h4)
          obtain ⟨u, d, h1, h2, h3⟩ := HEE.out _ H4.out
          have h2 := node_end h2 h3 HB2.out
          have f0 := h1.k0; have f1 := h1.k1; have f2 := h1.k2; have f3 := h1.k3
          have g0 := h3.frozen 0; have g1 := h3.frozen 1; have g2 := h3.frozen 2; have g3 := h3.frozen 3
          have c0 := h3.k0; have c1 := h3.k1; have c2 := h3.k2; have c3 := h3.k3
          clear HEE H4 HC y0 y1 y2 y3 y4
          go_wp2_with fail
          have HS := Lib.hid h2.1
          have HK := Lib.hid h2.2
          clear h2 f0 f1 f2 f3 g0 g1 g2 g3 c0 c1 c2 c3 h1 h3
          refine bodyPost_ret (v := .agg #[.map u, .map d, .slice none 0 0, .map none]) ?_ rfl ⟨_, _, rfl, HS.out⟩
          exact results_cell_row rfl _ _ b2 63 #[.map u, .map d, .slice none 0 0, .map none] (0, 0) _ rfl HK.out Try.underlying63 rfl rfl
    | succ g1 =>
      have hlt : j < xs.length := by omega
      obtain ⟨b', o, hA, hb, hx⟩ := (hs0.below HP.out.blw).at_ hlt
      subst hA
      have HNU : Hid (∀ z, lvU xs z (j + 1) = (lvU xs z j || iUse xs[j] z && !lvD xs z j)) := fun z => lvU_succ xs z j hlt
      have HND : Hid (∀ z, lvD xs z (j + 1) = (lvD xs z j || iDef xs[j] z)) := fun z => lvD_succ xs z j hlt
      obtain ⟨ha, hbb, hd⟩ := HOI.out xs[j] (List.getElem_mem hlt)
      generalize xs[j] = x at *
      obtain ⟨op, d, a, b, imm⟩ := x
      have f0 := hx.c0; have f1 := hx.c1; have f2 := hx.c2; have f3 := hx.c3; have f4 := hx.c4
      dsimp only at f0 f1 f2 f3 f4 ha hbb hd
      clear hx
      have HA := Lib.hid ha
      have HBB := Lib.hid hbb
      have HD := Lib.hid hd
      clear ha hbb hd
      go_upto_region 5 with fail
      have HI := Row.new wr 56 #[.int .i64 op, .int .i64 d, .int .i64 a, .int .i64 b, .int .i64 imm]
      have hba : Below wr.heap.size wr (wr.alloc (.cells #[.int .i64 op, .int .i64 d, .int .i64 a, .int .i64 b, .int .i64 imm] 56)) := (Below.refl _ _).alloc (Nat.le_refl _) _
      have HP2 := Lib.hid (HP.out.next hba)
      have hxX : wr.heap.size ≠ X := by obtain ⟨u, d, h1, _⟩ := HP.out.ex; have := h1.lt; omega
      clear HP f0 f1 f2 f3 f4 hba
      generalize (wr.alloc (.cells #[.int .i64 op, .int .i64 d, .int .i64 a, .int .i64 b, .int .i64 imm] 56)) = W5 at *
      obtain ⟨xb, hxb⟩ : ∃ z, wr.heap.size = z := ⟨_, rfl⟩
      rw [hxb] at HI hxX ⊢
      clear hxb
      have f0 := HI.k0; have f1 := HI.k1; have f2 := HI.k2; have f3 := HI.k3; have f4 := HI.k4
      have HO := Lib.hid (HOF op W5)
      unfold shp at HO
      obtain ⟨ba, hea⟩ : ∃ z, uA op = z := ⟨_, rfl⟩
      obtain ⟨bb, heb⟩ : ∃ z, uB op = z := ⟨_, rfl⟩
      obtain ⟨bd, hed⟩ : ∃ z, uD op = z := ⟨_, rfl⟩
      have HU0 : Hid (∀ z, iUse ⟨op, d, a, b, imm⟩ z = (ba && a == z || bb && b == z)) := fun z => by subst hea heb; rfl
      have HD0 : Hid (∀ z, iDef ⟨op, d, a, b, imm⟩ z = (bd && d == z)) := fun z => by subst hed; rfl
      rw [hea] at HA HO
      rw [heb] at HBB HO
      rw [hed] at HD HO
      clear hea heb hed HOF
      go_upto_region 6 with (go_at_call 44; refine (HO.out).mono ?_; rintro e w3 ⟨rfl, hbw⟩; have HI3 := Lib.hid (HI.below hbw HI.lt); have HP3 := Lib.hid (HP2.out.next hbw); clear hbw HI HP2)
      generalize uO op = bo at *
      generalize uI op = bi at *
      have HS := Row.new w3 77 #[.bool bd, .bool ba, .bool bb, .bool bi]
      have hba : Below w3.heap.size w3 (w3.alloc (.cells #[.bool bd, .bool ba, .bool bb, .bool bi] 77)) := (Below.refl _ _).alloc (Nat.le_refl _) _
      have HIB : Hid (IB W0 X N (fun z => lvU xs z j) (fun z => lvD xs z j) xb #[.int .i64 op, .int .i64 d, .int .i64 a, .int .i64 b, .int .i64 imm] w3.heap.size #[.bool bd, .bool ba, .bool bb, .bool bi] (w3.alloc (.cells #[.bool bd, .bool ba, .bool bb, .bool bi] 77))) :=
        ⟨HP3.out.next hba, HI3.out.below hba HI3.out.lt, HS, hxX, by obtain ⟨u, d, h1, _⟩ := HP3.out.ex; have := h1.lt; omega⟩
      clear f0 f1 f2 f3 f4 HS hba HP3 HI3 HO hxX
      generalize (w3.alloc (.cells #[.bool bd, .bool ba, .bool bb, .bool bi] 77)) = W6 at *
      obtain ⟨sb, hsb⟩ : ∃ z, w3.heap.size = z := ⟨_, rfl⟩
      rw [hsb] at HIB ⊢
      clear hsb
      have y0 := HIB.out.rs.k0; have y1 := HIB.out.rs.k1; have y2 := HIB.out.rs.k2; have y3 := HIB.out.rs.k3
      have f0 := HIB.out.ri.k0; have f1 := HIB.out.ri.k1; have f2 := HIB.out.ri.k2; have f3 := HIB.out.ri.k3; have f4 := HIB.out.ri.k4
      have HNL := Lib.hid hN
      have HUSE := Lib.hid (fun (Su Sd : Int → Bool) (v : Int) (W : World) (h : ND W0 X N Su Sd W) (h0 : 0 ≤ v) (h1 : v < N) => use_any W0 W X N Su Sd v h h0 h1 hN)
      go_upto_if 22 with fail
      go_cut [] from 12 to 37 (fun wx => Hid (IB W0 X N (fun z => lvU xs z j || ba && (decide (z = a) && !lvD xs a j)) (fun z => lvD xs z j) xb #[.int .i64 op, .int .i64 d, .int .i64 a, .int .i64 b, .int .i64 imm] sb #[.bool bd, .bool ba, .bool bb, .bool bi] wx))
      case first =>
        cases ba
        · go_wp2_with fail
          go_meet
          case rel => exact HIB.out.congr (fun z => by simp) fun _ => rfl
        · have HC := Lib.hid (HUSE.out _ _ a W6 HIB.out.nd (HA.out rfl).1 (HA.out rfl).2)
          go_wp2_with (go_at_call 45; refine (HC.out).mono ?_; rintro e w4 ⟨rfl, h4, h5⟩; have H4 := Lib.hid (HIB.out.to h4 h5); clear h4 h5)
          go_meet
          case rel => exact H4.out.congr (fun z => by simp) fun _ => rfl
      case rest =>
        have HIB2 := hcut
        clear hcut HIB y0 y1 y2 y3 f0 f1 f2 f3 f4
        have y0 := HIB2.out.rs.k0; have y1 := HIB2.out.rs.k1; have y2 := HIB2.out.rs.k2; have y3 := HIB2.out.rs.k3
        have f0 := HIB2.out.ri.k0; have f1 := HIB2.out.ri.k1; have f2 := HIB2.out.ri.k2; have f3 := HIB2.out.ri.k3; have f4 := HIB2.out.ri.k4
        go_upto_if 27 with fail
        go_cut [] from 12 to 37 (fun wx => Hid (IB W0 X N (fun z => lvU xs z (j + 1)) (fun z => lvD xs z j) xb #[.int .i64 op, .int .i64 d, .int .i64 a, .int .i64 b, .int .i64 imm] sb #[.bool bd, .bool ba, .bool bb, .bool bi] wx))
        case first =>
          have HE : Hid (∀ z, lvU xs z (j + 1) = ((lvU xs z j || ba && (decide (z = a) && !lvD xs a j)) || bb && (decide (z = b) && !lvD xs b j))) := fun z => by rw [HNU.out, HU0.out]; exact scan_stepU (fun z => lvD xs z j) _ _ _ _ _ _
          cases bb
          · go_wp2_with fail
            go_meet
            case rel => exact HIB2.out.congr (fun z => by rw [HE.out]; simp) fun _ => rfl
          · have HC := Lib.hid (HUSE.out _ _ b wc HIB2.out.nd (HBB.out rfl).1 (HBB.out rfl).2)
            go_wp2_with (go_at_call 45; refine (HC.out).mono ?_; rintro e w4 ⟨rfl, h4, h5⟩; have H4 := Lib.hid (HIB2.out.to h4 h5); clear h4 h5)
            go_meet
            case rel => exact H4.out.congr (fun z => by rw [HE.out]; simp) fun _ => rfl
        case rest =>
          have HIB3 := hcut
          clear hcut HIB2 y0 y1 y2 y3 f0 f1 f2 f3 f4
          rename World => wd
          have y0 := HIB3.out.rs.k0
          have f1 := HIB3.out.ri.k1
          have HE : Hid (∀ z, lvD xs z (j + 1) = (lvD xs z j || bd && decide (z = d))) := fun z => by rw [HND.out, HD0.out]; exact scan_stepD _ _ _ _
          cases bd
          · go_wp2_with fail
            go_roundg g1
            case measure => omega
            case rel => exact ⟨j + 1, by omega, by go_num, HIB3.out.nd.congr (fun _ => rfl) fun z => by rw [HE.out]; simp⟩
          · have HC := Lib.hid (def_any W0 wd X N _ _ d HIB3.out.nd (HD.out rfl).1 (HD.out rfl).2 HNL.out)
            go_wp2_with (go_at_call 40; refine (HC.out).mono ?_; rintro e w4 ⟨⟨bz, rfl⟩, h4, h5⟩; have H4 := Lib.hid h4; clear h4 h5)
            go_roundg g1
            case measure => omega
            case rel => exact ⟨j + 1, by omega, by go_num, H4.out.congr (fun _ => rfl) fun z => by rw [HE.out]; simp⟩

end Go.Proofs.Ytncigbpeempnfaa
