/-
  Check of the reference of layer 14 (three regions of it are written by wip/lab/genbcref.py).
-/
import Derived.Test.YtapdheabblgbaaaGreatPk5
import Derived.Test.YtapdheabblgbaaaGreatPk4
import Derived.Test.YtapdheabblgbaaaGreatTrRef
import Derived.Test.YtapdheabblgbaaaGreatPk1
import Derived.Deep.Cut
import Derived.Deep.CutRange
namespace Go.Proofs.YtapdheabblgbaaaGreat
open Go.RowKit
set_option linter.unusedVariables false
set_option linter.unusedSimpArgs false

/-- What the reference's Check carries: the boxes, the result so far, its list, the rows; more boxes. -/
structure KC (w : World) (bt mt : Tm) (A1 : Option Addr) (n1 c1 : Nat) (A2 : Option Addr) (n2 c2 rb : Nat) (vr : Value) (rows : List Rw) (E : List (Nat × TypeId × Array Value)) (v : Value) (r : Rs) (W : World) : Prop where
  blw : Below w.heap.size w W
  b : Row W w.heap.size 48 #[.slice A1 n1 c1, .int .i64 bt.kind, .int .i64 bt.a, .int .i64 bt.to, .int .i64 bt.el]
  m : Row W (w.heap.size + 1) 56 #[.slice A2 n2 c2, .int .i64 mt.kind, .int .i64 mt.a, .int .i64 mt.to, .int .i64 mt.el]
  z : Row W (w.heap.size + 1 + 1) 52 #[.slice none 0 0, .int .i64 0, .int .i64 0, .int .i64 0, .int .i64 0]
  lt : w.heap.size + 1 + 1 < rb
  rr : Row W rb 52 #[v, .int .i64 r.err, .int .i64 (r.at_ : Int), .int .i64 (r.steps : Int), .int .i64 (r.largest : Int)]
  out : PL w v r.out W
  rows : RL Rw.cells 6 94 w vr rows W
  ex : ∀ z ∈ E, Row W z.1 z.2.1 z.2.2 ∧ ¬ z.1 = rb
section
variable {w : World} {bt mt : Tm} {A1 : Option Addr} {n1 c1 : Nat} {A2 : Option Addr} {n2 c2 rb : Nat} {vr : Value} {rows : List Rw} {E E' : List (Nat × TypeId × Array Value)} {v : Value} {r : Rs} {W W' : World}
theorem KC.next (h : KC w bt mt A1 n1 c1 A2 n2 c2 rb vr rows E v r W) (hb : Below W.heap.size W W') : KC w bt mt A1 n1 c1 A2 n2 c2 rb vr rows E v r W' :=
  ⟨h.blw.trans (hb.mono h.blw.size), h.b.below hb h.b.lt, h.m.below hb h.m.lt, h.z.below hb h.z.lt, h.lt, h.rr.below hb h.rr.lt, h.out.next hb, h.rows.next hb, fun z hz => ⟨(h.ex z hz).1.below hb (h.ex z hz).1.lt, (h.ex z hz).2⟩⟩
theorem KC.sub (h : KC w bt mt A1 n1 c1 A2 n2 c2 rb vr rows E v r W) (hs : ∀ z ∈ E', z ∈ E) : KC w bt mt A1 n1 c1 A2 n2 c2 rb vr rows E' v r W := { h with ex := fun z hz => h.ex z (hs z hz) }
/-- Another box. -/
theorem KC.box (h : KC w bt mt A1 n1 c1 A2 n2 c2 rb vr rows E v r W) (T : TypeId) (cs : Array Value) : KC w bt mt A1 n1 c1 A2 n2 c2 rb vr rows ((W.heap.size, T, cs) :: E) v r (W.alloc (.cells cs T)) :=
  { h.next ((Below.refl W.heap.size W).alloc (Nat.le_refl _) (.cells cs T)) with
    ex := fun z hz => by
      rcases List.mem_cons.1 hz with rfl | hz
      · exact ⟨Row.new W T cs, fun e => by have := h.rr.lt; dsimp only at e; omega⟩
      · exact (h.next ((Below.refl W.heap.size W).alloc (Nat.le_refl _) (.cells cs T))).ex z hz }
/-- The result is stored. -/
theorem KC.store (h : KC w bt mt A1 n1 c1 A2 n2 c2 rb vr rows E v r W) {v' : Value} {r' : Rs} (hp : PL w v' r'.out W) :
    KC w bt mt A1 n1 c1 A2 n2 c2 rb vr rows E v' r' (((((W.setCell ⟨rb, 0, none⟩ v').setCell ⟨rb, 1, none⟩ (.int .i64 r'.err)).setCell ⟨rb, 2, none⟩ (.int .i64 (r'.at_ : Int))).setCell ⟨rb, 3, none⟩ (.int .i64 (r'.steps : Int))).setCell ⟨rb, 4, none⟩ (.int .i64 (r'.largest : Int))) := by
  have hm := mods5 W rb v' (.int .i64 r'.err) (.int .i64 (r'.at_ : Int)) (.int .i64 (r'.steps : Int)) (.int .i64 (r'.largest : Int))
  have hb := blw5 (show w.heap.size ≤ rb by have := h.lt; omega) h.blw v' (.int .i64 r'.err) (.int .i64 (r'.at_ : Int)) (.int .i64 (r'.steps : Int)) (.int .i64 (r'.largest : Int))
  have hl := h.lt
  exact ⟨hb, h.b.mods hm (by unfold Is; omega), h.m.mods hm (by unfold Is; omega), h.z.mods hm (by unfold Is; omega), h.lt, h.rr.put5 _ _ _ _ _,
    ⟨hm.ownS hp.own fun k hk hs => own_row_neS hp.own h.rr (by decide) k hk hs, hb⟩, ⟨hm.ownS h.rows.own fun k hk hs => own_row_neS h.rows.own h.rr (by decide) k hk hs, hb⟩,
    fun z hz => ⟨(h.ex z hz).1.mods hm (h.ex z hz).2, (h.ex z hz).2⟩⟩
/-- The position is stored. -/
theorem KC.putAt (h : KC w bt mt A1 n1 c1 A2 n2 c2 rb vr rows E v r W) (k : Nat) :
    KC w bt mt A1 n1 c1 A2 n2 c2 rb vr rows E v { r with at_ := k } (W.setCell ⟨rb, 2, none⟩ (.int .i64 (k : Int))) := by
  have hm := (Mods.refl (Is rb) W).put 2 (.int .i64 (k : Int))
  have hb := h.blw.setCell (p := ⟨rb, 2, none⟩) (show w.heap.size ≤ rb by have := h.lt; omega) (.int .i64 (k : Int))
  have hl := h.lt
  exact ⟨hb, h.b.mods hm (by unfold Is; omega), h.m.mods hm (by unfold Is; omega), h.z.mods hm (by unfold Is; omega), h.lt, h.rr.put 2 _,
    ⟨hm.ownS h.out.own fun k hk hs => own_row_neS h.out.own h.rr (by decide) k hk hs, hb⟩, ⟨hm.ownS h.rows.own fun k hk hs => own_row_neS h.rows.own h.rr (by decide) k hk hs, hb⟩,
    fun z hz => ⟨(h.ex z hz).1.mods hm (h.ex z hz).2, (h.ex z hz).2⟩⟩
/-- The list of the result lives on when the answer's cell is written. -/
theorem KC.putZ (h : KC w bt mt A1 n1 c1 A2 n2 c2 rb vr rows E v r W) (a0 a1 a2 a3 a4 : Value) : Nonempty (PL w v r.out (((((W.setCell ⟨w.heap.size + 1 + 1, 0, none⟩ a0).setCell ⟨w.heap.size + 1 + 1, 1, none⟩ a1).setCell ⟨w.heap.size + 1 + 1, 2, none⟩ a2).setCell ⟨w.heap.size + 1 + 1, 3, none⟩ a3).setCell ⟨w.heap.size + 1 + 1, 4, none⟩ a4)) :=
  have hm := mods5 W (w.heap.size + 1 + 1) a0 a1 a2 a3 a4
  ⟨⟨hm.ownS h.out.own fun k hk hs => own_row_neS h.out.own h.z (by decide) k hk hs, blw5 (show w.heap.size ≤ w.heap.size + 1 + 1 by omega) h.blw a0 a1 a2 a3 a4⟩⟩
end

/-- The contracts over checks as data. -/
theorem rgrow_rs {w0 : World} {A : Option Addr} {l : List Pr} {c : Nat} {w : World} (hP : PL w0 (.slice A l.length c) l w) (A0 : Option Addr) (c0 : Nat) (r : Rs) (most : Int) (k : Nat) (hs : r.steps ≤ 1000000000000) (hn0 : r.out.length ≤ 400000) (hn : l.length ≤ 400000) (hl : r.largest ≤ 400000) :
    Calls Tryz.prog 46 #[.agg #[.slice A0 (r).out.length c0, .int .i64 (r).err, .int .i64 ((r).at_ : Int), .int .i64 ((r).steps : Int), .int .i64 ((r).largest : Int)], .slice A l.length c, .int .i64 most, .int .i64 (k : Int)] w fun x w' => ∃ A' c', x = .returned (.agg #[.slice A' (r.grow l most k).out.length c', .int .i64 (r.grow l most k).err, .int .i64 ((r.grow l most k).at_ : Int), .int .i64 ((r.grow l most k).steps : Int), .int .i64 ((r.grow l most k).largest : Int)]) ∧ PL w0 (.slice A' (r.grow l most k).out.length c') (r.grow l most k).out w' ∧ Below w.heap.size w w' := by
  refine (rgrow_any A0 r.out.length c0 r.err (r.at_ : Int) most (k : Int) r.steps r.largest A l.length c w hs (by omega) (by omega) (by omega)).mono ?_
  rintro x w' ⟨rfl, hb⟩
  unfold Rs.grow
  by_cases hm : most < (l.length : Int)
  · rw [if_pos hm, if_pos hm]
    exact ⟨none, 0, rfl, (PL.nil w0).next (hP.blw.trans (hb.mono hP.blw.size)), hb⟩
  · rw [if_neg hm, if_neg hm]
    exact ⟨A, c, rfl, hP.next hb, hb⟩
theorem ruse_rs {w0 : World} {A : Option Addr} {c : Nat} {w : World} {r : Rs} (hP : PL w0 (.slice A r.out.length c) r.out w) (v g : Int) (k : Nat) (hs : r.steps ≤ 1000000000000) (hn0 : r.out.length ≤ 400000) (hg : 0 ≤ g ∧ g ≤ 1000000) :
    Calls Tryz.prog 50 #[.agg #[.slice A (r).out.length c, .int .i64 (r).err, .int .i64 ((r).at_ : Int), .int .i64 ((r).steps : Int), .int .i64 ((r).largest : Int)], .int .i64 v, .int .i64 g, .int .i64 (k : Int)] w fun x w' => ∃ A' c', x = .returned (.agg #[.slice A' (r.use v g k).out.length c', .int .i64 (r.use v g k).err, .int .i64 ((r.use v g k).at_ : Int), .int .i64 ((r.use v g k).steps : Int), .int .i64 ((r.use v g k).largest : Int)]) ∧ PL w0 (.slice A' (r.use v g k).out.length c') (r.use v g k).out w' ∧ Below w.heap.size w w' := by
  refine (ruse_any A r.out c r.err (r.at_ : Int) v g (k : Int) r.steps r.largest w w.heap.size hP.sees (Nat.le_refl _) hs (by omega) hg).mono ?_
  rintro x w' ⟨rfl, hb⟩
  unfold Rs.use
  by_cases hm : hasP r.out (v, 2 * g) = true
  · rw [if_pos hm, if_pos hm]
    exact ⟨A, c, rfl, hP.next hb, hb⟩
  · rw [if_neg hm, if_neg hm]
    exact ⟨none, 0, rfl, (PL.nil w0).next (hP.blw.trans (hb.mono hP.blw.size)), hb⟩
/-- The elementary operations of an instruction, one after another. -/
def insA (u : In) (v : Mi) (k : Nat) (r : Rs) : Rs := if uA u.op = true then r.use u.a v.a k else r
def insB (u : In) (v : Mi) (k : Nat) (r : Rs) : Rs := if uB u.op = true ∧ r.err = 0 then r.use u.b v.b k else r
def insD (most : Int) (u : In) (v : Mi) (k : Nat) (r : Rs) : Rs := if uD u.op = true ∧ r.err = 0 then r.grow (dfP r.out u.d (2 * v.d)) most k else r
theorem insA_step {most : Int} {u : In} {v : Mi} {k : Nat} {r : Rs} (h0 : r.err = 0) : foldE most (if uA u.op = true then [EOp.us u.a v.a k] else []) r = insA u v k r := by
  unfold insA
  split
  · rw [foldE_cons, foldE_nil]
    unfold stepE
    rw [if_pos h0]
  · rfl
theorem insB_step {most : Int} {u : In} {v : Mi} {k : Nat} {r : Rs} : foldE most (if uB u.op = true then [EOp.us u.b v.b k] else []) r = insB u v k r := by
  unfold insB
  by_cases h1 : uB u.op = true
  · rw [if_pos h1, foldE_cons, foldE_nil]
    unfold stepE
    by_cases h2 : r.err = 0
    · rw [if_pos h2, if_pos ⟨h1, h2⟩]
    · rw [if_neg h2, if_neg fun h => h2 h.2]
  · rw [if_neg h1, if_neg fun h => h1 h.1, foldE_nil]
theorem insD_step {most : Int} {u : In} {v : Mi} {k : Nat} {r : Rs} : foldE most (if uD u.op = true then [EOp.df u.d v.d k] else []) r = insD most u v k r := by
  unfold insD
  by_cases h1 : uD u.op = true
  · rw [if_pos h1, foldE_cons, foldE_nil]
    unfold stepE
    by_cases h2 : r.err = 0
    · rw [if_pos h2, if_pos ⟨h1, h2⟩]
    · rw [if_neg h2, if_neg fun h => h2 h.2]
  · rw [if_neg h1, if_neg fun h => h1 h.1, foldE_nil]
theorem ins_fold {most : Int} {u : In} {v : Mi} {k : Nat} {r : Rs} (h0 : r.err = 0) : foldE most (insOps u v k) r = insD most u v k (insB u v k (insA u v k r)) := by
  unfold insOps
  rw [foldE_append, foldE_append, insA_step h0, insB_step, insD_step]
/-- The registers of a machine instruction that reads or writes them. -/
theorem RI.one {R L : List Int} {s : Nat} {r : Rs} (h : RI R L s r) (hRL : R.length * L.length ≤ 400000) (most : Int) (b : Bool) (e : EOp) (he : b = true → e.In R L) : RI R L (s + 1) (foldE most (if b = true then [e] else []) r) := by
  cases b
  · exact h.mono (Nat.le_succ _)
  · exact h.step hRL (he rfl) most
theorem RI.insA {R L : List Int} {s : Nat} {r : Rs} {u : In} {v : Mi} {k : Nat} (h : RI R L s r) (hRL : R.length * L.length ≤ 400000) (h0 : r.err = 0) (hin : ∀ e ∈ insOps u v k, e.In R L) : RI R L (s + 1) (insA u v k r) := by
  rw [← insA_step (most := 0) h0]
  exact h.one hRL 0 _ _ fun hb => hin _ (by unfold insOps; rw [if_pos hb]; simp)
theorem RI.insB {R L : List Int} {s : Nat} {r : Rs} {u : In} {v : Mi} {k : Nat} (h : RI R L s r) (hRL : R.length * L.length ≤ 400000) (hin : ∀ e ∈ insOps u v k, e.In R L) : RI R L (s + 1) (insB u v k r) := by
  rw [← insB_step (most := 0)]
  exact h.one hRL 0 _ _ fun hb => hin _ (by unfold insOps; rw [if_pos hb]; simp)
theorem RI.insD {R L : List Int} {s : Nat} {r : Rs} {u : In} {v : Mi} {k : Nat} {most : Int} (h : RI R L s r) (hRL : R.length * L.length ≤ 400000) (hin : ∀ e ∈ insOps u v k, e.In R L) : RI R L (s + 1) (insD most u v k r) := by
  rw [← insD_step]
  exact h.one hRL most _ _ fun hb => hin _ (by unfold insOps; rw [if_pos hb]; simp)
/-- What stands behind the rows: the test of the terminator, and the position. -/
def trmE (bt mt : Tm) (k : Nat) (r : Rs) : Rs := if ¬ bt.kind = 1 ∧ r.err = 0 then r.use bt.a mt.a k else r
def atE (k : Nat) (r : Rs) : Rs := if r.err = 0 then { r with at_ := k } else r
def fin9 (bt mt : Tm) (k : Nat) (r : Rs) : Rs := atE k (trmE bt mt k r)
theorem runE_fin {code : List In} {mach : List Mi} {rows : List Rw} {bt mt : Tm} {l : List Pr} {most : Int} {r : Rs} (h : foldE most (rows.flatMap (rowOps code mach)) ⟨l, 0, 0, 0, l.length⟩ = r) : runE code mach rows bt mt l most = fin9 bt mt mach.length r := by
  unfold runE blkOps
  rw [foldE_append, h]
  have hh : foldE most (if bt.kind = 1 then [] else [EOp.us bt.a mt.a mach.length]) r = trmE bt mt mach.length r := by
    unfold trmE
    by_cases h1 : bt.kind = 1
    · rw [if_pos h1, foldE_nil, if_neg fun h => h.1 h1]
    · rw [if_neg h1, foldE_cons, foldE_nil]
      unfold stepE
      by_cases h2 : r.err = 0
      · rw [if_pos h2, if_pos ⟨h1, h2⟩]
      · rw [if_neg h2, if_neg fun h => h2 h.2]
  rw [hh]
  rfl

set_option maxRecDepth 100000 in
set_option maxHeartbeats 16000000 in
theorem rblk_any {A1 : Option Addr} {n1 c1 : Nat} {code : List In} {A2 : Option Addr} {n2 c2 : Nat} {mach : List Mi} {bt mt : Tm} {A : Option Addr} {l : List Pr} {c nR nS : Nat} {most : Int} {w : World} {R L : List Int}
    (hC : CS w A1 n1 c1 code) (hM : MS w A2 n2 c2 mach) (hl : Sees w w.heap.size A (prs l)) (hls : Srt l) (hlR : PIn R L l) (hRL : R.length * L.length ≤ 400000) (hn1 : n1 ≤ 1000) (hn2 : n2 ≤ 1000) (hll : l.length ≤ 100000)
    (hops : ∀ rows, Chn code mach 0 0 rows → ∀ e ∈ blkOps code mach rows bt mt, e.In R L) (hmk : ∀ y ∈ mach, MiOk nR nS y) (hnR : nR ≤ 1000) (htm : TmOk nR 1000 mt) :
    Calls Tryz.prog 18 #[.agg #[.slice A1 n1 c1, .int .i64 bt.kind, .int .i64 bt.a, .int .i64 bt.to, .int .i64 bt.el], .agg #[.slice A2 n2 c2, .int .i64 mt.kind, .int .i64 mt.a, .int .i64 mt.to, .int .i64 mt.el], .slice A l.length c, .int .i64 most] w fun x w' => ∃ A' c', x = .returned (.agg #[.slice A' (checkE code mach bt mt (tmP bt mt) l most).out.length c', .int .i64 (checkE code mach bt mt (tmP bt mt) l most).err, .int .i64 ((checkE code mach bt mt (tmP bt mt) l most).at_ : Int), .int .i64 ((checkE code mach bt mt (tmP bt mt) l most).steps : Int), .int .i64 ((checkE code mach bt mt (tmP bt mt) l most).largest : Int)]) ∧ PL w (.slice A' (checkE code mach bt mt (tmP bt mt) l most).out.length c') (checkE code mach bt mt (tmP bt mt) l most).out w' := by
  have mixed : Tryz.prog.follows .mixedOrders = true := by kernel_rfl
  obtain ⟨i0, hi0, hz0, hz1, hz2⟩ := info_pr
  obtain ⟨RF, HRF⟩ : ∃ z, Hid (checkE code mach bt mt (tmP bt mt) l most = z) := ⟨_, rfl⟩
  rw [HRF.out]
  have HC := Lib.hid hC
  have HM := Lib.hid hM
  have HL := Lib.hid hl
  have hcl := hC.len
  have hml := hM.len
  have HLS := Lib.hid hls
  have HLR := Lib.hid hlR
  have HOPS := Lib.hid hops
  have HMK := Lib.hid hmk
  have HTM := Lib.hid htm
  have hA0 := Row.new w 48 #[.slice A1 n1 c1, .int .i64 bt.kind, .int .i64 bt.a, .int .i64 bt.to, .int .i64 bt.el]
  have hM0 := Row.new (w.alloc (.cells #[.slice A1 n1 c1, .int .i64 bt.kind, .int .i64 bt.a, .int .i64 bt.to, .int .i64 bt.el] 48)) 56 #[.slice A2 n2 c2, .int .i64 mt.kind, .int .i64 mt.a, .int .i64 mt.to, .int .i64 mt.el]
  have hZ0 := Row.new ((w.alloc (.cells #[.slice A1 n1 c1, .int .i64 bt.kind, .int .i64 bt.a, .int .i64 bt.to, .int .i64 bt.el] 48)).alloc (.cells #[.slice A2 n2 c2, .int .i64 mt.kind, .int .i64 mt.a, .int .i64 mt.to, .int .i64 mt.el] 56)) 52 #[.slice none 0 0, .int .i64 0, .int .i64 0, .int .i64 0, .int .i64 0]
  rw [show (w.alloc (.cells #[.slice A1 n1 c1, .int .i64 bt.kind, .int .i64 bt.a, .int .i64 bt.to, .int .i64 bt.el] 48)).heap.size = w.heap.size + 1 by simp] at hM0
  rw [show ((w.alloc (.cells #[.slice A1 n1 c1, .int .i64 bt.kind, .int .i64 bt.a, .int .i64 bt.to, .int .i64 bt.el] 48)).alloc (.cells #[.slice A2 n2 c2, .int .i64 mt.kind, .int .i64 mt.a, .int .i64 mt.to, .int .i64 mt.el] 56)).heap.size = w.heap.size + 1 + 1 by simp] at hZ0
  have HB0 := Lib.hid ((((Below.refl w.heap.size w).alloc (Nat.le_refl _) (.cells #[.slice A1 n1 c1, .int .i64 bt.kind, .int .i64 bt.a, .int .i64 bt.to, .int .i64 bt.el] 48)).alloc (by simp) (.cells #[.slice A2 n2 c2, .int .i64 mt.kind, .int .i64 mt.a, .int .i64 mt.to, .int .i64 mt.el] 56)).alloc (by simp; omega) (.cells #[.slice none 0 0, .int .i64 0, .int .i64 0, .int .i64 0, .int .i64 0] 52))
  have HA0 := Lib.hid ((hA0.alloc (.cells #[.slice A2 n2 c2, .int .i64 mt.kind, .int .i64 mt.a, .int .i64 mt.to, .int .i64 mt.el] 56)).alloc (.cells #[.slice none 0 0, .int .i64 0, .int .i64 0, .int .i64 0, .int .i64 0] 52))
  have HM0 := Lib.hid (hM0.alloc (.cells #[.slice none 0 0, .int .i64 0, .int .i64 0, .int .i64 0, .int .i64 0] 52))
  have HZ0 := Lib.hid hZ0
  clear hC hM hl hls hlR hops hmk htm hA0 hM0 hZ0
  go_enter Tryz.func18, Tryz.ntmps18
  go_upto_region 1 with fail
  generalize (((w.alloc (.cells #[.slice A1 n1 c1, .int .i64 bt.kind, .int .i64 bt.a, .int .i64 bt.to, .int .i64 bt.el] 48)).alloc (.cells #[.slice A2 n2 c2, .int .i64 mt.kind, .int .i64 mt.a, .int .i64 mt.to, .int .i64 mt.el] 56)).alloc (.cells #[.slice none 0 0, .int .i64 0, .int .i64 0, .int .i64 0, .int .i64 0] 52)) = W0 at *
  have hs9 := (HL.out.below HB0.out).alloc (B := w.heap.size) HB0.out.size (.cells #[] 59)
  go_wp2_with (at_builtin; refine wpList_append_any _ rfl (.tmp 20) (.tmp 21) 50 rfl W0.heap.size 59 i0 (.agg #[.int .i64 0, .int .i64 0]) 2 16 Tryz.underlying50 hi0 hz0 hz1 hz2 rfl (by decide) _ _ _ rfl (own_empty W0 59 2) w.heap.size _ _ _ (prs l) rfl hs9 (prs_length _) (prs_one _) ?c1 ?c2 ?c3 ?_)
  case c1 => unfold maxLen; omega
  case c2 => omega
  case c3 => simp
  intro v1 W1 ho1 hg1 _
  have HP1 : Hid (PL W0 v1 l W1) := PL.clone (by omega) ho1 hg1
  clear ho1 hg1 hs9
  obtain ⟨A3, c3, rfl, _, _⟩ := HP1.out.slice
  clear hi0 hz0 hz1 hz2
  have hb1 := HB0.out.trans (HP1.out.blw.mono HB0.out.size)
  have HK : Hid (KC w bt mt A1 n1 c1 A2 n2 c2 W1.heap.size (.slice none 0 0) [] [] (.slice A3 l.length c3) ⟨l, 0, 0, 0, l.length⟩ (W1.alloc (.cells #[.slice A3 l.length c3, .int .i64 0, .int .i64 0, .int .i64 0, .int .i64 (l.length : Int)] 52))) :=
    ⟨hb1.alloc hb1.size _, (HA0.out.below HP1.out.blw HA0.out.lt).alloc _, (HM0.out.below HP1.out.blw HM0.out.lt).alloc _, (HZ0.out.below HP1.out.blw HZ0.out.lt).alloc _,
      Nat.lt_of_lt_of_le HZ0.out.lt HP1.out.blw.size, Row.new W1 52 #[.slice A3 l.length c3, .int .i64 0, .int .i64 0, .int .i64 0, .int .i64 (l.length : Int)], (HP1.out.base HB0.out).alloc _, RL.none (hb1.alloc hb1.size _), fun z hz => by simp at hz⟩
  clear hb1 HP1 HB0 HA0 HM0 HZ0
  go_upto_region 2 with fail
  generalize (W1.alloc (.cells #[.slice A3 l.length c3, .int .i64 0, .int .i64 0, .int .i64 0, .int .i64 (l.length : Int)] 52)) = W2 at *
  generalize W1.heap.size = rb at *
  by_cases hm : most < (l.length : Int)
  · have HE : Hid (RF = ⟨[], 24, 0, 0, l.length⟩) := by
      show _ = _
      rw [← HRF.out]
      unfold checkE
      rw [if_pos hm]
    clear HRF
    have f0 := HK.out.rr.cell 0; have f1 := HK.out.rr.cell 1; have f2 := HK.out.rr.cell 2; have f3 := HK.out.rr.cell 3; have f4 := HK.out.rr.cell 4
    simp only [List.getElem?_toArray, List.getElem?_cons_zero, List.getElem?_cons_succ] at f0 f1 f2 f3 f4
    have CX := Lib.hid fun V => rfail_any A3 l.length c3 0 ((0 : Nat) : Int) ((0 : Nat) : Int) (l.length : Int) 24 (0 : Int) V
    go_wp2_with fail
    refine (CX.out _).mono ?_
    rintro e W9 ⟨rfl, hG⟩
    have HK9 := Lib.hid (HK.out.next hG.below)
    clear hG CX f0 f1 f2 f3 f4 HK
    have g0 := HK9.out.z.frozen 0; have g1 := HK9.out.z.frozen 1; have g2 := HK9.out.z.frozen 2; have g3 := HK9.out.z.frozen 3; have g4 := HK9.out.z.frozen 4
    have h0 := HK9.out.z.cell 0; have h1 := HK9.out.z.cell 1; have h2 := HK9.out.z.cell 2; have h3 := HK9.out.z.cell 3; have h4 := HK9.out.z.cell 4
    simp only [List.getElem?_toArray, List.getElem?_cons_zero, List.getElem?_cons_succ] at h0 h1 h2 h3 h4
    go_wp2
    (try simp only [Exit.inBlock, Exit.then])
    rw [HE.out]
    refine bodyPost_ret (v := .agg #[.slice none 0 0, .int .i64 24, .int .i64 (0 : Int), .int .i64 0, .int .i64 (l.length : Int)]) ?_ rfl ⟨none, 0, rfl, (PL.nil w).next (blw5 (show w.heap.size ≤ w.heap.size + 1 + 1 by omega) HK9.out.blw _ _ _ _ _)⟩
    exact results_cell_row rfl _ _ (w.heap.size + 1 + 1) 52 #[.slice none 0 0, .int .i64 24, .int .i64 (0 : Int), .int .i64 0, .int .i64 (l.length : Int)] (0, 0) _ rfl (HK9.out.z.put5 _ _ _ _ _) Tryz.underlying52 rfl (by kernel_rfl)
  · have HMN := Lib.hid hm
    obtain ⟨R1, R2, R3, HR⟩ : ∃ x y z, Hid (alC code mach = (x, y, z)) := ⟨_, _, _, rfl⟩
    have b0 := HK.out.b.cell 0
    have m0 := HK.out.m.cell 0
    simp only [List.getElem?_toArray, List.getElem?_cons_zero] at b0 m0
    have C := Lib.hid (ralcode_at (HC.out.below HK.out.blw) (HM.out.below HK.out.blw) (by omega) (by omega) HR.out)
    go_wp2_with fail
    refine C.out.mono ?_
    rintro e W3 ⟨Ar, cr, rfl, hP⟩
    have HK3 : Hid (KC w bt mt A1 n1 c1 A2 n2 c2 rb (.slice Ar R1.length cr) R1 [] (.slice A3 l.length c3) ⟨l, 0, 0, 0, l.length⟩ W3) := { HK.out.next hP.blw with rows := hP.base HK.out.blw }
    clear hP C HK b0 m0
    rcases alC_out code mach with ⟨rr, hr, hch⟩ | ⟨y, hr, hy, _⟩
    · have ht := triple (HR.out.symm.trans hr)
      obtain ⟨rfl, rfl, rfl⟩ := ht
      have b1 := HK3.out.b.cell 1; have b2 := HK3.out.b.cell 2; have b3 := HK3.out.b.cell 3; have b4 := HK3.out.b.cell 4
      have m0 := HK3.out.m.cell 0; have m1 := HK3.out.m.cell 1; have m2 := HK3.out.m.cell 2; have m3 := HK3.out.m.cell 3; have m4 := HK3.out.m.cell 4
      simp only [List.getElem?_toArray, List.getElem?_cons_zero, List.getElem?_cons_succ] at b1 b2 b3 b4 m0 m1 m2 m3 m4
      have C := Lib.hid fun W => rterms_any bt mt W
      have HCH := Lib.hid hch
      rw [hml] at HR
      clear hch hr
      cases htm : tmP bt mt
      · have HE : Hid (RF = ⟨[], 20, n2, 0, l.length⟩) := by
          show _ = _
          rw [← HRF.out, htm]
          unfold checkE
          rw [if_neg (by have := HMN.out; omega), HR.out, hml]
          rfl
        rw [htm] at C
        clear HRF htm
        go_wp2_with fail
        refine (C.out _).mono ?_
        rintro e W4 ⟨rfl, hG⟩
        have HK4 := Lib.hid (HK3.out.next hG.below)
        clear hG C HK3 b1 b2 b3 b4 m0 m1 m2 m3 m4
        have f0 := HK4.out.rr.cell 0; have f1 := HK4.out.rr.cell 1; have f2 := HK4.out.rr.cell 2; have f3 := HK4.out.rr.cell 3; have f4 := HK4.out.rr.cell 4
        simp only [List.getElem?_toArray, List.getElem?_cons_zero, List.getElem?_cons_succ] at f0 f1 f2 f3 f4
        have CX := Lib.hid fun V => rfail_any A3 l.length c3 0 ((0 : Nat) : Int) ((0 : Nat) : Int) (l.length : Int) 20 (n2 : Int) V
        go_wp2_with fail
        refine (CX.out _).mono ?_
        rintro e W9 ⟨rfl, hG⟩
        have HK9 := Lib.hid (HK4.out.next hG.below)
        clear hG CX f0 f1 f2 f3 f4 HK4
        have g0 := HK9.out.z.frozen 0; have g1 := HK9.out.z.frozen 1; have g2 := HK9.out.z.frozen 2; have g3 := HK9.out.z.frozen 3; have g4 := HK9.out.z.frozen 4
        have h0 := HK9.out.z.cell 0; have h1 := HK9.out.z.cell 1; have h2 := HK9.out.z.cell 2; have h3 := HK9.out.z.cell 3; have h4 := HK9.out.z.cell 4
        simp only [List.getElem?_toArray, List.getElem?_cons_zero, List.getElem?_cons_succ] at h0 h1 h2 h3 h4
        go_wp2
        (try simp only [Exit.inBlock, Exit.then])
        rw [HE.out]
        refine bodyPost_ret (v := .agg #[.slice none 0 0, .int .i64 20, .int .i64 (n2 : Int), .int .i64 0, .int .i64 (l.length : Int)]) ?_ rfl ⟨none, 0, rfl, (PL.nil w).next (blw5 (show w.heap.size ≤ w.heap.size + 1 + 1 by omega) HK9.out.blw _ _ _ _ _)⟩
        exact results_cell_row rfl _ _ (w.heap.size + 1 + 1) 52 #[.slice none 0 0, .int .i64 20, .int .i64 (n2 : Int), .int .i64 0, .int .i64 (l.length : Int)] (0, 0) _ rfl (HK9.out.z.put5 _ _ _ _ _) Tryz.underlying52 rfl (by kernel_rfl)
      · have HE : Hid (RF = runE code mach R1 bt mt l most) := by
          show _ = _
          rw [← HRF.out, htm]
          unfold checkE
          rw [if_neg (by have := HMN.out; omega), HR.out]
          rfl
        rw [htm] at C
        go_wp2_with fail
        refine (C.out _).mono ?_
        rintro e W4 ⟨rfl, hG⟩
        have HK4 := Lib.hid (HK3.out.next hG.below)
        clear hG C HK3 b1 b2 b3 b4 m0 m1 m2 m3 m4 HRF HR
        have HOPSR : Hid (∀ e ∈ R1.flatMap (rowOps code mach), e.In R L) := fun e he => HOPS.out R1 HCH.out e (List.mem_append_left _ he)
        obtain ⟨RA, HRA⟩ : ∃ z, Hid (foldE most (R1.flatMap (rowOps code mach)) ⟨l, 0, 0, 0, l.length⟩ = z) := ⟨_, rfl⟩
        have hrl := HCH.out.len
        rw [hcl] at hrl
        have hrp : 0 < R1.length := List.length_pos_iff.2 HCH.out.ne
        obtain ⟨ob, oo, rfl, _, _⟩ := HK4.out.rows.rs.see.at_ hrp
        have HRI0 : Hid (RI R L 0 ⟨l, 0, 0, 0, l.length⟩) := ⟨HLS.out, HLR.out, by show l.length ≤ _; omega, by show l.length ≤ _; omega, Nat.zero_le _⟩
        have HTP : Hid (tmP bt mt = true) := htm
        clear htm HLS HLR
        go_wp2
        go_loopg [14] R1.length (fun g v14 wr => ∃ (j i k s : Nat) (A : Option Addr) (c : Nat) (r : Rs), j + g = R1.length ∧ v14 = .int .i64 j ∧ i ≤ n1 + 1 ∧ k ≤ n2 + 1 ∧ s ≤ i + 3 * k ∧ Hid (j < R1.length → Chn code mach i k (R1.drop j)) ∧ Hid (foldE most ((R1.drop j).flatMap (rowOps code mach)) r = RA) ∧ Hid (RI R L s r) ∧ Hid (KC w bt mt A1 n1 c1 A2 n2 c2 rb (.slice (some ⟨ob, oo, none⟩) R1.length cr) R1 [] (.slice A r.out.length c) r wr))
        case atStart => exact ⟨0, 0, 0, 0, A3, c3, ⟨l, 0, 0, 0, l.length⟩, by omega, by go_num, by omega, by omega, by omega, fun _ => HCH.out, HRA.out, HRI0.out, HK4.out⟩
        case round =>
          have HRA9 := HRA
          clear HK4 HRA HRI0
          obtain ⟨j, i, k, s, A4, c4, r0, hg, rfl, hin, hkn, hsn, HCJ, HFJ, HRI, HK⟩ := hrel
          by_cases hjl : j < R1.length
          · have hjz : (j : Int) < (R1.length : Int) := by omega
            have hch := HCJ.out hjl
            have hrow := List.drop_eq_getElem_cons hjl
            obtain ⟨b', o', e', hbl, hx⟩ := HK.out.rows.rs.see.at_ hjl
            injection e' with e'
            injection e' with e1 e2
            subst e1 e2
            have hwin : ∀ e ∈ rowOps code mach R1[j], e.In R L := fun e he => HOPSR.out e (List.mem_flatMap.2 ⟨R1[j], List.getElem_mem hjl, he⟩)
            rw [hrow] at hch
            have hfj := HFJ.out
            rw [hrow, List.flatMap_cons, foldE_append] at hfj
            obtain ⟨rest, hrest⟩ : ∃ z, z = R1.drop (j + 1) := ⟨_, rfl⟩
            rw [← hrest] at hch hfj
            have HREST := Lib.hid hrest
            obtain ⟨row, hrw⟩ : ∃ z, z = R1[j] := ⟨_, rfl⟩
            rw [← hrw] at hch hfj hwin hx
            clear HCJ HFJ hrow hrest hrw
            rcases hch.head with ⟨ct, mt_, sI, mI, tl, rfl, hi, hctn, hk, hmtn, hro, hcs⟩
            have HROW := Lib.hid hro
            rw [HROW.out, foldE_append, foldE_append] at hfj
            rw [hcl] at hctn
            rw [hml] at hmtn
            have HCASE := Lib.hid hcs
            clear hch hcs hro
            obtain ⟨f0, f1, f2, f3, f4, f5⟩ := hx
            dsimp only at f0 f1 f2 f3 f4 f5
            go_upto_region 14 with fail
            have HKX := Lib.hid (HK.out.box 94 #[.int .i64 (i : Int), .int .i64 (ct : Int), .int .i64 (k : Int), .int .i64 (mt_ : Int), .int .i64 sI, .int .i64 mI])
            clear f0 f1 f2 f3 f4 f5 HK
            generalize (wr.alloc (.cells #[.int .i64 (i : Int), .int .i64 (ct : Int), .int .i64 (k : Int), .int .i64 (mt_ : Int), .int .i64 sI, .int .i64 mI] 94)) = W5 at *
            generalize wr.heap.size = xb at *
            have x0 := (HKX.out.ex _ List.mem_cons_self).1.cell 0
            dsimp only at x0
            simp only [List.getElem?_toArray, List.getElem?_cons_zero] at x0
            go_wp2
            clear x0
            obtain ⟨RC, HRC⟩ : ∃ z, Hid (foldE most (((code.drop i).take (ct - i)).map fun x => EOp.cp x.d x.a k) r0 = z) := ⟨_, rfl⟩
            rw [HRC.out] at hfj
            have HFJ := Lib.hid hfj
            have HIN := Lib.hid hwin
            clear hfj hwin
            go_loopg [16] (ct - i) (fun g v16 wz => ∃ (i1 : Nat) (A : Option Addr) (c : Nat) (r : Rs), i1 + g = ct ∧ i ≤ i1 ∧ v16 = .int .i64 i1 ∧ Hid (foldE most (((code.drop i1).take (ct - i1)).map fun x => EOp.cp x.d x.a k) r = RC) ∧ Hid (RI R L (s + (i1 - i)) r) ∧ Hid (KC w bt mt A1 n1 c1 A2 n2 c2 rb (.slice (some ⟨ob, oo, none⟩) R1.length cr) R1 [(xb, 94, #[.int .i64 (i : Int), .int .i64 (ct : Int), .int .i64 (k : Int), .int .i64 (mt_ : Int), .int .i64 sI, .int .i64 mI])] (.slice A r.out.length c) r wz))
            case atStart => exact ⟨i, A4, c4, r0, by omega, Nat.le_refl _, by go_num, HRC.out, (by rw [Nat.sub_self]; exact HRI.out), HKX.out⟩
            case round =>
              clear HRC HRI HKX
              obtain ⟨i1, A, c, r, hg1, hi1, rfl, HFC, HRI, HK⟩ := hrel
              go_upto_region 15 with fail
              go_cut [78] from 70 to 100 (fun s78 wx => s78 = .bool (decide (i1 < ct ∧ r.err = 0)) ∧ wx = wr)
              case first =>
                as_aux_lemma =>
                  have x1 := (HK.out.ex _ List.mem_cons_self).1.cell 1
                  have y1 := HK.out.rr.cell 1
                  dsimp only at x1
                  simp only [List.getElem?_toArray, List.getElem?_cons_zero, List.getElem?_cons_succ] at x1 y1
                  by_cases h1 : i1 < ct
                  · have h1z : (i1 : Int) < (ct : Int) := by omega
                    by_cases h2 : r.err = 0
                    · have h2b : (r.err == 0) = true := by simp [h2]
                      have HD := Lib.hid (decide_eq_true (And.intro h1 h2))
                      clear h1 h2
                      go_wp2_with fail
                      go_meet
                      case rel => exact ⟨by rw [HD.out], rfl⟩
                    · have h2b : (r.err == 0) = false := by simp [h2]
                      have HD := Lib.hid (decide_eq_false (fun h : i1 < ct ∧ r.err = 0 => h2 h.2))
                      clear h1 h2
                      go_wp2_with fail
                      go_meet
                      case rel => exact ⟨by rw [HD.out], rfl⟩
                  · have h1z : ¬ (i1 : Int) < (ct : Int) := by omega
                    have HD := Lib.hid (decide_eq_false (fun h : i1 < ct ∧ r.err = 0 => h1 h.1))
                    clear h1
                    go_wp2_with fail
                    go_meet
                    case rel => exact ⟨by rw [HD.out], rfl⟩
              case rest =>
                obtain ⟨rfl, hwc⟩ := hcut
                subst hwc
                by_cases hgo : i1 < ct ∧ r.err = 0
                · rw [decide_eq_true hgo]
                  have hi2 : i1 < code.length := by omega
                  obtain ⟨b1, o1, rfl, hb1, hx1⟩ := HC.out.see.at_ hi2
                  have hdt : (code.drop i1).take (ct - i1) = code[i1] :: (code.drop (i1 + 1)).take (ct - (i1 + 1)) := by
                    rw [List.drop_eq_getElem_cons hi2, show ct - i1 = (ct - (i1 + 1)) + 1 by omega, List.take_succ_cons]
                  have hfc := HFC.out
                  rw [hdt, List.map_cons, foldE_cons] at hfc
                  have hein : (EOp.cp code[i1].d code[i1].a k).In R L := HIN.out _ (by
                    rw [HROW.out]
                    exact List.mem_append_left _ (List.mem_append_left _ (List.mem_map.2 ⟨code[i1], List.mem_iff_getElem.2 ⟨i1 - i, by simp; omega, by simp [show i + (i1 - i) = i1 by omega]⟩, rfl⟩)))
                  have hrn := HRI.out.step hRL hein most
                  have hlen := (HRI.out.inn.set hein).len (set_srt HRI.out.srt _)
                  have e1 : stepE most r (EOp.cp code[i1].d code[i1].a k) = r.grow (cpP r.out code[i1].d code[i1].a) most k := by unfold stepE; rw [if_pos hgo.2]
                  rw [e1] at hfc hrn
                  have HFN := Lib.hid hfc
                  have HRN := Lib.hid (hrn.mono (show s + (i1 - i) + 1 ≤ s + (i1 + 1 - i) by omega))
                  have HBIG := Lib.hid (HRI.out.big (by omega))
                  have HLEN := Lib.hid HRI.out.len
                  have HLAR := Lib.hid HRI.out.lar
                  have HCF : Hid (∀ V, Below w.heap.size w V → V.cell? ⟨b1, o1 + i1 * 5 + 1, none⟩ = some (.int .i64 code[i1].d) ∧ V.cell? ⟨b1, o1 + i1 * 5 + 2, none⟩ = some (.int .i64 code[i1].a)) := fun V h => ⟨(h.cell (p := ⟨b1, _, none⟩) hb1).trans hx1.c1, (h.cell (p := ⟨b1, _, none⟩) hb1).trans hx1.c2⟩
                  change (cpP r.out code[i1].d code[i1].a).length ≤ _ at hlen
                  generalize code[i1].d = xd at *
                  generalize code[i1].a = xa at *
                  have C1 : Hid (∀ V, KC w bt mt (some ⟨b1, o1, none⟩) n1 c1 A2 n2 c2 rb (.slice (some ⟨ob, oo, none⟩) R1.length cr) R1 [(xb, 94, #[.int .i64 (i : Int), .int .i64 (ct : Int), .int .i64 (k : Int), .int .i64 (mt_ : Int), .int .i64 sI, .int .i64 mI])] (.slice A r.out.length c) r V → Calls Tryz.prog 47 #[.slice A r.out.length c, .int .i64 xd, .int .i64 xa] V fun e w' => ∃ A9 c9, e = .returned (.slice A9 (cpP r.out xd xa).length c9) ∧ PL w (.slice A9 (cpP r.out xd xa).length c9) (cpP r.out xd xa) w' ∧ Below V.heap.size V w') := fun V h =>
                    (rtcopy_any V.heap.size A r.out c xd xa V h.out.sees (Nat.le_refl _) HLEN.out).mono fun e w' ⟨v, he, hP⟩ => by
                      rw [cpS_eq HRI.out.srt] at hP
                      obtain ⟨A9, c9, rfl, _, _⟩ := hP.slice
                      exact ⟨A9, c9, he, hP.base h.blw, hP.blw⟩
                  have C2 : Hid (∀ V A9 c9, PL w (.slice A9 (cpP r.out xd xa).length c9) (cpP r.out xd xa) V → Calls Tryz.prog 46 #[.agg #[.slice A (r).out.length c, .int .i64 (r).err, .int .i64 ((r).at_ : Int), .int .i64 ((r).steps : Int), .int .i64 ((r).largest : Int)], .slice A9 (cpP r.out xd xa).length c9, .int .i64 most, .int .i64 (k : Int)] V fun x w' => ∃ A' c', x = .returned (.agg #[.slice A' (r.grow (cpP r.out xd xa) most k).out.length c', .int .i64 (r.grow (cpP r.out xd xa) most k).err, .int .i64 ((r.grow (cpP r.out xd xa) most k).at_ : Int), .int .i64 ((r.grow (cpP r.out xd xa) most k).steps : Int), .int .i64 ((r.grow (cpP r.out xd xa) most k).largest : Int)]) ∧ PL w (.slice A' (r.grow (cpP r.out xd xa) most k).out.length c') (r.grow (cpP r.out xd xa) most k).out w' ∧ Below V.heap.size V w') := fun V A9 c9 hP =>
                    rgrow_rs hP A c r most k HBIG.out HLEN.out (Nat.le_trans hlen hRL) HLAR.out
                  have i1z : (i1 : Int) < (n1 : Int) := by omega
                  have hi1ct : i1 < ct := hgo.1
                  clear hx1 hdt hfc hein hrn e1 hgo hlen
                  as_aux_lemma =>
                    have HSC : Hid (∀ V v' r', KC w bt mt (some ⟨b1, o1, none⟩) n1 c1 A2 n2 c2 rb (.slice (some ⟨ob, oo, none⟩) R1.length cr) R1 [(xb, 94, #[.int .i64 (i : Int), .int .i64 (ct : Int), .int .i64 (k : Int), .int .i64 (mt_ : Int), .int .i64 sI, .int .i64 mI])] v' r' V → V.cell? ⟨w.heap.size, 0, none⟩ = some (.slice (some ⟨b1, o1, none⟩) n1 c1) ∧ V.cell? ⟨xb, 2, none⟩ = some (.int .i64 (k : Int)) ∧ V.cell? ⟨b1, o1 + i1 * 5 + 1, none⟩ = some (.int .i64 xd) ∧ V.cell? ⟨b1, o1 + i1 * 5 + 2, none⟩ = some (.int .i64 xa)) := fun V v' r' k => ⟨k.b.cell 0, (k.ex _ List.mem_cons_self).1.cell 2, (HCF.out V k.blw).1, (HCF.out V k.blw).2⟩
                    go_wp2_with fail
                    refine wp_region_held_drew (S := fun w' => w'.cell? ⟨w.heap.size, 0, none⟩ = some (.slice (some ⟨b1, o1, none⟩) n1 c1) ∧ w'.cell? ⟨xb, 2, none⟩ = some (.int .i64 (k : Int)) ∧ w'.cell? ⟨b1, o1 + i1 * 5 + 1, none⟩ = some (.int .i64 xd) ∧ w'.cell? ⟨b1, o1 + i1 * 5 + 2, none⟩ = some (.int .i64 xa)) (by kernel_rfl) (HSC.out _ _ _ (HK.out.next (Below.refl _ _).drew)) (fun hHeld => ?_)
                    have HK0 := Lib.hid (HK.out.next (Below.refl _ _).drew)
                    clear HK
                    generalize wc.drew = V0 at *
                    refine take_at 1 82 (.pointer (some ⟨rb, 0, none⟩)) rfl rfl (by kernel_rfl) (by kernel_rfl) (by kernel_rfl) (fun _ _ _ h => h) (Or.inl ⟨by rfl, ?_⟩) hHeld ?_
                    · intro w9 hSw
                      (try dsimp only at hSw)
                      go_simp
                      all_goals (first | (intro h9; omega) | omega | (rw [IntKind.wrap_i64]; omega))
                    (try simp only [Act.put, List.setIfInBounds_toArray, List.set_cons_zero, List.set_cons_succ])
                    refine take_at 3 84 (.pointer (some ⟨w.heap.size, 0, none⟩)) rfl rfl (by kernel_rfl) (by kernel_rfl) (by kernel_rfl) (fun _ _ _ h => h) (Or.inl ⟨by rfl, ?_⟩) hHeld ?_
                    · intro w9 hSw
                      (try dsimp only at hSw)
                      go_simp
                      all_goals (first | (intro h9; omega) | omega | (rw [IntKind.wrap_i64]; omega))
                    (try simp only [Act.put, List.setIfInBounds_toArray, List.set_cons_zero, List.set_cons_succ])
                    refine take_at 4 85 (.slice (some ⟨b1, o1, none⟩) n1 c1) rfl rfl (by kernel_rfl) (by kernel_rfl) (by kernel_rfl) (fun _ _ _ h => h) (Or.inl ⟨by rfl, ?_⟩) hHeld ?_
                    · intro w9 hSw
                      (try dsimp only at hSw)
                      go_simp
                      all_goals (first | (intro h9; omega) | omega | (rw [IntKind.wrap_i64]; omega))
                    (try simp only [Act.put, List.setIfInBounds_toArray, List.set_cons_zero, List.set_cons_succ])
                    refine take_at 5 86 (.int .i64 (i1 : Int)) rfl rfl (by kernel_rfl) (by kernel_rfl) (by kernel_rfl) (fun _ _ _ h => h) (Or.inl ⟨by rfl, ?_⟩) hHeld ?_
                    · intro w9 hSw
                      (try dsimp only at hSw)
                      go_simp
                      all_goals (first | (intro h9; omega) | omega | (rw [IntKind.wrap_i64]; omega))
                    (try simp only [Act.put, List.setIfInBounds_toArray, List.set_cons_zero, List.set_cons_succ])
                    refine take_at 6 87 (.pointer (some ⟨b1, o1 + i1 * 5, none⟩)) rfl rfl (by kernel_rfl) (by kernel_rfl) (by kernel_rfl) (fun _ _ _ h => h) (Or.inl ⟨by rfl, ?_⟩) hHeld ?_
                    · intro w9 hSw
                      (try dsimp only at hSw)
                      go_simp
                      all_goals (first | (intro h9; omega) | omega | (rw [IntKind.wrap_i64]; omega))
                    (try simp only [Act.put, List.setIfInBounds_toArray, List.set_cons_zero, List.set_cons_succ])
                    refine take_at 7 88 (.pointer (some ⟨b1, o1 + i1 * 5 + 1, none⟩)) rfl rfl (by kernel_rfl) (by kernel_rfl) (by kernel_rfl) (fun _ _ _ h => h) (Or.inl ⟨by rfl, ?_⟩) hHeld ?_
                    · intro w9 hSw
                      (try dsimp only at hSw)
                      go_simp
                      all_goals (first | (intro h9; omega) | omega | (rw [IntKind.wrap_i64]; omega))
                    (try simp only [Act.put, List.setIfInBounds_toArray, List.set_cons_zero, List.set_cons_succ])
                    refine take_at 8 89 (.int .i64 xd) rfl rfl (by kernel_rfl) (by kernel_rfl) (by kernel_rfl) (fun _ _ _ h => h) (Or.inl ⟨by rfl, ?_⟩) hHeld ?_
                    · intro w9 hSw
                      (try dsimp only at hSw)
                      go_simp
                      all_goals (first | (intro h9; omega) | omega | (rw [IntKind.wrap_i64]; omega))
                    (try simp only [Act.put, List.setIfInBounds_toArray, List.set_cons_zero, List.set_cons_succ])
                    refine take_at 9 90 (.pointer (some ⟨w.heap.size, 0, none⟩)) rfl rfl (by kernel_rfl) (by kernel_rfl) (by kernel_rfl) (fun _ _ _ h => h) (Or.inl ⟨by rfl, ?_⟩) hHeld ?_
                    · intro w9 hSw
                      (try dsimp only at hSw)
                      go_simp
                      all_goals (first | (intro h9; omega) | omega | (rw [IntKind.wrap_i64]; omega))
                    (try simp only [Act.put, List.setIfInBounds_toArray, List.set_cons_zero, List.set_cons_succ])
                    refine take_at 10 91 (.slice (some ⟨b1, o1, none⟩) n1 c1) rfl rfl (by kernel_rfl) (by kernel_rfl) (by kernel_rfl) (fun _ _ _ h => h) (Or.inl ⟨by rfl, ?_⟩) hHeld ?_
                    · intro w9 hSw
                      (try dsimp only at hSw)
                      go_simp
                      all_goals (first | (intro h9; omega) | omega | (rw [IntKind.wrap_i64]; omega))
                    (try simp only [Act.put, List.setIfInBounds_toArray, List.set_cons_zero, List.set_cons_succ])
                    refine take_at 11 92 (.int .i64 (i1 : Int)) rfl rfl (by kernel_rfl) (by kernel_rfl) (by kernel_rfl) (fun _ _ _ h => h) (Or.inl ⟨by rfl, ?_⟩) hHeld ?_
                    · intro w9 hSw
                      (try dsimp only at hSw)
                      go_simp
                      all_goals (first | (intro h9; omega) | omega | (rw [IntKind.wrap_i64]; omega))
                    (try simp only [Act.put, List.setIfInBounds_toArray, List.set_cons_zero, List.set_cons_succ])
                    refine take_at 12 93 (.pointer (some ⟨b1, o1 + i1 * 5, none⟩)) rfl rfl (by kernel_rfl) (by kernel_rfl) (by kernel_rfl) (fun _ _ _ h => h) (Or.inl ⟨by rfl, ?_⟩) hHeld ?_
                    · intro w9 hSw
                      (try dsimp only at hSw)
                      go_simp
                      all_goals (first | (intro h9; omega) | omega | (rw [IntKind.wrap_i64]; omega))
                    (try simp only [Act.put, List.setIfInBounds_toArray, List.set_cons_zero, List.set_cons_succ])
                    refine take_at 13 94 (.pointer (some ⟨b1, o1 + i1 * 5 + 2, none⟩)) rfl rfl (by kernel_rfl) (by kernel_rfl) (by kernel_rfl) (fun _ _ _ h => h) (Or.inl ⟨by rfl, ?_⟩) hHeld ?_
                    · intro w9 hSw
                      (try dsimp only at hSw)
                      go_simp
                      all_goals (first | (intro h9; omega) | omega | (rw [IntKind.wrap_i64]; omega))
                    (try simp only [Act.put, List.setIfInBounds_toArray, List.set_cons_zero, List.set_cons_succ])
                    refine take_at 14 95 (.int .i64 xa) rfl rfl (by kernel_rfl) (by kernel_rfl) (by kernel_rfl) (fun _ _ _ h => h) (Or.inl ⟨by rfl, ?_⟩) hHeld ?_
                    · intro w9 hSw
                      (try dsimp only at hSw)
                      go_simp
                      all_goals (first | (intro h9; omega) | omega | (rw [IntKind.wrap_i64]; omega))
                    (try simp only [Act.put, List.setIfInBounds_toArray, List.set_cons_zero, List.set_cons_succ])
                    refine take_at 16 97 (.int .i64 most) rfl rfl (by kernel_rfl) (by kernel_rfl) (by kernel_rfl) (fun _ _ _ h => h) (Or.inl ⟨by rfl, ?_⟩) hHeld ?_
                    · intro w9 hSw
                      (try dsimp only at hSw)
                      go_simp
                      all_goals (first | (intro h9; omega) | omega | (rw [IntKind.wrap_i64]; omega))
                    (try simp only [Act.put, List.setIfInBounds_toArray, List.set_cons_zero, List.set_cons_succ])
                    refine take_at 17 98 (.pointer (some ⟨xb, 2, none⟩)) rfl rfl (by kernel_rfl) (by kernel_rfl) (by kernel_rfl) (fun _ _ _ h => h) (Or.inl ⟨by rfl, ?_⟩) hHeld ?_
                    · intro w9 hSw
                      (try dsimp only at hSw)
                      go_simp
                      all_goals (first | (intro h9; omega) | omega | (rw [IntKind.wrap_i64]; omega))
                    (try simp only [Act.put, List.setIfInBounds_toArray, List.set_cons_zero, List.set_cons_succ])
                    refine take_at 18 99 (.int .i64 (k : Int)) rfl rfl (by kernel_rfl) (by kernel_rfl) (by kernel_rfl) (fun _ _ _ h => h) (Or.inl ⟨by rfl, ?_⟩) hHeld ?_
                    · intro w9 hSw
                      (try dsimp only at hSw)
                      go_simp
                      all_goals (first | (intro h9; omega) | omega | (rw [IntKind.wrap_i64]; omega))
                    (try simp only [Act.put, List.setIfInBounds_toArray, List.set_cons_zero, List.set_cons_succ])
                    refine wpAnyH_ready (rs := [0, 2]) (by kernel_rfl) (by simp) ?_
                    refine AllReadyH.cons rfl (fun K hK => ?_) ?_
                    · have f0 := HK0.out.rr.cell 0; have f1 := HK0.out.rr.cell 1; have f2 := HK0.out.rr.cell 2; have f3 := HK0.out.rr.cell 3; have f4 := HK0.out.rr.cell 4
                      simp only [List.getElem?_toArray, List.getElem?_cons_zero, List.getElem?_cons_succ] at f0 f1 f2 f3 f4
                      go_simp
                      refine hK.out _ _ (HSC.out _ _ _ HK0.out) (fun hHeld => ?_)
                      clear hK K f0 f1 f2 f3 f4
                      refine wpAnyH_ready (rs := [2]) (by kernel_rfl) (by simp) ?_
                      refine AllReadyH.cons rfl (fun K hK => ?_) ?_
                      · have f0 := HK0.out.rr.cell 0; have f1 := HK0.out.rr.cell 1; have f2 := HK0.out.rr.cell 2; have f3 := HK0.out.rr.cell 3; have f4 := HK0.out.rr.cell 4
                        simp only [List.getElem?_toArray, List.getElem?_cons_zero, List.getElem?_cons_succ] at f0 f1 f2 f3 f4
                        go_simp
                        refine hK.out _ _ (HSC.out _ _ _ HK0.out) (fun hHeld => ?_)
                        clear hK K f0 f1 f2 f3 f4
                        refine wpAnyH_ready (rs := [15]) (by kernel_rfl) (by simp) ?_
                        refine AllReadyH.cons rfl (fun K hK => ?_) ?_
                        · go_simp
                          refine (C1.out _ HK0.out).mono ?_
                          rintro e V1 ⟨A9, c9, rfl, hP, hb⟩
                          (try go_wp2_with fail)
                          have HK1 := Lib.hid (HK0.out.next hb)
                          have HP9 := Lib.hid hP
                          clear hP hb HK0
                          refine hK.out _ _ (HSC.out _ _ _ HK1.out) (fun hHeld => ?_)
                          clear hK K
                          refine wpAnyH_ready (rs := [19]) (by kernel_rfl) (by simp) ?_
                          refine AllReadyH.cons rfl (fun K hK => ?_) ?_
                          · go_simp
                            refine (C2.out _ _ _ HP9.out).mono ?_
                            rintro e V2 ⟨A8, c8, rfl, hP, hb⟩
                            (try go_wp2_with fail)
                            have HK2 := Lib.hid (HK1.out.next hb)
                            clear HP9
                            have HP9 := Lib.hid hP
                            clear hP hb HK1
                            refine hK.out _ _ (HSC.out _ _ _ HK2.out) (fun hHeld => ?_)
                            clear hK K
                            refine wpAnyH_ready (rs := [20]) (by kernel_rfl) (by simp) ?_
                            refine AllReadyH.cons rfl (fun K hK => ?_) ?_
                            · have f0 := HK2.out.rr.cell 0; have f1 := HK2.out.rr.cell 1; have f2 := HK2.out.rr.cell 2; have f3 := HK2.out.rr.cell 3; have f4 := HK2.out.rr.cell 4
                              simp only [List.getElem?_toArray, List.getElem?_cons_zero, List.getElem?_cons_succ] at f0 f1 f2 f3 f4
                              have g0 := HK2.out.rr.frozen 0; have g1 := HK2.out.rr.frozen 1; have g2 := HK2.out.rr.frozen 2; have g3 := HK2.out.rr.frozen 3; have g4 := HK2.out.rr.frozen 4
                              have HK3 := Lib.hid (HK2.out.store HP9.out)
                              go_simp
                              refine hK.out _ _ (HSC.out _ _ _ HK3.out) (fun hHeld => ?_)
                              clear hK K f0 f1 f2 f3 f4 g0 g1 g2 g3 g4 HP9 HK2
                              refine wpAnyH_done (by kernel_rfl) ?_ _
                              clear hHeld
                              have HK9 := Lib.hid HK3.out
                              clear HK3
                              go_wp2_with fail
                              go_wp2
                              go_roundg (ct - (i1 + 1))
                              case measure => omega
                              case rel => exact ⟨i1 + 1, A8, c8, _, by omega, by omega, by go_num, HFN.out, HRN.out, HK9.out⟩
                            exact AllReadyH.nil
                          exact AllReadyH.nil
                        exact AllReadyH.nil
                      exact AllReadyH.nil
                    refine AllReadyH.cons rfl (fun K hK => ?_) ?_
                    · have f0 := HK0.out.rr.cell 0; have f1 := HK0.out.rr.cell 1; have f2 := HK0.out.rr.cell 2; have f3 := HK0.out.rr.cell 3; have f4 := HK0.out.rr.cell 4
                      simp only [List.getElem?_toArray, List.getElem?_cons_zero, List.getElem?_cons_succ] at f0 f1 f2 f3 f4
                      go_simp
                      refine hK.out _ _ (HSC.out _ _ _ HK0.out) (fun hHeld => ?_)
                      clear hK K f0 f1 f2 f3 f4
                      refine wpAnyH_ready (rs := [0, 15]) (by kernel_rfl) (by simp) ?_
                      refine AllReadyH.cons rfl (fun K hK => ?_) ?_
                      · have f0 := HK0.out.rr.cell 0; have f1 := HK0.out.rr.cell 1; have f2 := HK0.out.rr.cell 2; have f3 := HK0.out.rr.cell 3; have f4 := HK0.out.rr.cell 4
                        simp only [List.getElem?_toArray, List.getElem?_cons_zero, List.getElem?_cons_succ] at f0 f1 f2 f3 f4
                        go_simp
                        refine hK.out _ _ (HSC.out _ _ _ HK0.out) (fun hHeld => ?_)
                        clear hK K f0 f1 f2 f3 f4
                        refine wpAnyH_ready (rs := [15]) (by kernel_rfl) (by simp) ?_
                        refine AllReadyH.cons rfl (fun K hK => ?_) ?_
                        · go_simp
                          refine (C1.out _ HK0.out).mono ?_
                          rintro e V1 ⟨A9, c9, rfl, hP, hb⟩
                          (try go_wp2_with fail)
                          have HK1 := Lib.hid (HK0.out.next hb)
                          have HP9 := Lib.hid hP
                          clear hP hb HK0
                          refine hK.out _ _ (HSC.out _ _ _ HK1.out) (fun hHeld => ?_)
                          clear hK K
                          refine wpAnyH_ready (rs := [19]) (by kernel_rfl) (by simp) ?_
                          refine AllReadyH.cons rfl (fun K hK => ?_) ?_
                          · go_simp
                            refine (C2.out _ _ _ HP9.out).mono ?_
                            rintro e V2 ⟨A8, c8, rfl, hP, hb⟩
                            (try go_wp2_with fail)
                            have HK2 := Lib.hid (HK1.out.next hb)
                            clear HP9
                            have HP9 := Lib.hid hP
                            clear hP hb HK1
                            refine hK.out _ _ (HSC.out _ _ _ HK2.out) (fun hHeld => ?_)
                            clear hK K
                            refine wpAnyH_ready (rs := [20]) (by kernel_rfl) (by simp) ?_
                            refine AllReadyH.cons rfl (fun K hK => ?_) ?_
                            · have f0 := HK2.out.rr.cell 0; have f1 := HK2.out.rr.cell 1; have f2 := HK2.out.rr.cell 2; have f3 := HK2.out.rr.cell 3; have f4 := HK2.out.rr.cell 4
                              simp only [List.getElem?_toArray, List.getElem?_cons_zero, List.getElem?_cons_succ] at f0 f1 f2 f3 f4
                              have g0 := HK2.out.rr.frozen 0; have g1 := HK2.out.rr.frozen 1; have g2 := HK2.out.rr.frozen 2; have g3 := HK2.out.rr.frozen 3; have g4 := HK2.out.rr.frozen 4
                              have HK3 := Lib.hid (HK2.out.store HP9.out)
                              go_simp
                              refine hK.out _ _ (HSC.out _ _ _ HK3.out) (fun hHeld => ?_)
                              clear hK K f0 f1 f2 f3 f4 g0 g1 g2 g3 g4 HP9 HK2
                              refine wpAnyH_done (by kernel_rfl) ?_ _
                              clear hHeld
                              have HK9 := Lib.hid HK3.out
                              clear HK3
                              go_wp2_with fail
                              go_wp2
                              go_roundg (ct - (i1 + 1))
                              case measure => omega
                              case rel => exact ⟨i1 + 1, A8, c8, _, by omega, by omega, by go_num, HFN.out, HRN.out, HK9.out⟩
                            exact AllReadyH.nil
                          exact AllReadyH.nil
                        exact AllReadyH.nil
                      refine AllReadyH.cons rfl (fun K hK => ?_) ?_
                      · go_simp
                        refine (C1.out _ HK0.out).mono ?_
                        rintro e V1 ⟨A9, c9, rfl, hP, hb⟩
                        (try go_wp2_with fail)
                        have HK1 := Lib.hid (HK0.out.next hb)
                        have HP9 := Lib.hid hP
                        clear hP hb HK0
                        refine hK.out _ _ (HSC.out _ _ _ HK1.out) (fun hHeld => ?_)
                        clear hK K
                        refine wpAnyH_ready (rs := [0]) (by kernel_rfl) (by simp) ?_
                        refine AllReadyH.cons rfl (fun K hK => ?_) ?_
                        · have f0 := HK1.out.rr.cell 0; have f1 := HK1.out.rr.cell 1; have f2 := HK1.out.rr.cell 2; have f3 := HK1.out.rr.cell 3; have f4 := HK1.out.rr.cell 4
                          simp only [List.getElem?_toArray, List.getElem?_cons_zero, List.getElem?_cons_succ] at f0 f1 f2 f3 f4
                          go_simp
                          refine hK.out _ _ (HSC.out _ _ _ HK1.out) (fun hHeld => ?_)
                          clear hK K f0 f1 f2 f3 f4
                          refine wpAnyH_ready (rs := [19]) (by kernel_rfl) (by simp) ?_
                          refine AllReadyH.cons rfl (fun K hK => ?_) ?_
                          · go_simp
                            refine (C2.out _ _ _ HP9.out).mono ?_
                            rintro e V2 ⟨A8, c8, rfl, hP, hb⟩
                            (try go_wp2_with fail)
                            have HK2 := Lib.hid (HK1.out.next hb)
                            clear HP9
                            have HP9 := Lib.hid hP
                            clear hP hb HK1
                            refine hK.out _ _ (HSC.out _ _ _ HK2.out) (fun hHeld => ?_)
                            clear hK K
                            refine wpAnyH_ready (rs := [20]) (by kernel_rfl) (by simp) ?_
                            refine AllReadyH.cons rfl (fun K hK => ?_) ?_
                            · have f0 := HK2.out.rr.cell 0; have f1 := HK2.out.rr.cell 1; have f2 := HK2.out.rr.cell 2; have f3 := HK2.out.rr.cell 3; have f4 := HK2.out.rr.cell 4
                              simp only [List.getElem?_toArray, List.getElem?_cons_zero, List.getElem?_cons_succ] at f0 f1 f2 f3 f4
                              have g0 := HK2.out.rr.frozen 0; have g1 := HK2.out.rr.frozen 1; have g2 := HK2.out.rr.frozen 2; have g3 := HK2.out.rr.frozen 3; have g4 := HK2.out.rr.frozen 4
                              have HK3 := Lib.hid (HK2.out.store HP9.out)
                              go_simp
                              refine hK.out _ _ (HSC.out _ _ _ HK3.out) (fun hHeld => ?_)
                              clear hK K f0 f1 f2 f3 f4 g0 g1 g2 g3 g4 HP9 HK2
                              refine wpAnyH_done (by kernel_rfl) ?_ _
                              clear hHeld
                              have HK9 := Lib.hid HK3.out
                              clear HK3
                              go_wp2_with fail
                              go_wp2
                              go_roundg (ct - (i1 + 1))
                              case measure => omega
                              case rel => exact ⟨i1 + 1, A8, c8, _, by omega, by omega, by go_num, HFN.out, HRN.out, HK9.out⟩
                            exact AllReadyH.nil
                          exact AllReadyH.nil
                        exact AllReadyH.nil
                      exact AllReadyH.nil
                    exact AllReadyH.nil
                · rw [decide_eq_false hgo]
                  have HRCE : Hid (r = RC) := by
                    show _ = _
                    rw [← HFC.out]
                    by_cases h2 : r.err = 0
                    · have : ct - i1 = 0 := by
                        rcases Nat.lt_or_ge i1 ct with h | h
                        · exact absurd ⟨h, h2⟩ hgo
                        · omega
                      rw [this, List.take_zero, List.map_nil, foldE_nil]
                    · rw [foldE_err h2]
                  clear hgo HFC
                  obtain rfl := HRCE.out
                  clear HRCE
                  have HRI5 := Lib.hid (HRI.out.mono (show s + (i1 - i) ≤ s + (ct - i) by omega))
                  have x2 := (HK.out.ex _ List.mem_cons_self).1.cell 2
                  dsimp only at x2
                  simp only [List.getElem?_toArray, List.getElem?_cons_zero, List.getElem?_cons_succ] at x2
                  go_wp2
                  clear x2
                  obtain ⟨RM, HRM⟩ : ∃ z, Hid (foldE most (mvOps ((mach.drop k).take (mt_ - k)) k) r = z) := ⟨_, rfl⟩
                  have hfj := HFJ.out
                  rw [HRM.out] at hfj
                  have HFK := Lib.hid hfj
                  clear hfj HFJ
                  go_loopg [17] (mt_ - k) (fun g v17 wz => ∃ (k1 : Nat) (A : Option Addr) (c : Nat) (r : Rs), k1 + g = mt_ ∧ k ≤ k1 ∧ v17 = .int .i64 k1 ∧ Hid (foldE most (mvOps ((mach.drop k1).take (mt_ - k1)) k1) r = RM) ∧ Hid (RI R L (s + (ct - i) + (k1 - k)) r) ∧ Hid (KC w bt mt A1 n1 c1 A2 n2 c2 rb (.slice (some ⟨ob, oo, none⟩) R1.length cr) R1 [(xb, 94, #[.int .i64 (i : Int), .int .i64 (ct : Int), .int .i64 (k : Int), .int .i64 (mt_ : Int), .int .i64 sI, .int .i64 mI])] (.slice A r.out.length c) r wz))
                  case atStart => exact ⟨k, A, c, r, by omega, Nat.le_refl _, by go_num, HRM.out, (by rw [Nat.sub_self]; exact HRI5.out), HK.out⟩
                  case round =>
                    clear HRM HRI HRI5 HK
                    obtain ⟨k1, A, c, r, hg1, hk1, rfl, HFC, HRI, HK⟩ := hrel
                    go_upto_region 19 with fail
                    go_cut [111] from 103 to 132 (fun s9 wx => s9 = .bool (decide (k1 < mt_ ∧ r.err = 0)) ∧ wx = wr)
                    case first =>
                      as_aux_lemma =>
                        have x1 := (HK.out.ex _ List.mem_cons_self).1.cell 3
                        have y1 := HK.out.rr.cell 1
                        dsimp only at x1
                        simp only [List.getElem?_toArray, List.getElem?_cons_zero, List.getElem?_cons_succ] at x1 y1
                        by_cases h1 : k1 < mt_
                        · have h1z : (k1 : Int) < (mt_ : Int) := by omega
                          by_cases h2 : r.err = 0
                          · have h2b : (r.err == 0) = true := by simp [h2]
                            have HD := Lib.hid (decide_eq_true (And.intro h1 h2))
                            clear h1 h2
                            go_wp2_with fail
                            go_meet
                            case rel => exact ⟨by rw [HD.out], rfl⟩
                          · have h2b : (r.err == 0) = false := by simp [h2]
                            have HD := Lib.hid (decide_eq_false (fun h : k1 < mt_ ∧ r.err = 0 => h2 h.2))
                            clear h1 h2
                            go_wp2_with fail
                            go_meet
                            case rel => exact ⟨by rw [HD.out], rfl⟩
                        · have h1z : ¬ (k1 : Int) < (mt_ : Int) := by omega
                          have HD := Lib.hid (decide_eq_false (fun h : k1 < mt_ ∧ r.err = 0 => h1 h.1))
                          clear h1
                          go_wp2_with fail
                          go_meet
                          case rel => exact ⟨by rw [HD.out], rfl⟩
                    case rest =>
                      obtain ⟨rfl, hwc⟩ := hcut
                      subst hwc
                      by_cases hgo : k1 < mt_ ∧ r.err = 0
                      · rw [decide_eq_true hgo]
                        have hi2 : k1 < mach.length := by omega
                        obtain ⟨b1, o1, rfl, hb1, hx1⟩ := HM.out.see.at_ hi2
                        have hdt : (mach.drop k1).take (mt_ - k1) = mach[k1] :: (mach.drop (k1 + 1)).take (mt_ - (k1 + 1)) := by
                          rw [List.drop_eq_getElem_cons hi2, show mt_ - k1 = (mt_ - (k1 + 1)) + 1 by omega, List.take_succ_cons]
                        have hfc := HFC.out
                        rw [hdt, mvOps, foldE_cons] at hfc
                        have hein : (EOp.mv mach[k1].dst mach[k1].src k1).In R L := HIN.out _ (by
                          rw [HROW.out]
                          refine List.mem_append_left _ (List.mem_append_right _ ?_)
                          have := mvOps_mem ((mach.drop k).take (mt_ - k)) k (k1 - k) (by simp; omega)
                          simpa [show k + (k1 - k) = k1 by omega] using this)
                        have hrn := HRI.out.step hRL hein most
                        have hlen := (HRI.out.inn.set hein).len (set_srt HRI.out.srt _)
                        have e1 : stepE most r (EOp.mv mach[k1].dst mach[k1].src k1) = r.grow (mvP r.out mach[k1].dst mach[k1].src) most k1 := by unfold stepE; rw [if_pos hgo.2]
                        rw [e1] at hfc hrn
                        have HFN := Lib.hid hfc
                        have HRN := Lib.hid (hrn.mono (show s + (ct - i) + (k1 - k) + 1 ≤ s + (ct - i) + (k1 + 1 - k) by omega))
                        have HBIG := Lib.hid (HRI.out.big (by omega))
                        have HLEN := Lib.hid HRI.out.len
                        have HLAR := Lib.hid HRI.out.lar
                        have HCF : Hid (∀ V, Below w.heap.size w V → V.cell? ⟨b1, o1 + k1 * 7 + 5, none⟩ = some (.int .i64 mach[k1].dst) ∧ V.cell? ⟨b1, o1 + k1 * 7 + 6, none⟩ = some (.int .i64 mach[k1].src)) := fun V h => ⟨(h.cell (p := ⟨b1, _, none⟩) hb1).trans hx1.c5, (h.cell (p := ⟨b1, _, none⟩) hb1).trans hx1.c6⟩
                        change (mvP r.out mach[k1].dst mach[k1].src).length ≤ _ at hlen
                        generalize mach[k1].dst = yd at *
                        generalize mach[k1].src = ys at *
                        have C1 : Hid (∀ V, KC w bt mt A1 n1 c1 (some ⟨b1, o1, none⟩) n2 c2 rb (.slice (some ⟨ob, oo, none⟩) R1.length cr) R1 [(xb, 94, #[.int .i64 (i : Int), .int .i64 (ct : Int), .int .i64 (k : Int), .int .i64 (mt_ : Int), .int .i64 sI, .int .i64 mI])] (.slice A r.out.length c) r V → Calls Tryz.prog 48 #[.slice A r.out.length c, .int .i64 yd, .int .i64 ys] V fun e w' => ∃ A9 c9, e = .returned (.slice A9 (mvP r.out yd ys).length c9) ∧ PL w (.slice A9 (mvP r.out yd ys).length c9) (mvP r.out yd ys) w' ∧ Below V.heap.size V w') := fun V h =>
                          (rtmove_any V.heap.size A r.out c yd ys V h.out.sees (Nat.le_refl _) HLEN.out).mono fun e w' ⟨v, he, hP⟩ => by
                            rw [mvS_eq HRI.out.srt] at hP
                            obtain ⟨A9, c9, rfl, _, _⟩ := hP.slice
                            exact ⟨A9, c9, he, hP.base h.blw, hP.blw⟩
                        have C2 : Hid (∀ V A9 c9, PL w (.slice A9 (mvP r.out yd ys).length c9) (mvP r.out yd ys) V → Calls Tryz.prog 46 #[.agg #[.slice A (r).out.length c, .int .i64 (r).err, .int .i64 ((r).at_ : Int), .int .i64 ((r).steps : Int), .int .i64 ((r).largest : Int)], .slice A9 (mvP r.out yd ys).length c9, .int .i64 most, .int .i64 (k1 : Int)] V fun x w' => ∃ A' c', x = .returned (.agg #[.slice A' (r.grow (mvP r.out yd ys) most k1).out.length c', .int .i64 (r.grow (mvP r.out yd ys) most k1).err, .int .i64 ((r.grow (mvP r.out yd ys) most k1).at_ : Int), .int .i64 ((r.grow (mvP r.out yd ys) most k1).steps : Int), .int .i64 ((r.grow (mvP r.out yd ys) most k1).largest : Int)]) ∧ PL w (.slice A' (r.grow (mvP r.out yd ys) most k1).out.length c') (r.grow (mvP r.out yd ys) most k1).out w' ∧ Below V.heap.size V w') := fun V A9 c9 hP =>
                          rgrow_rs hP A c r most k1 HBIG.out HLEN.out (Nat.le_trans hlen hRL) HLAR.out
                        have i1z : (k1 : Int) < (n2 : Int) := by omega
                        have hi1ct : k1 < mt_ := hgo.1
                        clear hx1 hdt hfc hein hrn e1 hgo hlen
                        as_aux_lemma =>
                          have HSC : Hid (∀ V v' r', KC w bt mt A1 n1 c1 (some ⟨b1, o1, none⟩) n2 c2 rb (.slice (some ⟨ob, oo, none⟩) R1.length cr) R1 [(xb, 94, #[.int .i64 (i : Int), .int .i64 (ct : Int), .int .i64 (k : Int), .int .i64 (mt_ : Int), .int .i64 sI, .int .i64 mI])] v' r' V → V.cell? ⟨w.heap.size + 1, 0, none⟩ = some (.slice (some ⟨b1, o1, none⟩) n2 c2) ∧ V.cell? ⟨b1, o1 + k1 * 7 + 5, none⟩ = some (.int .i64 yd) ∧ V.cell? ⟨b1, o1 + k1 * 7 + 6, none⟩ = some (.int .i64 ys)) := fun V v' r' k => ⟨k.m.cell 0, (HCF.out V k.blw).1, (HCF.out V k.blw).2⟩
                          go_wp2_with fail
                          refine wp_region_held_drew (S := fun w' => w'.cell? ⟨w.heap.size + 1, 0, none⟩ = some (.slice (some ⟨b1, o1, none⟩) n2 c2) ∧ w'.cell? ⟨b1, o1 + k1 * 7 + 5, none⟩ = some (.int .i64 yd) ∧ w'.cell? ⟨b1, o1 + k1 * 7 + 6, none⟩ = some (.int .i64 ys)) (by kernel_rfl) (HSC.out _ _ _ (HK.out.next (Below.refl _ _).drew)) (fun hHeld => ?_)
                          have HK0 := Lib.hid (HK.out.next (Below.refl _ _).drew)
                          clear HK
                          generalize wc.drew = V0 at *
                          refine take_at 1 115 (.pointer (some ⟨rb, 0, none⟩)) rfl rfl (by kernel_rfl) (by kernel_rfl) (by kernel_rfl) (fun _ _ _ h => h) (Or.inl ⟨by rfl, ?_⟩) hHeld ?_
                          · intro w9 hSw
                            (try dsimp only at hSw)
                            go_simp
                            all_goals (first | (intro h9; omega) | omega | (rw [IntKind.wrap_i64]; omega))
                          (try simp only [Act.put, List.setIfInBounds_toArray, List.set_cons_zero, List.set_cons_succ])
                          refine take_at 3 117 (.pointer (some ⟨w.heap.size + 1, 0, none⟩)) rfl rfl (by kernel_rfl) (by kernel_rfl) (by kernel_rfl) (fun _ _ _ h => h) (Or.inl ⟨by rfl, ?_⟩) hHeld ?_
                          · intro w9 hSw
                            (try dsimp only at hSw)
                            go_simp
                            all_goals (first | (intro h9; omega) | omega | (rw [IntKind.wrap_i64]; omega))
                          (try simp only [Act.put, List.setIfInBounds_toArray, List.set_cons_zero, List.set_cons_succ])
                          refine take_at 4 118 (.slice (some ⟨b1, o1, none⟩) n2 c2) rfl rfl (by kernel_rfl) (by kernel_rfl) (by kernel_rfl) (fun _ _ _ h => h) (Or.inl ⟨by rfl, ?_⟩) hHeld ?_
                          · intro w9 hSw
                            (try dsimp only at hSw)
                            go_simp
                            all_goals (first | (intro h9; omega) | omega | (rw [IntKind.wrap_i64]; omega))
                          (try simp only [Act.put, List.setIfInBounds_toArray, List.set_cons_zero, List.set_cons_succ])
                          refine take_at 5 119 (.int .i64 (k1 : Int)) rfl rfl (by kernel_rfl) (by kernel_rfl) (by kernel_rfl) (fun _ _ _ h => h) (Or.inl ⟨by rfl, ?_⟩) hHeld ?_
                          · intro w9 hSw
                            (try dsimp only at hSw)
                            go_simp
                            all_goals (first | (intro h9; omega) | omega | (rw [IntKind.wrap_i64]; omega))
                          (try simp only [Act.put, List.setIfInBounds_toArray, List.set_cons_zero, List.set_cons_succ])
                          refine take_at 6 120 (.pointer (some ⟨b1, o1 + k1 * 7, none⟩)) rfl rfl (by kernel_rfl) (by kernel_rfl) (by kernel_rfl) (fun _ _ _ h => h) (Or.inl ⟨by rfl, ?_⟩) hHeld ?_
                          · intro w9 hSw
                            (try dsimp only at hSw)
                            go_simp
                            all_goals (first | (intro h9; omega) | omega | (rw [IntKind.wrap_i64]; omega))
                          (try simp only [Act.put, List.setIfInBounds_toArray, List.set_cons_zero, List.set_cons_succ])
                          refine take_at 7 121 (.pointer (some ⟨b1, o1 + k1 * 7 + 5, none⟩)) rfl rfl (by kernel_rfl) (by kernel_rfl) (by kernel_rfl) (fun _ _ _ h => h) (Or.inl ⟨by rfl, ?_⟩) hHeld ?_
                          · intro w9 hSw
                            (try dsimp only at hSw)
                            go_simp
                            all_goals (first | (intro h9; omega) | omega | (rw [IntKind.wrap_i64]; omega))
                          (try simp only [Act.put, List.setIfInBounds_toArray, List.set_cons_zero, List.set_cons_succ])
                          refine take_at 8 122 (.int .i64 yd) rfl rfl (by kernel_rfl) (by kernel_rfl) (by kernel_rfl) (fun _ _ _ h => h) (Or.inl ⟨by rfl, ?_⟩) hHeld ?_
                          · intro w9 hSw
                            (try dsimp only at hSw)
                            go_simp
                            all_goals (first | (intro h9; omega) | omega | (rw [IntKind.wrap_i64]; omega))
                          (try simp only [Act.put, List.setIfInBounds_toArray, List.set_cons_zero, List.set_cons_succ])
                          refine take_at 9 123 (.pointer (some ⟨w.heap.size + 1, 0, none⟩)) rfl rfl (by kernel_rfl) (by kernel_rfl) (by kernel_rfl) (fun _ _ _ h => h) (Or.inl ⟨by rfl, ?_⟩) hHeld ?_
                          · intro w9 hSw
                            (try dsimp only at hSw)
                            go_simp
                            all_goals (first | (intro h9; omega) | omega | (rw [IntKind.wrap_i64]; omega))
                          (try simp only [Act.put, List.setIfInBounds_toArray, List.set_cons_zero, List.set_cons_succ])
                          refine take_at 10 124 (.slice (some ⟨b1, o1, none⟩) n2 c2) rfl rfl (by kernel_rfl) (by kernel_rfl) (by kernel_rfl) (fun _ _ _ h => h) (Or.inl ⟨by rfl, ?_⟩) hHeld ?_
                          · intro w9 hSw
                            (try dsimp only at hSw)
                            go_simp
                            all_goals (first | (intro h9; omega) | omega | (rw [IntKind.wrap_i64]; omega))
                          (try simp only [Act.put, List.setIfInBounds_toArray, List.set_cons_zero, List.set_cons_succ])
                          refine take_at 11 125 (.int .i64 (k1 : Int)) rfl rfl (by kernel_rfl) (by kernel_rfl) (by kernel_rfl) (fun _ _ _ h => h) (Or.inl ⟨by rfl, ?_⟩) hHeld ?_
                          · intro w9 hSw
                            (try dsimp only at hSw)
                            go_simp
                            all_goals (first | (intro h9; omega) | omega | (rw [IntKind.wrap_i64]; omega))
                          (try simp only [Act.put, List.setIfInBounds_toArray, List.set_cons_zero, List.set_cons_succ])
                          refine take_at 12 126 (.pointer (some ⟨b1, o1 + k1 * 7, none⟩)) rfl rfl (by kernel_rfl) (by kernel_rfl) (by kernel_rfl) (fun _ _ _ h => h) (Or.inl ⟨by rfl, ?_⟩) hHeld ?_
                          · intro w9 hSw
                            (try dsimp only at hSw)
                            go_simp
                            all_goals (first | (intro h9; omega) | omega | (rw [IntKind.wrap_i64]; omega))
                          (try simp only [Act.put, List.setIfInBounds_toArray, List.set_cons_zero, List.set_cons_succ])
                          refine take_at 13 127 (.pointer (some ⟨b1, o1 + k1 * 7 + 6, none⟩)) rfl rfl (by kernel_rfl) (by kernel_rfl) (by kernel_rfl) (fun _ _ _ h => h) (Or.inl ⟨by rfl, ?_⟩) hHeld ?_
                          · intro w9 hSw
                            (try dsimp only at hSw)
                            go_simp
                            all_goals (first | (intro h9; omega) | omega | (rw [IntKind.wrap_i64]; omega))
                          (try simp only [Act.put, List.setIfInBounds_toArray, List.set_cons_zero, List.set_cons_succ])
                          refine take_at 14 128 (.int .i64 ys) rfl rfl (by kernel_rfl) (by kernel_rfl) (by kernel_rfl) (fun _ _ _ h => h) (Or.inl ⟨by rfl, ?_⟩) hHeld ?_
                          · intro w9 hSw
                            (try dsimp only at hSw)
                            go_simp
                            all_goals (first | (intro h9; omega) | omega | (rw [IntKind.wrap_i64]; omega))
                          (try simp only [Act.put, List.setIfInBounds_toArray, List.set_cons_zero, List.set_cons_succ])
                          refine take_at 16 130 (.int .i64 most) rfl rfl (by kernel_rfl) (by kernel_rfl) (by kernel_rfl) (fun _ _ _ h => h) (Or.inl ⟨by rfl, ?_⟩) hHeld ?_
                          · intro w9 hSw
                            (try dsimp only at hSw)
                            go_simp
                            all_goals (first | (intro h9; omega) | omega | (rw [IntKind.wrap_i64]; omega))
                          (try simp only [Act.put, List.setIfInBounds_toArray, List.set_cons_zero, List.set_cons_succ])
                          refine take_at 17 131 (.int .i64 (k1 : Int)) rfl rfl (by kernel_rfl) (by kernel_rfl) (by kernel_rfl) (fun _ _ _ h => h) (Or.inl ⟨by rfl, ?_⟩) hHeld ?_
                          · intro w9 hSw
                            (try dsimp only at hSw)
                            go_simp
                            all_goals (first | (intro h9; omega) | omega | (rw [IntKind.wrap_i64]; omega))
                          (try simp only [Act.put, List.setIfInBounds_toArray, List.set_cons_zero, List.set_cons_succ])
                          refine wpAnyH_ready (rs := [0, 2]) (by kernel_rfl) (by simp) ?_
                          refine AllReadyH.cons rfl (fun K hK => ?_) ?_
                          · have f0 := HK0.out.rr.cell 0; have f1 := HK0.out.rr.cell 1; have f2 := HK0.out.rr.cell 2; have f3 := HK0.out.rr.cell 3; have f4 := HK0.out.rr.cell 4
                            simp only [List.getElem?_toArray, List.getElem?_cons_zero, List.getElem?_cons_succ] at f0 f1 f2 f3 f4
                            go_simp
                            refine hK.out _ _ (HSC.out _ _ _ HK0.out) (fun hHeld => ?_)
                            clear hK K f0 f1 f2 f3 f4
                            refine wpAnyH_ready (rs := [2]) (by kernel_rfl) (by simp) ?_
                            refine AllReadyH.cons rfl (fun K hK => ?_) ?_
                            · have f0 := HK0.out.rr.cell 0; have f1 := HK0.out.rr.cell 1; have f2 := HK0.out.rr.cell 2; have f3 := HK0.out.rr.cell 3; have f4 := HK0.out.rr.cell 4
                              simp only [List.getElem?_toArray, List.getElem?_cons_zero, List.getElem?_cons_succ] at f0 f1 f2 f3 f4
                              go_simp
                              refine hK.out _ _ (HSC.out _ _ _ HK0.out) (fun hHeld => ?_)
                              clear hK K f0 f1 f2 f3 f4
                              refine wpAnyH_ready (rs := [15]) (by kernel_rfl) (by simp) ?_
                              refine AllReadyH.cons rfl (fun K hK => ?_) ?_
                              · go_simp
                                refine (C1.out _ HK0.out).mono ?_
                                rintro e V1 ⟨A9, c9, rfl, hP, hb⟩
                                (try go_wp2_with fail)
                                have HK1 := Lib.hid (HK0.out.next hb)
                                have HP9 := Lib.hid hP
                                clear hP hb HK0
                                refine hK.out _ _ (HSC.out _ _ _ HK1.out) (fun hHeld => ?_)
                                clear hK K
                                refine wpAnyH_ready (rs := [18]) (by kernel_rfl) (by simp) ?_
                                refine AllReadyH.cons rfl (fun K hK => ?_) ?_
                                · go_simp
                                  refine (C2.out _ _ _ HP9.out).mono ?_
                                  rintro e V2 ⟨A8, c8, rfl, hP, hb⟩
                                  (try go_wp2_with fail)
                                  have HK2 := Lib.hid (HK1.out.next hb)
                                  clear HP9
                                  have HP9 := Lib.hid hP
                                  clear hP hb HK1
                                  refine hK.out _ _ (HSC.out _ _ _ HK2.out) (fun hHeld => ?_)
                                  clear hK K
                                  refine wpAnyH_ready (rs := [19]) (by kernel_rfl) (by simp) ?_
                                  refine AllReadyH.cons rfl (fun K hK => ?_) ?_
                                  · have f0 := HK2.out.rr.cell 0; have f1 := HK2.out.rr.cell 1; have f2 := HK2.out.rr.cell 2; have f3 := HK2.out.rr.cell 3; have f4 := HK2.out.rr.cell 4
                                    simp only [List.getElem?_toArray, List.getElem?_cons_zero, List.getElem?_cons_succ] at f0 f1 f2 f3 f4
                                    have g0 := HK2.out.rr.frozen 0; have g1 := HK2.out.rr.frozen 1; have g2 := HK2.out.rr.frozen 2; have g3 := HK2.out.rr.frozen 3; have g4 := HK2.out.rr.frozen 4
                                    have HK3 := Lib.hid (HK2.out.store HP9.out)
                                    go_simp
                                    refine hK.out _ _ (HSC.out _ _ _ HK3.out) (fun hHeld => ?_)
                                    clear hK K f0 f1 f2 f3 f4 g0 g1 g2 g3 g4 HP9 HK2
                                    refine wpAnyH_done (by kernel_rfl) ?_ _
                                    clear hHeld
                                    have HK9 := Lib.hid HK3.out
                                    clear HK3
                                    go_wp2_with fail
                                    go_wp2
                                    go_roundg (mt_ - (k1 + 1))
                                    case measure => omega
                                    case rel => exact ⟨k1 + 1, A8, c8, _, by omega, by omega, by go_num, HFN.out, HRN.out, HK9.out⟩
                                  exact AllReadyH.nil
                                exact AllReadyH.nil
                              exact AllReadyH.nil
                            exact AllReadyH.nil
                          refine AllReadyH.cons rfl (fun K hK => ?_) ?_
                          · have f0 := HK0.out.rr.cell 0; have f1 := HK0.out.rr.cell 1; have f2 := HK0.out.rr.cell 2; have f3 := HK0.out.rr.cell 3; have f4 := HK0.out.rr.cell 4
                            simp only [List.getElem?_toArray, List.getElem?_cons_zero, List.getElem?_cons_succ] at f0 f1 f2 f3 f4
                            go_simp
                            refine hK.out _ _ (HSC.out _ _ _ HK0.out) (fun hHeld => ?_)
                            clear hK K f0 f1 f2 f3 f4
                            refine wpAnyH_ready (rs := [0, 15]) (by kernel_rfl) (by simp) ?_
                            refine AllReadyH.cons rfl (fun K hK => ?_) ?_
                            · have f0 := HK0.out.rr.cell 0; have f1 := HK0.out.rr.cell 1; have f2 := HK0.out.rr.cell 2; have f3 := HK0.out.rr.cell 3; have f4 := HK0.out.rr.cell 4
                              simp only [List.getElem?_toArray, List.getElem?_cons_zero, List.getElem?_cons_succ] at f0 f1 f2 f3 f4
                              go_simp
                              refine hK.out _ _ (HSC.out _ _ _ HK0.out) (fun hHeld => ?_)
                              clear hK K f0 f1 f2 f3 f4
                              refine wpAnyH_ready (rs := [15]) (by kernel_rfl) (by simp) ?_
                              refine AllReadyH.cons rfl (fun K hK => ?_) ?_
                              · go_simp
                                refine (C1.out _ HK0.out).mono ?_
                                rintro e V1 ⟨A9, c9, rfl, hP, hb⟩
                                (try go_wp2_with fail)
                                have HK1 := Lib.hid (HK0.out.next hb)
                                have HP9 := Lib.hid hP
                                clear hP hb HK0
                                refine hK.out _ _ (HSC.out _ _ _ HK1.out) (fun hHeld => ?_)
                                clear hK K
                                refine wpAnyH_ready (rs := [18]) (by kernel_rfl) (by simp) ?_
                                refine AllReadyH.cons rfl (fun K hK => ?_) ?_
                                · go_simp
                                  refine (C2.out _ _ _ HP9.out).mono ?_
                                  rintro e V2 ⟨A8, c8, rfl, hP, hb⟩
                                  (try go_wp2_with fail)
                                  have HK2 := Lib.hid (HK1.out.next hb)
                                  clear HP9
                                  have HP9 := Lib.hid hP
                                  clear hP hb HK1
                                  refine hK.out _ _ (HSC.out _ _ _ HK2.out) (fun hHeld => ?_)
                                  clear hK K
                                  refine wpAnyH_ready (rs := [19]) (by kernel_rfl) (by simp) ?_
                                  refine AllReadyH.cons rfl (fun K hK => ?_) ?_
                                  · have f0 := HK2.out.rr.cell 0; have f1 := HK2.out.rr.cell 1; have f2 := HK2.out.rr.cell 2; have f3 := HK2.out.rr.cell 3; have f4 := HK2.out.rr.cell 4
                                    simp only [List.getElem?_toArray, List.getElem?_cons_zero, List.getElem?_cons_succ] at f0 f1 f2 f3 f4
                                    have g0 := HK2.out.rr.frozen 0; have g1 := HK2.out.rr.frozen 1; have g2 := HK2.out.rr.frozen 2; have g3 := HK2.out.rr.frozen 3; have g4 := HK2.out.rr.frozen 4
                                    have HK3 := Lib.hid (HK2.out.store HP9.out)
                                    go_simp
                                    refine hK.out _ _ (HSC.out _ _ _ HK3.out) (fun hHeld => ?_)
                                    clear hK K f0 f1 f2 f3 f4 g0 g1 g2 g3 g4 HP9 HK2
                                    refine wpAnyH_done (by kernel_rfl) ?_ _
                                    clear hHeld
                                    have HK9 := Lib.hid HK3.out
                                    clear HK3
                                    go_wp2_with fail
                                    go_wp2
                                    go_roundg (mt_ - (k1 + 1))
                                    case measure => omega
                                    case rel => exact ⟨k1 + 1, A8, c8, _, by omega, by omega, by go_num, HFN.out, HRN.out, HK9.out⟩
                                  exact AllReadyH.nil
                                exact AllReadyH.nil
                              exact AllReadyH.nil
                            refine AllReadyH.cons rfl (fun K hK => ?_) ?_
                            · go_simp
                              refine (C1.out _ HK0.out).mono ?_
                              rintro e V1 ⟨A9, c9, rfl, hP, hb⟩
                              (try go_wp2_with fail)
                              have HK1 := Lib.hid (HK0.out.next hb)
                              have HP9 := Lib.hid hP
                              clear hP hb HK0
                              refine hK.out _ _ (HSC.out _ _ _ HK1.out) (fun hHeld => ?_)
                              clear hK K
                              refine wpAnyH_ready (rs := [0]) (by kernel_rfl) (by simp) ?_
                              refine AllReadyH.cons rfl (fun K hK => ?_) ?_
                              · have f0 := HK1.out.rr.cell 0; have f1 := HK1.out.rr.cell 1; have f2 := HK1.out.rr.cell 2; have f3 := HK1.out.rr.cell 3; have f4 := HK1.out.rr.cell 4
                                simp only [List.getElem?_toArray, List.getElem?_cons_zero, List.getElem?_cons_succ] at f0 f1 f2 f3 f4
                                go_simp
                                refine hK.out _ _ (HSC.out _ _ _ HK1.out) (fun hHeld => ?_)
                                clear hK K f0 f1 f2 f3 f4
                                refine wpAnyH_ready (rs := [18]) (by kernel_rfl) (by simp) ?_
                                refine AllReadyH.cons rfl (fun K hK => ?_) ?_
                                · go_simp
                                  refine (C2.out _ _ _ HP9.out).mono ?_
                                  rintro e V2 ⟨A8, c8, rfl, hP, hb⟩
                                  (try go_wp2_with fail)
                                  have HK2 := Lib.hid (HK1.out.next hb)
                                  clear HP9
                                  have HP9 := Lib.hid hP
                                  clear hP hb HK1
                                  refine hK.out _ _ (HSC.out _ _ _ HK2.out) (fun hHeld => ?_)
                                  clear hK K
                                  refine wpAnyH_ready (rs := [19]) (by kernel_rfl) (by simp) ?_
                                  refine AllReadyH.cons rfl (fun K hK => ?_) ?_
                                  · have f0 := HK2.out.rr.cell 0; have f1 := HK2.out.rr.cell 1; have f2 := HK2.out.rr.cell 2; have f3 := HK2.out.rr.cell 3; have f4 := HK2.out.rr.cell 4
                                    simp only [List.getElem?_toArray, List.getElem?_cons_zero, List.getElem?_cons_succ] at f0 f1 f2 f3 f4
                                    have g0 := HK2.out.rr.frozen 0; have g1 := HK2.out.rr.frozen 1; have g2 := HK2.out.rr.frozen 2; have g3 := HK2.out.rr.frozen 3; have g4 := HK2.out.rr.frozen 4
                                    have HK3 := Lib.hid (HK2.out.store HP9.out)
                                    go_simp
                                    refine hK.out _ _ (HSC.out _ _ _ HK3.out) (fun hHeld => ?_)
                                    clear hK K f0 f1 f2 f3 f4 g0 g1 g2 g3 g4 HP9 HK2
                                    refine wpAnyH_done (by kernel_rfl) ?_ _
                                    clear hHeld
                                    have HK9 := Lib.hid HK3.out
                                    clear HK3
                                    go_wp2_with fail
                                    go_wp2
                                    go_roundg (mt_ - (k1 + 1))
                                    case measure => omega
                                    case rel => exact ⟨k1 + 1, A8, c8, _, by omega, by omega, by go_num, HFN.out, HRN.out, HK9.out⟩
                                  exact AllReadyH.nil
                                exact AllReadyH.nil
                              exact AllReadyH.nil
                            exact AllReadyH.nil
                          exact AllReadyH.nil
                      · rw [decide_eq_false hgo]
                        have HRCE : Hid (r = RM) := by
                          show _ = _
                          rw [← HFC.out]
                          by_cases h2 : r.err = 0
                          · have : mt_ - k1 = 0 := by
                              rcases Nat.lt_or_ge k1 mt_ with h | h
                              · exact absurd ⟨h, h2⟩ hgo
                              · omega
                            rw [this, List.take_zero, mvOps, foldE_nil]
                          · rw [foldE_err h2]
                        clear hgo HFC
                        obtain rfl := HRCE.out
                        have HRI5 := Lib.hid (HRI.out.mono (show s + (ct - i) + (k1 - k) ≤ s + (ct - i) + (mt_ - k) by omega))
                        clear HRI
                        rcases HCASE.out with ⟨hneg, htl, hrs⟩ | ⟨hc1, hm1, hs1, hm2, htl, hsm, hnx⟩
                        · have hfk := HFK.out
                          rw [htl, hrs, foldE_nil] at hfk
                          have hre := HREST.out
                          rw [hrs] at hre
                          have HFK := Lib.hid hfk
                          have HREST := Lib.hid hre
                          clear hfk hre htl hrs
                          have x4 := (HK.out.ex _ List.mem_cons_self).1.cell 4
                          dsimp only at x4
                          simp only [List.getElem?_toArray, List.getElem?_cons_zero, List.getElem?_cons_succ] at x4
                          have HFE : Hid (foldE most ((R1.drop (j + 1)).flatMap (rowOps code mach)) r = RA) := by
                            show _ = _
                            rw [← HREST.out]
                            exact HFK.out
                          have HJE : Hid (¬ j + 1 < R1.length) := fun h => by
                            have := congrArg List.length HREST.out
                            rw [List.length_nil, List.length_drop] at this
                            omega
                          go_wp2
                          go_roundg (R1.length - (j + 1))
                          case measure => omega
                          case rel => exact ⟨j + 1, ct, mt_, s + (ct - i) + (mt_ - k), A, c, r, by omega, by go_num, by omega, by omega, by omega, fun h => absurd h HJE.out, HFE.out, HRI5.out, HK.out.sub (fun z hz => by simp at hz)⟩
                        · have hops9 : ∀ e ∈ tl, e.In R L := fun e he => HIN.out e (by rw [HROW.out]; exact List.mem_append_right _ he)
                          clear HCASE HROW HIN
                          obtain ⟨u, hu⟩ : ∃ z, z = code[ct] := ⟨_, rfl⟩
                          obtain ⟨v, hv⟩ : ∃ z, z = mach[mt_] := ⟨_, rfl⟩
                          obtain ⟨b1, o1, rfl, hb1, hx1⟩ := HC.out.see.at_ hc1
                          obtain ⟨b2, o2, rfl, hb2, hx2⟩ := HM.out.see.at_ hm1
                          have hvok : MiOk nR nS v := HMK.out v (hv ▸ List.getElem_mem hm1)
                          rw [← hu] at htl hsm hx1
                          rw [← hv] at htl hsm hx2
                          subst hs1 hm2 htl
                          have HOPS9 := Lib.hid hops9
                          have HBD := Lib.hid (mi_bounds hvok hsm)
                          have HCN : Hid (j + 1 < R1.length → Chn code mach (ct + 1) (mt_ + 1) (R1.drop (j + 1))) := fun _ => HREST.out ▸ hnx
                          have hfk := HFK.out
                          rw [HREST.out] at hfk
                          have HFK := Lib.hid hfk
                          have HX1 := Lib.hid hx1
                          have HX2 := Lib.hid hx2
                          have hctz : (ct : Int) < (n1 : Int) := by omega
                          have hmtz : (mt_ : Int) < (n2 : Int) := by omega
                          have hneg : ¬ (ct : Int) < 0 := by omega
                          clear hops9 hvok hfk hx1 hx2 hnx hsm hu hv HREST
                          have x4 := (HK.out.ex _ List.mem_cons_self).1.cell 4
                          have y1 := HK.out.rr.cell 1
                          dsimp only at x4
                          simp only [List.getElem?_toArray, List.getElem?_cons_zero, List.getElem?_cons_succ] at x4 y1
                          by_cases h2 : r.err = 0
                          · have h2b : (r.err == 0) = true := by simp [h2]
                            have H2 := Lib.hid h2
                            go_upto_region 23 with fail
                            clear y1 h2b h2
                            have b0 := HK.out.b.cell 0
                            simp only [List.getElem?_toArray, List.getElem?_cons_zero] at b0
                            have d0 := (HK.out.blw.cell (p := ⟨b1, _, none⟩) hb1).trans HX1.out.c0
                            have d1 := (HK.out.blw.cell (p := ⟨b1, _, none⟩) hb1).trans HX1.out.c1
                            have d2 := (HK.out.blw.cell (p := ⟨b1, _, none⟩) hb1).trans HX1.out.c2
                            have d3 := (HK.out.blw.cell (p := ⟨b1, _, none⟩) hb1).trans HX1.out.c3
                            have d4 := (HK.out.blw.cell (p := ⟨b1, _, none⟩) hb1).trans HX1.out.c4
                            go_upto_region 24 with fail
                            have HKB := Lib.hid (HK.out.box 98 #[.int .i64 u.op, .int .i64 u.d, .int .i64 u.a, .int .i64 u.b, .int .i64 u.imm])
                            clear b0 d0 d1 d2 d3 d4 x4 HK
                            generalize (wc.alloc (.cells #[.int .i64 u.op, .int .i64 u.d, .int .i64 u.a, .int .i64 u.b, .int .i64 u.imm] 98)) = W6 at *
                            generalize wc.heap.size = sb at *
                            have m0 := HKB.out.m.cell 0
                            have x5 := (HKB.out.ex _ (List.mem_cons_of_mem _ List.mem_cons_self)).1.cell 5
                            dsimp only at x5
                            simp only [List.getElem?_toArray, List.getElem?_cons_zero, List.getElem?_cons_succ] at m0 x5
                            have d0 := (HKB.out.blw.cell (p := ⟨b2, _, none⟩) hb2).trans HX2.out.c0
                            have d1 := (HKB.out.blw.cell (p := ⟨b2, _, none⟩) hb2).trans HX2.out.c1
                            have d2 := (HKB.out.blw.cell (p := ⟨b2, _, none⟩) hb2).trans HX2.out.c2
                            have d3 := (HKB.out.blw.cell (p := ⟨b2, _, none⟩) hb2).trans HX2.out.c3
                            have d4 := (HKB.out.blw.cell (p := ⟨b2, _, none⟩) hb2).trans HX2.out.c4
                            have d5 := (HKB.out.blw.cell (p := ⟨b2, _, none⟩) hb2).trans HX2.out.c5
                            have d6 := (HKB.out.blw.cell (p := ⟨b2, _, none⟩) hb2).trans HX2.out.c6
                            go_upto_region 25 with fail
                            have HK := Lib.hid (HKB.out.box 101 #[.int .i64 v.op, .int .i64 v.d, .int .i64 v.a, .int .i64 v.b, .int .i64 v.imm, .int .i64 v.dst, .int .i64 v.src])
                            clear m0 d0 d1 d2 d3 d4 d5 d6 x5 HKB
                            generalize (W6.alloc (.cells #[.int .i64 v.op, .int .i64 v.d, .int .i64 v.a, .int .i64 v.b, .int .i64 v.imm, .int .i64 v.dst, .int .i64 v.src] 101)) = W7 at *
                            generalize W6.heap.size = tb at *
                            have hfk := HFK.out
                            rw [ins_fold H2.out] at hfk
                            obtain ⟨bA, HbA⟩ : ∃ z, Hid (uA u.op = z) := ⟨_, rfl⟩
                            obtain ⟨bB, HbB⟩ : ∃ z, Hid (uB u.op = z) := ⟨_, rfl⟩
                            obtain ⟨bD, HbD⟩ : ∃ z, Hid (uD u.op = z) := ⟨_, rfl⟩
                            obtain ⟨rA, HRA9⟩ : ∃ z, Hid (insA u v mt_ r = z) := ⟨_, rfl⟩
                            rw [HRA9.out] at hfk
                            obtain ⟨rB, HRB9⟩ : ∃ z, Hid (insB u v mt_ rA = z) := ⟨_, rfl⟩
                            rw [HRB9.out] at hfk
                            obtain ⟨rD, HRD9⟩ : ∃ z, Hid (insD most u v mt_ rB = z) := ⟨_, rfl⟩
                            rw [HRD9.out] at hfk
                            have HFN := Lib.hid hfk
                            have HRIA : Hid (RI R L (s + (ct - i) + (mt_ - k) + 1) rA) := by
                              show RI _ _ _ _
                              rw [← HRA9.out]
                              exact HRI5.out.insA hRL H2.out HOPS9.out
                            have HRIB : Hid (RI R L (s + (ct - i) + (mt_ - k) + 2) rB) := by
                              show RI _ _ _ _
                              rw [← HRB9.out]
                              exact HRIA.out.insB hRL HOPS9.out
                            have HRID : Hid (RI R L (s + (ct - i) + (mt_ - k) + 3) rD) := by
                              show RI _ _ _ _
                              rw [← HRD9.out]
                              exact HRIB.out.insD hRL HOPS9.out
                            clear hfk HFK
                            have HST := Lib.hid (show s + (ct - i) + (mt_ - k) + 3 ≤ 100000 by omega)
                            have HSB := Lib.hid (show s + (ct - i) + (mt_ - k) + 3 ≤ ct + 1 + 3 * (mt_ + 1) by omega)
                            have CA := Lib.hid fun W => rusesA_any u.op bA W HbA.out
                            have CB := Lib.hid fun W => rusesB_any u.op bB W HbB.out
                            have CD := Lib.hid fun W => rusesD_any u.op bD W HbD.out
                            have s0 := (HK.out.ex _ (List.mem_cons_of_mem _ List.mem_cons_self)).1.cell 0
                            dsimp only at s0
                            simp only [List.getElem?_toArray, List.getElem?_cons_zero] at s0
                            go_wp2_with fail
                            refine (CA.out _).mono ?_
                            rintro e W8 ⟨rfl, hw⟩
                            subst hw
                            go_upto_if 155 with fail
                            go_cut [14] from 58 to 200 (fun s14 wx => s14 = .int .i64 (j : Int) ∧ Hid (∃ A c, KC w bt mt (some ⟨b1, o1, none⟩) n1 c1 (some ⟨b2, o2, none⟩) n2 c2 rb (.slice (some ⟨ob, oo, none⟩) R1.length cr) R1 [(tb, 101, #[.int .i64 v.op, .int .i64 v.d, .int .i64 v.a, .int .i64 v.b, .int .i64 v.imm, .int .i64 v.dst, .int .i64 v.src]), (sb, 98, #[.int .i64 u.op, .int .i64 u.d, .int .i64 u.a, .int .i64 u.b, .int .i64 u.imm]), (xb, 94, #[.int .i64 (i : Int), .int .i64 (ct : Int), .int .i64 (k : Int), .int .i64 (mt_ : Int), .int .i64 (ct : Int), .int .i64 (mt_ : Int)])] (.slice A rA.out.length c) rA wx))
                            case first =>
                              clear s0
                              cases bA
                              · have HQ : Hid (rA = r) := by
                                  show _ = _
                                  rw [← HRA9.out]
                                  unfold insA
                                  rw [if_neg (by rw [HbA.out]; decide)]
                                clear HRA9 HRIB HRIA HRID HRI5
                                obtain rfl := HQ.out
                                go_wp2_with fail
                                go_meet
                                case rel => exact ⟨rfl, ⟨_, _, HK.out⟩⟩
                              · have HQ : Hid (r.use u.a v.a mt_ = rA) := by
                                  show _ = _
                                  rw [← HRA9.out]
                                  unfold insA
                                  rw [if_pos HbA.out]
                                have HG := Lib.hid (HBD.out.1 HbA.out)
                                as_aux_lemma =>
                                  have C9 := Lib.hid (ruse_rs HK.out.out u.a v.a mt_ (HRI5.out.big (by have := HST.out; omega)) HRI5.out.len (by have := HG.out; omega))
                                  have s2 := (HK.out.ex _ (List.mem_cons_of_mem _ List.mem_cons_self)).1.cell 2
                                  have t2 := (HK.out.ex _ List.mem_cons_self).1.cell 2
                                  have x5 := (HK.out.ex _ (List.mem_cons_of_mem _ (List.mem_cons_of_mem _ List.mem_cons_self))).1.cell 5
                                  dsimp only at s2 t2 x5
                                  simp only [List.getElem?_toArray, List.getElem?_cons_zero, List.getElem?_cons_succ] at s2 t2 x5
                                  have f0 := HK.out.rr.cell 0; have f1 := HK.out.rr.cell 1; have f2 := HK.out.rr.cell 2; have f3 := HK.out.rr.cell 3; have f4 := HK.out.rr.cell 4
                                  simp only [List.getElem?_toArray, List.getElem?_cons_zero, List.getElem?_cons_succ] at f0 f1 f2 f3 f4
                                  go_wp2_with fail
                                  refine C9.out.mono ?_
                                  rintro e W8 ⟨A8, c8, rfl, hP, hb⟩
                                  rw [HQ.out] at hP
                                  have HK8 := Lib.hid (HK.out.next hb)
                                  have HP8 := Lib.hid hP
                                  clear hP hb HK C9 s2 t2 x5 f0 f1 f2 f3 f4
                                  have f0 := HK8.out.rr.cell 0; have f1 := HK8.out.rr.cell 1; have f2 := HK8.out.rr.cell 2; have f3 := HK8.out.rr.cell 3; have f4 := HK8.out.rr.cell 4
                                  simp only [List.getElem?_toArray, List.getElem?_cons_zero, List.getElem?_cons_succ] at f0 f1 f2 f3 f4
                                  have g0 := HK8.out.rr.frozen 0; have g1 := HK8.out.rr.frozen 1; have g2 := HK8.out.rr.frozen 2; have g3 := HK8.out.rr.frozen 3; have g4 := HK8.out.rr.frozen 4
                                  rw [HQ.out]
                                  go_wp2_with fail
                                  go_meet
                                  case rel => exact ⟨rfl, ⟨A8, c8, HK8.out.store HP8.out⟩⟩
                            case rest =>
                              obtain ⟨rfl, hkc⟩ := hcut
                              clear HRA9 HRI5 CA H2 HK s0
                              obtain ⟨A, c, hk9⟩ := hkc.out
                              have HK := Lib.hid hk9
                              clear hk9 hkc
                              go_upto_region 27 with fail
                              go_cut [171] from 58 to 200 (fun s171 wx => s171 = .bool (decide (uB u.op = true ∧ rA.err = 0)) ∧ wx = wc)
                              case first =>
                                as_aux_lemma =>
                                  have s0 := (HK.out.ex _ (List.mem_cons_of_mem _ List.mem_cons_self)).1.cell 0
                                  have y1 := HK.out.rr.cell 1
                                  dsimp only at s0
                                  simp only [List.getElem?_toArray, List.getElem?_cons_zero, List.getElem?_cons_succ] at s0 y1
                                  cases bB
                                  · have HD := Lib.hid (decide_eq_false (fun h : uB u.op = true ∧ rA.err = 0 => absurd (h.1.symm.trans HbB.out) (by decide)))
                                    go_wp2_with fail
                                    refine (CB.out _).mono ?_
                                    rintro e W9 ⟨rfl, hw⟩
                                    subst hw
                                    go_wp2_with fail
                                    go_meet
                                    case rel => exact ⟨by rw [HD.out], rfl⟩
                                  · by_cases h2 : rA.err = 0
                                    · have h2b : (rA.err == 0) = true := by simp [h2]
                                      have HD := Lib.hid (decide_eq_true (And.intro HbB.out h2))
                                      clear h2
                                      go_wp2_with fail
                                      refine (CB.out _).mono ?_
                                      rintro e W9 ⟨rfl, hw⟩
                                      subst hw
                                      go_wp2_with fail
                                      go_meet
                                      case rel => exact ⟨by rw [HD.out], rfl⟩
                                    · have h2b : (rA.err == 0) = false := by simp [h2]
                                      have HD := Lib.hid (decide_eq_false (fun h : uB u.op = true ∧ rA.err = 0 => h2 h.2))
                                      clear h2
                                      go_wp2_with fail
                                      refine (CB.out _).mono ?_
                                      rintro e W9 ⟨rfl, hw⟩
                                      subst hw
                                      go_wp2_with fail
                                      go_meet
                                      case rel => exact ⟨by rw [HD.out], rfl⟩
                              case rest =>
                                obtain ⟨rfl, hwc⟩ := hcut
                                subst hwc
                                go_upto_if 171 with fail
                                go_cut [14] from 58 to 200 (fun s14 wx => s14 = .int .i64 (j : Int) ∧ Hid (∃ A c, KC w bt mt (some ⟨b1, o1, none⟩) n1 c1 (some ⟨b2, o2, none⟩) n2 c2 rb (.slice (some ⟨ob, oo, none⟩) R1.length cr) R1 [(tb, 101, #[.int .i64 v.op, .int .i64 v.d, .int .i64 v.a, .int .i64 v.b, .int .i64 v.imm, .int .i64 v.dst, .int .i64 v.src]), (sb, 98, #[.int .i64 u.op, .int .i64 u.d, .int .i64 u.a, .int .i64 u.b, .int .i64 u.imm]), (xb, 94, #[.int .i64 (i : Int), .int .i64 (ct : Int), .int .i64 (k : Int), .int .i64 (mt_ : Int), .int .i64 (ct : Int), .int .i64 (mt_ : Int)])] (.slice A rB.out.length c) rB wx))
                                case first =>
                                  by_cases hgo : uB u.op = true ∧ rA.err = 0
                                  · rw [decide_eq_true hgo]
                                    have HQ : Hid (rA.use u.b v.b mt_ = rB) := by
                                      show _ = _
                                      rw [← HRB9.out]
                                      unfold insB
                                      rw [if_pos hgo]
                                    have HG := Lib.hid (HBD.out.2.1 hgo.1)
                                    clear hgo
                                    as_aux_lemma =>
                                      have C9 := Lib.hid (ruse_rs HK.out.out u.b v.b mt_ (HRIA.out.big (by have := HST.out; omega)) HRIA.out.len (by have := HG.out; omega))
                                      have s2 := (HK.out.ex _ (List.mem_cons_of_mem _ List.mem_cons_self)).1.cell 3
                                      have t2 := (HK.out.ex _ List.mem_cons_self).1.cell 3
                                      have x5 := (HK.out.ex _ (List.mem_cons_of_mem _ (List.mem_cons_of_mem _ List.mem_cons_self))).1.cell 5
                                      dsimp only at s2 t2 x5
                                      simp only [List.getElem?_toArray, List.getElem?_cons_zero, List.getElem?_cons_succ] at s2 t2 x5
                                      have f0 := HK.out.rr.cell 0; have f1 := HK.out.rr.cell 1; have f2 := HK.out.rr.cell 2; have f3 := HK.out.rr.cell 3; have f4 := HK.out.rr.cell 4
                                      simp only [List.getElem?_toArray, List.getElem?_cons_zero, List.getElem?_cons_succ] at f0 f1 f2 f3 f4
                                      go_wp2_with fail
                                      refine C9.out.mono ?_
                                      rintro e W8 ⟨A8, c8, rfl, hP, hb⟩
                                      rw [HQ.out] at hP
                                      have HK8 := Lib.hid (HK.out.next hb)
                                      have HP8 := Lib.hid hP
                                      clear hP hb HK C9 s2 t2 x5 f0 f1 f2 f3 f4
                                      have f0 := HK8.out.rr.cell 0; have f1 := HK8.out.rr.cell 1; have f2 := HK8.out.rr.cell 2; have f3 := HK8.out.rr.cell 3; have f4 := HK8.out.rr.cell 4
                                      simp only [List.getElem?_toArray, List.getElem?_cons_zero, List.getElem?_cons_succ] at f0 f1 f2 f3 f4
                                      have g0 := HK8.out.rr.frozen 0; have g1 := HK8.out.rr.frozen 1; have g2 := HK8.out.rr.frozen 2; have g3 := HK8.out.rr.frozen 3; have g4 := HK8.out.rr.frozen 4
                                      rw [HQ.out]
                                      go_wp2_with fail
                                      go_meet
                                      case rel => exact ⟨rfl, ⟨A8, c8, HK8.out.store HP8.out⟩⟩
                                  · rw [decide_eq_false hgo]
                                    have HQ : Hid (rB = rA) := by
                                      show _ = _
                                      rw [← HRB9.out]
                                      unfold insB
                                      rw [if_neg hgo]
                                    clear HRB9 HRIB HRIA hgo
                                    obtain rfl := HQ.out
                                    go_wp2_with fail
                                    go_meet
                                    case rel => exact ⟨rfl, ⟨_, _, HK.out⟩⟩
                                case rest =>
                                  obtain ⟨rfl, hkc⟩ := hcut
                                  clear HRB9 HRIA CB HK
                                  obtain ⟨A, c, hk9⟩ := hkc.out
                                  have HK := Lib.hid hk9
                                  clear hk9 hkc
                                  go_upto_region 29 with fail
                                  go_cut [187] from 58 to 200 (fun s187 wx => s187 = .bool (decide (uD u.op = true ∧ rB.err = 0)) ∧ wx = wc)
                                  case first =>
                                    as_aux_lemma =>
                                      have s0 := (HK.out.ex _ (List.mem_cons_of_mem _ List.mem_cons_self)).1.cell 0
                                      have y1 := HK.out.rr.cell 1
                                      dsimp only at s0
                                      simp only [List.getElem?_toArray, List.getElem?_cons_zero, List.getElem?_cons_succ] at s0 y1
                                      cases bD
                                      · have HD := Lib.hid (decide_eq_false (fun h : uD u.op = true ∧ rB.err = 0 => absurd (h.1.symm.trans HbD.out) (by decide)))
                                        go_wp2_with fail
                                        refine (CD.out _).mono ?_
                                        rintro e W9 ⟨rfl, hw⟩
                                        subst hw
                                        go_wp2_with fail
                                        go_meet
                                        case rel => exact ⟨by rw [HD.out], rfl⟩
                                      · by_cases h2 : rB.err = 0
                                        · have h2b : (rB.err == 0) = true := by simp [h2]
                                          have HD := Lib.hid (decide_eq_true (And.intro HbD.out h2))
                                          clear h2
                                          go_wp2_with fail
                                          refine (CD.out _).mono ?_
                                          rintro e W9 ⟨rfl, hw⟩
                                          subst hw
                                          go_wp2_with fail
                                          go_meet
                                          case rel => exact ⟨by rw [HD.out], rfl⟩
                                        · have h2b : (rB.err == 0) = false := by simp [h2]
                                          have HD := Lib.hid (decide_eq_false (fun h : uD u.op = true ∧ rB.err = 0 => h2 h.2))
                                          clear h2
                                          go_wp2_with fail
                                          refine (CD.out _).mono ?_
                                          rintro e W9 ⟨rfl, hw⟩
                                          subst hw
                                          go_wp2_with fail
                                          go_meet
                                          case rel => exact ⟨by rw [HD.out], rfl⟩
                                  case rest =>
                                    obtain ⟨rfl, hwc⟩ := hcut
                                    subst hwc
                                    by_cases hgo : uD u.op = true ∧ rB.err = 0
                                    · rw [decide_eq_true hgo]
                                      have HQ : Hid (rB.grow (dfP rB.out u.d (2 * v.d)) most mt_ = rD) := by
                                        show _ = _
                                        rw [← HRD9.out]
                                        unfold insD
                                        rw [if_pos hgo]
                                      have HG := Lib.hid (HBD.out.2.2 hgo.1)
                                      have hein : (EOp.df u.d v.d mt_).In R L := HOPS9.out _ (by unfold insOps; rw [if_pos hgo.1]; simp)
                                      have hlen := (HRIB.out.inn.set hein).len (set_srt HRIB.out.srt _)
                                      change (dfP rB.out u.d (2 * v.d)).length ≤ _ at hlen
                                      obtain ⟨r, hr⟩ : ∃ z, z = rB := ⟨_, rfl⟩
                                      rw [← hr] at HRIB HQ hlen HK
                                      obtain ⟨HQ0⟩ : Nonempty True := ⟨trivial⟩
                                      have hfn := HFN.out
                                      have hri := HRID.out
                                      rw [← HQ.out] at hfn hri
                                      have HFN := Lib.hid hfn
                                      have HRID := Lib.hid hri
                                      have HBIG := Lib.hid (HRIB.out.big (by have := HST.out; omega))
                                      have HLEN := Lib.hid HRIB.out.len
                                      have HLAR := Lib.hid HRIB.out.lar
                                      have C1 : Hid (∀ V, KC w bt mt (some ⟨b1, o1, none⟩) n1 c1 (some ⟨b2, o2, none⟩) n2 c2 rb (.slice (some ⟨ob, oo, none⟩) R1.length cr) R1 [(tb, 101, #[.int .i64 v.op, .int .i64 v.d, .int .i64 v.a, .int .i64 v.b, .int .i64 v.imm, .int .i64 v.dst, .int .i64 v.src]), (sb, 98, #[.int .i64 u.op, .int .i64 u.d, .int .i64 u.a, .int .i64 u.b, .int .i64 u.imm]), (xb, 94, #[.int .i64 (i : Int), .int .i64 (ct : Int), .int .i64 (k : Int), .int .i64 (mt_ : Int), .int .i64 (ct : Int), .int .i64 (mt_ : Int)])] (.slice A r.out.length c) r V → Calls Tryz.prog 53 #[.slice A r.out.length c, .int .i64 u.d, .int .i64 (2 * v.d)] V fun e w' => ∃ A9 c9, e = .returned (.slice A9 (dfP r.out u.d (2 * v.d)).length c9) ∧ PL w (.slice A9 (dfP r.out u.d (2 * v.d)).length c9) (dfP r.out u.d (2 * v.d)) w' ∧ Below V.heap.size V w') := fun V h =>
                                        (rtdefine_any V.heap.size A r.out c u.d (2 * v.d) V h.out.sees (Nat.le_refl _) HLEN.out).mono fun e w' ⟨v9, he, hP⟩ => by
                                          obtain ⟨A9, c9, rfl, _, _⟩ := hP.slice
                                          exact ⟨A9, c9, he, hP.base h.blw, hP.blw⟩
                                      have C2 : Hid (∀ V A9 c9, PL w (.slice A9 (dfP r.out u.d (2 * v.d)).length c9) (dfP r.out u.d (2 * v.d)) V → Calls Tryz.prog 46 #[.agg #[.slice A (r).out.length c, .int .i64 (r).err, .int .i64 ((r).at_ : Int), .int .i64 ((r).steps : Int), .int .i64 ((r).largest : Int)], .slice A9 (dfP r.out u.d (2 * v.d)).length c9, .int .i64 most, .int .i64 (mt_ : Int)] V fun x w' => ∃ A' c', x = .returned (.agg #[.slice A' (r.grow (dfP r.out u.d (2 * v.d)) most mt_).out.length c', .int .i64 (r.grow (dfP r.out u.d (2 * v.d)) most mt_).err, .int .i64 ((r.grow (dfP r.out u.d (2 * v.d)) most mt_).at_ : Int), .int .i64 ((r.grow (dfP r.out u.d (2 * v.d)) most mt_).steps : Int), .int .i64 ((r.grow (dfP r.out u.d (2 * v.d)) most mt_).largest : Int)]) ∧ PL w (.slice A' (r.grow (dfP r.out u.d (2 * v.d)) most mt_).out.length c') (r.grow (dfP r.out u.d (2 * v.d)) most mt_).out w' ∧ Below V.heap.size V w') := fun V A9 c9 hP =>
                                        rgrow_rs hP A c r most mt_ HBIG.out HLEN.out (Nat.le_trans hlen hRL) HLAR.out
                                      have hg1 := HG.out.1
                                      have hg2 : v.d ≤ 1000000 := by have := HG.out.2; omega
                                      clear hgo hein hlen hr hfn hri HQ HG CD HRD9 HRIB HBD HQ0
                                      as_aux_lemma =>
                                        have HSC : Hid (∀ V v' r', KC w bt mt (some ⟨b1, o1, none⟩) n1 c1 (some ⟨b2, o2, none⟩) n2 c2 rb (.slice (some ⟨ob, oo, none⟩) R1.length cr) R1 [(tb, 101, #[.int .i64 v.op, .int .i64 v.d, .int .i64 v.a, .int .i64 v.b, .int .i64 v.imm, .int .i64 v.dst, .int .i64 v.src]), (sb, 98, #[.int .i64 u.op, .int .i64 u.d, .int .i64 u.a, .int .i64 u.b, .int .i64 u.imm]), (xb, 94, #[.int .i64 (i : Int), .int .i64 (ct : Int), .int .i64 (k : Int), .int .i64 (mt_ : Int), .int .i64 (ct : Int), .int .i64 (mt_ : Int)])] v' r' V → V.cell? ⟨sb, 1, none⟩ = some (.int .i64 u.d) ∧ V.cell? ⟨tb, 1, none⟩ = some (.int .i64 v.d) ∧ V.cell? ⟨xb, 5, none⟩ = some (.int .i64 (mt_ : Int))) := fun V v' r' k => ⟨(k.ex _ (List.mem_cons_of_mem _ List.mem_cons_self)).1.cell 1, (k.ex _ List.mem_cons_self).1.cell 1, (k.ex _ (List.mem_cons_of_mem _ (List.mem_cons_of_mem _ List.mem_cons_self))).1.cell 5⟩
                                        go_wp2_with fail
                                        refine wp_region_held_drew (S := fun w' => w'.cell? ⟨sb, 1, none⟩ = some (.int .i64 u.d) ∧ w'.cell? ⟨tb, 1, none⟩ = some (.int .i64 v.d) ∧ w'.cell? ⟨xb, 5, none⟩ = some (.int .i64 (mt_ : Int))) (by kernel_rfl) (HSC.out _ _ _ (HK.out.next (Below.refl _ _).drew)) (fun hHeld => ?_)
                                        have HK0 := Lib.hid (HK.out.next (Below.refl _ _).drew)
                                        clear HK
                                        generalize wc.drew = V0 at *
                                        refine take_at 1 189 (.pointer (some ⟨rb, 0, none⟩)) rfl rfl (by kernel_rfl) (by kernel_rfl) (by kernel_rfl) (fun _ _ _ h => h) (Or.inl ⟨by rfl, ?_⟩) hHeld ?_
                                        · intro w9 hSw
                                          (try dsimp only at hSw)
                                          go_simp
                                          all_goals (first | (intro h9; omega) | omega | (rw [IntKind.wrap_i64]; omega))
                                        (try simp only [Act.put, List.setIfInBounds_toArray, List.set_cons_zero, List.set_cons_succ])
                                        refine take_at 3 191 (.pointer (some ⟨sb, 1, none⟩)) rfl rfl (by kernel_rfl) (by kernel_rfl) (by kernel_rfl) (fun _ _ _ h => h) (Or.inl ⟨by rfl, ?_⟩) hHeld ?_
                                        · intro w9 hSw
                                          (try dsimp only at hSw)
                                          go_simp
                                          all_goals (first | (intro h9; omega) | omega | (rw [IntKind.wrap_i64]; omega))
                                        (try simp only [Act.put, List.setIfInBounds_toArray, List.set_cons_zero, List.set_cons_succ])
                                        refine take_at 4 192 (.int .i64 u.d) rfl rfl (by kernel_rfl) (by kernel_rfl) (by kernel_rfl) (fun _ _ _ h => h) (Or.inl ⟨by rfl, ?_⟩) hHeld ?_
                                        · intro w9 hSw
                                          (try dsimp only at hSw)
                                          go_simp
                                          all_goals (first | (intro h9; omega) | omega | (rw [IntKind.wrap_i64]; omega))
                                        (try simp only [Act.put, List.setIfInBounds_toArray, List.set_cons_zero, List.set_cons_succ])
                                        refine take_at 5 193 (.pointer (some ⟨tb, 1, none⟩)) rfl rfl (by kernel_rfl) (by kernel_rfl) (by kernel_rfl) (fun _ _ _ h => h) (Or.inl ⟨by rfl, ?_⟩) hHeld ?_
                                        · intro w9 hSw
                                          (try dsimp only at hSw)
                                          go_simp
                                          all_goals (first | (intro h9; omega) | omega | (rw [IntKind.wrap_i64]; omega))
                                        (try simp only [Act.put, List.setIfInBounds_toArray, List.set_cons_zero, List.set_cons_succ])
                                        refine take_at 6 194 (.int .i64 v.d) rfl rfl (by kernel_rfl) (by kernel_rfl) (by kernel_rfl) (fun _ _ _ h => h) (Or.inl ⟨by rfl, ?_⟩) hHeld ?_
                                        · intro w9 hSw
                                          (try dsimp only at hSw)
                                          go_simp
                                          all_goals (first | (intro h9; omega) | omega | (rw [IntKind.wrap_i64]; omega))
                                        (try simp only [Act.put, List.setIfInBounds_toArray, List.set_cons_zero, List.set_cons_succ])
                                        refine take_at 7 195 (.int .i64 (2 * v.d)) rfl rfl (by kernel_rfl) (by kernel_rfl) (by kernel_rfl) (fun _ _ _ h => h) (Or.inl ⟨by rfl, ?_⟩) hHeld ?_
                                        · intro w9 hSw
                                          (try dsimp only at hSw)
                                          go_simp
                                          all_goals (first | (intro h9; omega) | omega | (rw [IntKind.wrap_i64]; omega))
                                        (try simp only [Act.put, List.setIfInBounds_toArray, List.set_cons_zero, List.set_cons_succ])
                                        refine take_at 9 197 (.int .i64 most) rfl rfl (by kernel_rfl) (by kernel_rfl) (by kernel_rfl) (fun _ _ _ h => h) (Or.inl ⟨by rfl, ?_⟩) hHeld ?_
                                        · intro w9 hSw
                                          (try dsimp only at hSw)
                                          go_simp
                                          all_goals (first | (intro h9; omega) | omega | (rw [IntKind.wrap_i64]; omega))
                                        (try simp only [Act.put, List.setIfInBounds_toArray, List.set_cons_zero, List.set_cons_succ])
                                        refine take_at 10 198 (.pointer (some ⟨xb, 5, none⟩)) rfl rfl (by kernel_rfl) (by kernel_rfl) (by kernel_rfl) (fun _ _ _ h => h) (Or.inl ⟨by rfl, ?_⟩) hHeld ?_
                                        · intro w9 hSw
                                          (try dsimp only at hSw)
                                          go_simp
                                          all_goals (first | (intro h9; omega) | omega | (rw [IntKind.wrap_i64]; omega))
                                        (try simp only [Act.put, List.setIfInBounds_toArray, List.set_cons_zero, List.set_cons_succ])
                                        refine take_at 11 199 (.int .i64 (mt_ : Int)) rfl rfl (by kernel_rfl) (by kernel_rfl) (by kernel_rfl) (fun _ _ _ h => h) (Or.inl ⟨by rfl, ?_⟩) hHeld ?_
                                        · intro w9 hSw
                                          (try dsimp only at hSw)
                                          go_simp
                                          all_goals (first | (intro h9; omega) | omega | (rw [IntKind.wrap_i64]; omega))
                                        (try simp only [Act.put, List.setIfInBounds_toArray, List.set_cons_zero, List.set_cons_succ])
                                        refine wpAnyH_ready (rs := [0, 2]) (by kernel_rfl) (by simp) ?_
                                        refine AllReadyH.cons rfl (fun K hK => ?_) ?_
                                        · have f0 := HK0.out.rr.cell 0; have f1 := HK0.out.rr.cell 1; have f2 := HK0.out.rr.cell 2; have f3 := HK0.out.rr.cell 3; have f4 := HK0.out.rr.cell 4
                                          simp only [List.getElem?_toArray, List.getElem?_cons_zero, List.getElem?_cons_succ] at f0 f1 f2 f3 f4
                                          go_simp
                                          refine hK.out _ _ (HSC.out _ _ _ HK0.out) (fun hHeld => ?_)
                                          clear hK K f0 f1 f2 f3 f4
                                          refine wpAnyH_ready (rs := [2]) (by kernel_rfl) (by simp) ?_
                                          refine AllReadyH.cons rfl (fun K hK => ?_) ?_
                                          · have f0 := HK0.out.rr.cell 0; have f1 := HK0.out.rr.cell 1; have f2 := HK0.out.rr.cell 2; have f3 := HK0.out.rr.cell 3; have f4 := HK0.out.rr.cell 4
                                            simp only [List.getElem?_toArray, List.getElem?_cons_zero, List.getElem?_cons_succ] at f0 f1 f2 f3 f4
                                            go_simp
                                            refine hK.out _ _ (HSC.out _ _ _ HK0.out) (fun hHeld => ?_)
                                            clear hK K f0 f1 f2 f3 f4
                                            refine wpAnyH_ready (rs := [8]) (by kernel_rfl) (by simp) ?_
                                            refine AllReadyH.cons rfl (fun K hK => ?_) ?_
                                            · go_simp
                                              refine (C1.out _ HK0.out).mono ?_
                                              rintro e V1 ⟨A9, c9, rfl, hP, hb⟩
                                              (try go_wp2_with fail)
                                              have HK1 := Lib.hid (HK0.out.next hb)
                                              have HP9 := Lib.hid hP
                                              clear hP hb HK0
                                              refine hK.out _ _ (HSC.out _ _ _ HK1.out) (fun hHeld => ?_)
                                              clear hK K
                                              refine wpAnyH_ready (rs := [12]) (by kernel_rfl) (by simp) ?_
                                              refine AllReadyH.cons rfl (fun K hK => ?_) ?_
                                              · go_simp
                                                refine (C2.out _ _ _ HP9.out).mono ?_
                                                rintro e V2 ⟨A8, c8, rfl, hP, hb⟩
                                                (try go_wp2_with fail)
                                                have HK2 := Lib.hid (HK1.out.next hb)
                                                clear HP9
                                                have HP9 := Lib.hid hP
                                                clear hP hb HK1
                                                refine hK.out _ _ (HSC.out _ _ _ HK2.out) (fun hHeld => ?_)
                                                clear hK K
                                                refine wpAnyH_ready (rs := [13]) (by kernel_rfl) (by simp) ?_
                                                refine AllReadyH.cons rfl (fun K hK => ?_) ?_
                                                · have f0 := HK2.out.rr.cell 0; have f1 := HK2.out.rr.cell 1; have f2 := HK2.out.rr.cell 2; have f3 := HK2.out.rr.cell 3; have f4 := HK2.out.rr.cell 4
                                                  simp only [List.getElem?_toArray, List.getElem?_cons_zero, List.getElem?_cons_succ] at f0 f1 f2 f3 f4
                                                  have g0 := HK2.out.rr.frozen 0; have g1 := HK2.out.rr.frozen 1; have g2 := HK2.out.rr.frozen 2; have g3 := HK2.out.rr.frozen 3; have g4 := HK2.out.rr.frozen 4
                                                  have HK3 := Lib.hid (HK2.out.store HP9.out)
                                                  go_simp
                                                  refine hK.out _ _ (HSC.out _ _ _ HK3.out) (fun hHeld => ?_)
                                                  clear hK K f0 f1 f2 f3 f4 g0 g1 g2 g3 g4 HP9 HK2
                                                  refine wpAnyH_done (by kernel_rfl) ?_ _
                                                  clear hHeld
                                                  have HK9 := Lib.hid HK3.out
                                                  clear HK3
                                                  go_wp2_with fail
                                                  go_wp2
                                                  go_roundg (R1.length - (j + 1))
                                                  case measure => omega
                                                  case rel => exact ⟨j + 1, ct + 1, mt_ + 1, s + (ct - i) + (mt_ - k) + 3, A8, c8, r.grow (dfP r.out u.d (2 * v.d)) most mt_, by omega, by go_num, by omega, by omega, HSB.out, HCN.out, HFN.out, HRID.out, HK9.out.sub (fun z hz => by simp at hz)⟩
                                                exact AllReadyH.nil
                                              exact AllReadyH.nil
                                            exact AllReadyH.nil
                                          exact AllReadyH.nil
                                        refine AllReadyH.cons rfl (fun K hK => ?_) ?_
                                        · have f0 := HK0.out.rr.cell 0; have f1 := HK0.out.rr.cell 1; have f2 := HK0.out.rr.cell 2; have f3 := HK0.out.rr.cell 3; have f4 := HK0.out.rr.cell 4
                                          simp only [List.getElem?_toArray, List.getElem?_cons_zero, List.getElem?_cons_succ] at f0 f1 f2 f3 f4
                                          go_simp
                                          refine hK.out _ _ (HSC.out _ _ _ HK0.out) (fun hHeld => ?_)
                                          clear hK K f0 f1 f2 f3 f4
                                          refine wpAnyH_ready (rs := [0, 8]) (by kernel_rfl) (by simp) ?_
                                          refine AllReadyH.cons rfl (fun K hK => ?_) ?_
                                          · have f0 := HK0.out.rr.cell 0; have f1 := HK0.out.rr.cell 1; have f2 := HK0.out.rr.cell 2; have f3 := HK0.out.rr.cell 3; have f4 := HK0.out.rr.cell 4
                                            simp only [List.getElem?_toArray, List.getElem?_cons_zero, List.getElem?_cons_succ] at f0 f1 f2 f3 f4
                                            go_simp
                                            refine hK.out _ _ (HSC.out _ _ _ HK0.out) (fun hHeld => ?_)
                                            clear hK K f0 f1 f2 f3 f4
                                            refine wpAnyH_ready (rs := [8]) (by kernel_rfl) (by simp) ?_
                                            refine AllReadyH.cons rfl (fun K hK => ?_) ?_
                                            · go_simp
                                              refine (C1.out _ HK0.out).mono ?_
                                              rintro e V1 ⟨A9, c9, rfl, hP, hb⟩
                                              (try go_wp2_with fail)
                                              have HK1 := Lib.hid (HK0.out.next hb)
                                              have HP9 := Lib.hid hP
                                              clear hP hb HK0
                                              refine hK.out _ _ (HSC.out _ _ _ HK1.out) (fun hHeld => ?_)
                                              clear hK K
                                              refine wpAnyH_ready (rs := [12]) (by kernel_rfl) (by simp) ?_
                                              refine AllReadyH.cons rfl (fun K hK => ?_) ?_
                                              · go_simp
                                                refine (C2.out _ _ _ HP9.out).mono ?_
                                                rintro e V2 ⟨A8, c8, rfl, hP, hb⟩
                                                (try go_wp2_with fail)
                                                have HK2 := Lib.hid (HK1.out.next hb)
                                                clear HP9
                                                have HP9 := Lib.hid hP
                                                clear hP hb HK1
                                                refine hK.out _ _ (HSC.out _ _ _ HK2.out) (fun hHeld => ?_)
                                                clear hK K
                                                refine wpAnyH_ready (rs := [13]) (by kernel_rfl) (by simp) ?_
                                                refine AllReadyH.cons rfl (fun K hK => ?_) ?_
                                                · have f0 := HK2.out.rr.cell 0; have f1 := HK2.out.rr.cell 1; have f2 := HK2.out.rr.cell 2; have f3 := HK2.out.rr.cell 3; have f4 := HK2.out.rr.cell 4
                                                  simp only [List.getElem?_toArray, List.getElem?_cons_zero, List.getElem?_cons_succ] at f0 f1 f2 f3 f4
                                                  have g0 := HK2.out.rr.frozen 0; have g1 := HK2.out.rr.frozen 1; have g2 := HK2.out.rr.frozen 2; have g3 := HK2.out.rr.frozen 3; have g4 := HK2.out.rr.frozen 4
                                                  have HK3 := Lib.hid (HK2.out.store HP9.out)
                                                  go_simp
                                                  refine hK.out _ _ (HSC.out _ _ _ HK3.out) (fun hHeld => ?_)
                                                  clear hK K f0 f1 f2 f3 f4 g0 g1 g2 g3 g4 HP9 HK2
                                                  refine wpAnyH_done (by kernel_rfl) ?_ _
                                                  clear hHeld
                                                  have HK9 := Lib.hid HK3.out
                                                  clear HK3
                                                  go_wp2_with fail
                                                  go_wp2
                                                  go_roundg (R1.length - (j + 1))
                                                  case measure => omega
                                                  case rel => exact ⟨j + 1, ct + 1, mt_ + 1, s + (ct - i) + (mt_ - k) + 3, A8, c8, r.grow (dfP r.out u.d (2 * v.d)) most mt_, by omega, by go_num, by omega, by omega, HSB.out, HCN.out, HFN.out, HRID.out, HK9.out.sub (fun z hz => by simp at hz)⟩
                                                exact AllReadyH.nil
                                              exact AllReadyH.nil
                                            exact AllReadyH.nil
                                          refine AllReadyH.cons rfl (fun K hK => ?_) ?_
                                          · go_simp
                                            refine (C1.out _ HK0.out).mono ?_
                                            rintro e V1 ⟨A9, c9, rfl, hP, hb⟩
                                            (try go_wp2_with fail)
                                            have HK1 := Lib.hid (HK0.out.next hb)
                                            have HP9 := Lib.hid hP
                                            clear hP hb HK0
                                            refine hK.out _ _ (HSC.out _ _ _ HK1.out) (fun hHeld => ?_)
                                            clear hK K
                                            refine wpAnyH_ready (rs := [0]) (by kernel_rfl) (by simp) ?_
                                            refine AllReadyH.cons rfl (fun K hK => ?_) ?_
                                            · have f0 := HK1.out.rr.cell 0; have f1 := HK1.out.rr.cell 1; have f2 := HK1.out.rr.cell 2; have f3 := HK1.out.rr.cell 3; have f4 := HK1.out.rr.cell 4
                                              simp only [List.getElem?_toArray, List.getElem?_cons_zero, List.getElem?_cons_succ] at f0 f1 f2 f3 f4
                                              go_simp
                                              refine hK.out _ _ (HSC.out _ _ _ HK1.out) (fun hHeld => ?_)
                                              clear hK K f0 f1 f2 f3 f4
                                              refine wpAnyH_ready (rs := [12]) (by kernel_rfl) (by simp) ?_
                                              refine AllReadyH.cons rfl (fun K hK => ?_) ?_
                                              · go_simp
                                                refine (C2.out _ _ _ HP9.out).mono ?_
                                                rintro e V2 ⟨A8, c8, rfl, hP, hb⟩
                                                (try go_wp2_with fail)
                                                have HK2 := Lib.hid (HK1.out.next hb)
                                                clear HP9
                                                have HP9 := Lib.hid hP
                                                clear hP hb HK1
                                                refine hK.out _ _ (HSC.out _ _ _ HK2.out) (fun hHeld => ?_)
                                                clear hK K
                                                refine wpAnyH_ready (rs := [13]) (by kernel_rfl) (by simp) ?_
                                                refine AllReadyH.cons rfl (fun K hK => ?_) ?_
                                                · have f0 := HK2.out.rr.cell 0; have f1 := HK2.out.rr.cell 1; have f2 := HK2.out.rr.cell 2; have f3 := HK2.out.rr.cell 3; have f4 := HK2.out.rr.cell 4
                                                  simp only [List.getElem?_toArray, List.getElem?_cons_zero, List.getElem?_cons_succ] at f0 f1 f2 f3 f4
                                                  have g0 := HK2.out.rr.frozen 0; have g1 := HK2.out.rr.frozen 1; have g2 := HK2.out.rr.frozen 2; have g3 := HK2.out.rr.frozen 3; have g4 := HK2.out.rr.frozen 4
                                                  have HK3 := Lib.hid (HK2.out.store HP9.out)
                                                  go_simp
                                                  refine hK.out _ _ (HSC.out _ _ _ HK3.out) (fun hHeld => ?_)
                                                  clear hK K f0 f1 f2 f3 f4 g0 g1 g2 g3 g4 HP9 HK2
                                                  refine wpAnyH_done (by kernel_rfl) ?_ _
                                                  clear hHeld
                                                  have HK9 := Lib.hid HK3.out
                                                  clear HK3
                                                  go_wp2_with fail
                                                  go_wp2
                                                  go_roundg (R1.length - (j + 1))
                                                  case measure => omega
                                                  case rel => exact ⟨j + 1, ct + 1, mt_ + 1, s + (ct - i) + (mt_ - k) + 3, A8, c8, r.grow (dfP r.out u.d (2 * v.d)) most mt_, by omega, by go_num, by omega, by omega, HSB.out, HCN.out, HFN.out, HRID.out, HK9.out.sub (fun z hz => by simp at hz)⟩
                                                exact AllReadyH.nil
                                              exact AllReadyH.nil
                                            exact AllReadyH.nil
                                          exact AllReadyH.nil
                                        exact AllReadyH.nil
                                    · rw [decide_eq_false hgo]
                                      have HQ : Hid (rD = rB) := by
                                        show _ = _
                                        rw [← HRD9.out]
                                        unfold insD
                                        rw [if_neg hgo]
                                      clear HRD9 HRIB hgo CD
                                      obtain rfl := HQ.out
                                      go_wp2
                                      go_roundg (R1.length - (j + 1))
                                      case measure => omega
                                      case rel => exact ⟨j + 1, ct + 1, mt_ + 1, s + (ct - i) + (mt_ - k) + 3, _, _, _, by omega, by go_num, by omega, by omega, HSB.out, HCN.out, HFN.out, HRID.out, HK.out.sub (fun z hz => by simp at hz)⟩
                          · have h2b : (r.err == 0) = false := by simp [h2]
                            have HFE : Hid (foldE most ((R1.drop (j + 1)).flatMap (rowOps code mach)) r = RA) := by
                              show _ = _
                              rw [← HFK.out, foldE_err h2 (insOps u v mt_)]
                            clear h2 HFK
                            go_wp2
                            go_roundg (R1.length - (j + 1))
                            case measure => omega
                            case rel => exact ⟨j + 1, ct + 1, mt_ + 1, s + (ct - i) + (mt_ - k), A, c, r, by omega, by go_num, by omega, by omega, by omega, HCN.out, HFE.out, HRI5.out, HK.out.sub (fun z hz => by simp at hz)⟩
          · have hdr : R1.drop j = [] := List.drop_eq_nil_of_le (by omega)
            have hfj := HFJ.out
            rw [hdr, List.flatMap_nil, foldE_nil] at hfj
            have HFA := Lib.hid hfj
            clear hdr hfj HFJ HCJ
            obtain rfl := HFA.out
            have HRF9 : Hid (RF = fin9 bt mt mach.length r0) := HE.out.trans (runE_fin HRA9.out)
            rw [hml] at HRF9
            obtain ⟨r1, HR19⟩ : ∃ z, Hid (trmE bt mt n2 r0 = z) := ⟨_, rfl⟩
            have HRF8 : Hid (RF = atE n2 r1) := HR19.out ▸ HRF9.out
            have HBIG := Lib.hid (HRI.out.big (by omega))
            have HLEN := Lib.hid HRI.out.len
            have jz : ¬ (j : Int) < (R1.length : Int) := by omega
            clear HE HRA9 HRF9 HRI
            have b1 := HK.out.b.cell 1
            have y1 := HK.out.rr.cell 1
            simp only [List.getElem?_toArray, List.getElem?_cons_zero, List.getElem?_cons_succ] at b1 y1
            go_upto_region 31 with fail
            go_cut [209] from 201 (fun s209 wx => s209 = .bool (decide (¬ bt.kind = 1 ∧ r0.err = 0)) ∧ wx = wr)
            case first =>
              by_cases h1 : bt.kind = 1
              · have h1b : (bt.kind == 1) = true := by simp [h1]
                have h1c : (bt.kind != 1) = false := by simp [h1]
                have HD := Lib.hid (decide_eq_false (fun h : ¬ bt.kind = 1 ∧ r0.err = 0 => h.1 h1))
                clear h1
                go_wp2_with fail
                go_meet
                case rel => exact ⟨by rw [HD.out], rfl⟩
              · have h1b : (bt.kind == 1) = false := by simp [h1]
                have h1c : (bt.kind != 1) = true := by simp [h1]
                by_cases h2 : r0.err = 0
                · have h2b : (r0.err == 0) = true := by simp [h2]
                  have HD := Lib.hid (decide_eq_true (And.intro h1 h2))
                  clear h1 h2
                  go_wp2_with fail
                  go_meet
                  case rel => exact ⟨by rw [HD.out], rfl⟩
                · have h2b : (r0.err == 0) = false := by simp [h2]
                  have HD := Lib.hid (decide_eq_false (fun h : ¬ bt.kind = 1 ∧ r0.err = 0 => h2 h.2))
                  clear h1 h2
                  go_wp2_with fail
                  go_meet
                  case rel => exact ⟨by rw [HD.out], rfl⟩
            case rest =>
              obtain ⟨rfl, hwc⟩ := hcut
              subst hwc
              clear b1 y1
              go_upto_if 209 with fail
              go_cut [13] from 201 (fun s13 wx => s13 = .int .i64 (n2 : Int) ∧ Hid (∃ A c, KC w bt mt A1 n1 c1 A2 n2 c2 rb (.slice (some ⟨ob, oo, none⟩) R1.length cr) R1 [] (.slice A r1.out.length c) r1 wx))
              case first =>
                by_cases hgo : ¬ bt.kind = 1 ∧ r0.err = 0
                · rw [decide_eq_true hgo]
                  have HQ : Hid (r0.use bt.a mt.a n2 = r1) := by
                    show _ = _
                    rw [← HR19.out]
                    unfold trmE
                    rw [if_pos hgo]
                  have hga : 0 ≤ mt.a ∧ mt.a < nR := by
                    have hk9 := HTP.out
                    simp only [tmP, Bool.and_eq_true, beq_iff_eq] at hk9
                    rcases HTM.out with ⟨h, _⟩ | ⟨_, h1, h2, _⟩ | ⟨_, h1, h2⟩
                    · exact absurd (hk9.1.1.trans h) hgo.1
                    · exact ⟨h1, h2⟩
                    · exact ⟨h1, h2⟩
                  have C9 := Lib.hid (ruse_rs HK.out.out bt.a mt.a n2 HBIG.out HLEN.out (by omega))
                  clear hga hgo
                  have b2 := HK.out.b.cell 2
                  have m2 := HK.out.m.cell 2
                  simp only [List.getElem?_toArray, List.getElem?_cons_zero, List.getElem?_cons_succ] at b2 m2
                  have f0 := HK.out.rr.cell 0; have f1 := HK.out.rr.cell 1; have f2 := HK.out.rr.cell 2; have f3 := HK.out.rr.cell 3; have f4 := HK.out.rr.cell 4
                  simp only [List.getElem?_toArray, List.getElem?_cons_zero, List.getElem?_cons_succ] at f0 f1 f2 f3 f4
                  go_wp2_with fail
                  refine C9.out.mono ?_
                  rintro e W8 ⟨A8, c8, rfl, hP, hb⟩
                  rw [HQ.out] at hP
                  have HK8 := Lib.hid (HK.out.next hb)
                  have HP8 := Lib.hid hP
                  clear hP hb HK C9 b2 m2 f0 f1 f2 f3 f4
                  have f0 := HK8.out.rr.cell 0; have f1 := HK8.out.rr.cell 1; have f2 := HK8.out.rr.cell 2; have f3 := HK8.out.rr.cell 3; have f4 := HK8.out.rr.cell 4
                  simp only [List.getElem?_toArray, List.getElem?_cons_zero, List.getElem?_cons_succ] at f0 f1 f2 f3 f4
                  have g0 := HK8.out.rr.frozen 0; have g1 := HK8.out.rr.frozen 1; have g2 := HK8.out.rr.frozen 2; have g3 := HK8.out.rr.frozen 3; have g4 := HK8.out.rr.frozen 4
                  rw [HQ.out]
                  go_wp2_with fail
                  go_meet
                  case rel => exact ⟨rfl, ⟨A8, c8, HK8.out.store HP8.out⟩⟩
                · rw [decide_eq_false hgo]
                  have HQ : Hid (r1 = r0) := by
                    show _ = _
                    rw [← HR19.out]
                    unfold trmE
                    rw [if_neg hgo]
                  clear hgo HR19
                  obtain rfl := HQ.out
                  go_wp2_with fail
                  go_meet
                  case rel => exact ⟨rfl, ⟨_, _, HK.out⟩⟩
              case rest =>
                obtain ⟨rfl, hkc⟩ := hcut
                clear HK HR19 HBIG HLEN
                obtain ⟨A, c, hk9⟩ := hkc.out
                have HK := Lib.hid hk9
                clear hk9 hkc
                have y1 := HK.out.rr.cell 1
                simp only [List.getElem?_toArray, List.getElem?_cons_zero, List.getElem?_cons_succ] at y1
                by_cases h2 : r1.err = 0
                · have h2b : (r1.err == 0) = true := by simp [h2]
                  have HE : Hid (RF = { r1 with at_ := n2 }) := HRF8.out.trans (if_pos h2)
                  clear h2 HRF8
                  have k2 := HK.out.rr.frozen 2
                  have y2 := HK.out.rr.cell 2
                  simp only [List.getElem?_toArray, List.getElem?_cons_zero, List.getElem?_cons_succ] at y2
                  go_upto_region 35 with fail
                  have HK5 := Lib.hid (HK.out.putAt n2)
                  clear k2 y1 y2 h2b HK
                  generalize wc.setCell ⟨rb, 2, none⟩ (.int .i64 (n2 : Int)) = W5 at *
                  have f0 := HK5.out.rr.cell 0; have f1 := HK5.out.rr.cell 1; have f2 := HK5.out.rr.cell 2; have f3 := HK5.out.rr.cell 3; have f4 := HK5.out.rr.cell 4
                  simp only [List.getElem?_toArray, List.getElem?_cons_zero, List.getElem?_cons_succ] at f0 f1 f2 f3 f4
                  have g0 := HK5.out.z.frozen 0; have g1 := HK5.out.z.frozen 1; have g2 := HK5.out.z.frozen 2; have g3 := HK5.out.z.frozen 3; have g4 := HK5.out.z.frozen 4
                  have h0 := HK5.out.z.cell 0; have h1 := HK5.out.z.cell 1; have h2 := HK5.out.z.cell 2; have h3 := HK5.out.z.cell 3; have h4 := HK5.out.z.cell 4
                  simp only [List.getElem?_toArray, List.getElem?_cons_zero, List.getElem?_cons_succ] at h0 h1 h2 h3 h4
                  go_wp2
                  (try simp only [Exit.inBlock, Exit.then])
                  rw [HE.out]
                  refine bodyPost_ret (v := .agg #[.slice A (({ r1 with at_ := n2 } : Rs)).out.length c, .int .i64 (({ r1 with at_ := n2 } : Rs)).err, .int .i64 ((({ r1 with at_ := n2 } : Rs)).at_ : Int), .int .i64 ((({ r1 with at_ := n2 } : Rs)).steps : Int), .int .i64 ((({ r1 with at_ := n2 } : Rs)).largest : Int)]) ?_ rfl ⟨A, c, rfl, ?_⟩
                  · exact results_cell_row rfl _ _ (w.heap.size + 1 + 1) 52 #[.slice A (({ r1 with at_ := n2 } : Rs)).out.length c, .int .i64 (({ r1 with at_ := n2 } : Rs)).err, .int .i64 ((({ r1 with at_ := n2 } : Rs)).at_ : Int), .int .i64 ((({ r1 with at_ := n2 } : Rs)).steps : Int), .int .i64 ((({ r1 with at_ := n2 } : Rs)).largest : Int)] (0, 0) _ rfl (HK5.out.z.put5 _ _ _ _ _) Tryz.underlying52 rfl (by kernel_rfl)
                  · exact (Classical.choice (HK5.out.putZ _ _ _ _ _))
                · have h2b : (r1.err == 0) = false := by simp [h2]
                  have HE : Hid (RF = r1) := HRF8.out.trans (if_neg h2)
                  clear h2 HRF8
                  go_upto_region 35 with fail
                  clear y1 h2b
                  have f0 := HK.out.rr.cell 0; have f1 := HK.out.rr.cell 1; have f2 := HK.out.rr.cell 2; have f3 := HK.out.rr.cell 3; have f4 := HK.out.rr.cell 4
                  simp only [List.getElem?_toArray, List.getElem?_cons_zero, List.getElem?_cons_succ] at f0 f1 f2 f3 f4
                  have g0 := HK.out.z.frozen 0; have g1 := HK.out.z.frozen 1; have g2 := HK.out.z.frozen 2; have g3 := HK.out.z.frozen 3; have g4 := HK.out.z.frozen 4
                  have h0 := HK.out.z.cell 0; have h1 := HK.out.z.cell 1; have h2 := HK.out.z.cell 2; have h3 := HK.out.z.cell 3; have h4 := HK.out.z.cell 4
                  simp only [List.getElem?_toArray, List.getElem?_cons_zero, List.getElem?_cons_succ] at h0 h1 h2 h3 h4
                  go_wp2
                  (try simp only [Exit.inBlock, Exit.then])
                  rw [HE.out]
                  refine bodyPost_ret (v := .agg #[.slice A (r1).out.length c, .int .i64 (r1).err, .int .i64 ((r1).at_ : Int), .int .i64 ((r1).steps : Int), .int .i64 ((r1).largest : Int)]) ?_ rfl ⟨A, c, rfl, ?_⟩
                  · exact results_cell_row rfl _ _ (w.heap.size + 1 + 1) 52 #[.slice A (r1).out.length c, .int .i64 (r1).err, .int .i64 ((r1).at_ : Int), .int .i64 ((r1).steps : Int), .int .i64 ((r1).largest : Int)] (0, 0) _ rfl (HK.out.z.put5 _ _ _ _ _) Tryz.underlying52 rfl (by kernel_rfl)
                  · exact (Classical.choice (HK.out.putZ _ _ _ _ _))
    · have ht := triple (HR.out.symm.trans hr)
      obtain ⟨rfl, rfl, rfl⟩ := ht
      have HE : Hid (RF = ⟨[], 20, R2, 0, l.length⟩) := by
        show _ = _
        rw [← HRF.out]
        unfold checkE
        rw [if_neg (by have := HMN.out; omega), HR.out]
        rfl
      clear HRF HR hr
      have f0 := HK3.out.rr.cell 0; have f1 := HK3.out.rr.cell 1; have f2 := HK3.out.rr.cell 2; have f3 := HK3.out.rr.cell 3; have f4 := HK3.out.rr.cell 4
      simp only [List.getElem?_toArray, List.getElem?_cons_zero, List.getElem?_cons_succ] at f0 f1 f2 f3 f4
      have CX := Lib.hid fun V => rfail_any A3 l.length c3 0 ((0 : Nat) : Int) ((0 : Nat) : Int) (l.length : Int) 20 (R2 : Int) V
      go_wp2_with fail
      refine (CX.out _).mono ?_
      rintro e W9 ⟨rfl, hG⟩
      have HK9 := Lib.hid (HK3.out.next hG.below)
      clear hG CX f0 f1 f2 f3 f4 HK3
      have g0 := HK9.out.z.frozen 0; have g1 := HK9.out.z.frozen 1; have g2 := HK9.out.z.frozen 2; have g3 := HK9.out.z.frozen 3; have g4 := HK9.out.z.frozen 4
      have h0 := HK9.out.z.cell 0; have h1 := HK9.out.z.cell 1; have h2 := HK9.out.z.cell 2; have h3 := HK9.out.z.cell 3; have h4 := HK9.out.z.cell 4
      simp only [List.getElem?_toArray, List.getElem?_cons_zero, List.getElem?_cons_succ] at h0 h1 h2 h3 h4
      go_wp2
      (try simp only [Exit.inBlock, Exit.then])
      rw [HE.out]
      refine bodyPost_ret (v := .agg #[.slice none 0 0, .int .i64 20, .int .i64 (R2 : Int), .int .i64 0, .int .i64 (l.length : Int)]) ?_ rfl ⟨none, 0, rfl, (PL.nil w).next (blw5 (show w.heap.size ≤ w.heap.size + 1 + 1 by omega) HK9.out.blw _ _ _ _ _)⟩
      exact results_cell_row rfl _ _ (w.heap.size + 1 + 1) 52 #[.slice none 0 0, .int .i64 20, .int .i64 (R2 : Int), .int .i64 0, .int .i64 (l.length : Int)] (0, 0) _ rfl (HK9.out.z.put5 _ _ _ _ _) Tryz.underlying52 rfl (by kernel_rfl)

end Go.Proofs.YtapdheabblgbaaaGreat
