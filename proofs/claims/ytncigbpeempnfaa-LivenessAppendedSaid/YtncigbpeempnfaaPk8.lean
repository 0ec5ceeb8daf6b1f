import Derived.Test.YtncigbpeempnfaaPk1
import Derived.Deep.WholeRow
import Derived.Great.BuildSlice
import Derived.Laws.EntriesVeiled
import Derived.Deep.Cut
import Derived.Deep.CutRange
import Derived.Deep.LoopGhost
import Derived.LoopTactic
import Derived.Laws.CopyOwn
import Derived.Laws.OwnMore
import Derived.Deep.OwnRows
import Derived.Test.YtncigbpeempnfaaSrcCopy
import Derived.Deep.RegionHeld3
import Derived.Deep.DeepMust
import Derived.RegionTactic
import Derived.ChangeAlike
import Derived.StillTailTactics

/-
  The functions of the program's table, and the search in the table.
-/
namespace Go.Proofs.Ytncigbpeempnfaa
open Go.RowKit

end Go.Proofs.Ytncigbpeempnfaa

/-
  The search in the table of functions.
-/
namespace Go.Proofs.Ytncigbpeempnfaa
open Go.RowKit

def tbl0 : Array Value := #[.nilFunc, .bool false, .nilFunc, .bool false, .nilFunc, .bool false, .nilFunc, .bool false, .nilFunc, .bool false, .nilFunc, .bool false, .nilFunc, .bool false, .nilFunc, .bool false, .nilFunc, .bool false, .nilFunc, .bool false, .nilFunc, .bool false, .nilFunc, .bool false, .nilFunc, .bool false, .nilFunc, .bool false, .nilFunc, .bool false, .nilFunc, .bool false, .nilFunc, .bool false]

end Go.Proofs.Ytncigbpeempnfaa

/-
  The program's Eval, Pure and Traps.
-/
namespace Go.Proofs.Ytncigbpeempnfaa
open Go.RowKit

theorem got {x y : Option Value} {n m : Nat} {d c : Bool} (h1 : x = some (.func (.func n) #[] #[])) (h2 : y = some (.bool d)) (e1 : x = some (.func (.func m) #[] #[])) (e2 : y = some (.bool c)) : n = m ∧ d = c := by
  rw [h1] at e1
  rw [h2] at e2
  injection e1 with e1
  injection e1 with e1
  injection e1 with e1
  injection e2 with e2
  injection e2 with e2
  exact ⟨e1, e2⟩

end Go.Proofs.Ytncigbpeempnfaa

/-
  Runs in memory; the reference's Values, Prefix, Same, Copy; Clone of a slice of integers.
-/
namespace Go.Proofs.Ytncigbpeempnfaa
open Go.RowKit
set_option linter.unusedVariables false

/-- The slices of a run, each in a block of its own from lo on; the slots are empty. -/
structure RunV (w : World) (lo : Nat) (RA : Option Addr) (rc : Nat) (TA : Option Addr) (tc : Nat) (r : Rn) : Prop where
  regs : w.ownsRow lo 2 1 (.slice RA r.regs.length rc) r.regs.length (ints r.regs)
  trace : w.ownsRow lo 2 1 (.slice TA r.trace.length tc) r.trace.length (ints r.trace)
  ne : ∀ k, (Value.slice RA r.regs.length rc).ownBlock = some k → (Value.slice TA r.trace.length tc).ownBlock = some k → False

section
variable {w w' : World} {lo : Nat} {RA TA : Option Addr} {rc tc : Nat} {r : Rn}

theorem RunV.mods {S : Nat → Prop} (h : RunV w lo RA rc TA tc r) (hm : Mods S w w') (hS : ∀ k, S k → k < lo ∨ w.heap.size ≤ k) : RunV w' lo RA rc TA tc r :=
  ⟨hm.ownS h.regs fun k hk hs => by have := hS k hs; have := ownS_lt h.regs k hk; omega, hm.ownS h.trace fun k hk hs => by have := hS k hs; have := ownS_lt h.trace k hk; omega, h.ne⟩

theorem RunV.below (h : RunV w lo RA rc TA tc r) (hb : Below w.heap.size w w') : RunV w' lo RA rc TA tc r := h.mods (S := No) (Mods.of_below hb) fun _ h => h.elim

theorem RunV.base (h : RunV w lo RA rc TA tc r) {lo' : Nat} (hl : lo' ≤ lo) : RunV w lo' RA rc TA tc r := ⟨ownS_base h.regs hl, ownS_base h.trace hl, h.ne⟩

theorem RunV.srs (h : RunV w lo RA rc TA tc r) : Sees w w.heap.size RA (ints r.regs) := sees_own h.regs

theorem RunV.str (h : RunV w lo RA rc TA tc r) : Sees w w.heap.size TA (ints r.trace) := sees_own h.trace

theorem own_len {e : TypeId} {s n c : Nat} {A : Option Addr} {xs : List Value} (h : w.ownsRow lo e s (.slice A n c) n xs) : n ≤ c ∧ c ≤ maxLen := by
  obtain ⟨A', c', e, h1, h2⟩ := ownS_slice h
  injection e with _ _ e3
  subst e3
  exact ⟨h1, h2⟩

theorem own_none (w : World) (lo : Nat) (e : TypeId) (s : Nat) : w.ownsRow lo e s (.slice none 0 0) 0 [] := ⟨by simp, .inl ⟨rfl, rfl⟩⟩

theorem RunV.zero (w : World) (lo : Nat) : RunV w lo none 0 none 0 ⟨0, 0, 0, 0, [], [], 0⟩ := ⟨own_none w lo _ _, own_none w lo _ _, fun k hk => by simp [Value.ownBlock] at hk⟩

end

/-- What the functions that return a run leave: the run, in memory of its own. -/
def RunP (w : World) (r : Rn) (e : Ending) (w' : World) : Prop :=
  ∃ RA rc SA sc TA tc, e = .returned (.agg #[.int .i64 r.st, .int .i64 (r.blk : Int), .int .i64 (r.pos : Int), .int .i64 r.val, .slice RA r.regs.length rc, .slice SA 0 sc, .slice TA r.trace.length tc, .int .i64 (r.steps : Int)]) ∧ RunV w' w.heap.size RA rc TA tc r ∧ Below w.heap.size w w'

def RunQ (w : World) (r : Rn) (er : Int) (e : Ending) (w' : World) : Prop :=
  ∃ RA rc SA sc TA tc, e = .returned (.tuple #[.agg #[.int .i64 r.st, .int .i64 (r.blk : Int), .int .i64 (r.pos : Int), .int .i64 r.val, .slice RA r.regs.length rc, .slice SA 0 sc, .slice TA r.trace.length tc, .int .i64 (r.steps : Int)], .int .i64 er]) ∧ RunV w' w.heap.size RA rc TA tc r ∧ Below w.heap.size w w'

set_option maxRecDepth 100000 in
set_option maxHeartbeats 1000000 in
theorem vals_any (B : Nat) (A A' : Option Addr) (l r : List Int) (c c' : Nat) (w : World) (hs : Sees w B A (ints l)) (hs' : Sees w B A' (ints r)) (hm : l.length ≤ maxLen) (hm' : r.length ≤ maxLen) :
    Calls Try.prog 27 #[.slice A l.length c, .slice A' r.length c'] w fun e w' => e = .returned (.bool (sameI l r)) ∧ ∃ n, w.drewN n = w' := by
  unfold maxLen at hm hm'
  by_cases hlen : l.length = r.length
  · have e1 : ((l.length : Int) != (r.length : Int)) = false := by simp [hlen]
    have HL := Lib.hid hlen
    clear hlen
    go_enter Try.func27, Try.ntmps27
    go_wp2
    go_loopw [5] (fun i wr => ∃ k n : Nat, k ≤ l.length ∧ i = .int .i64 k ∧ Hid (l.take k = r.take k) ∧ wr = w.drewN n) (fun i _ => l.length - (intOf i).toNat)
    case atStart => exact ⟨0, 0, Nat.zero_le _, rfl, by simp [Hid], rfl⟩
    case round =>
      obtain ⟨k, n, hk, rfl, HT, rfl⟩ := hrel
      by_cases hlt : k < l.length
      · have hltr : k < r.length := by have := HL.out; omega
        obtain ⟨b, o, rfl, _, hcell⟩ := ints_at hs hlt
        obtain ⟨b', o', rfl, _, hcell'⟩ := ints_at hs' hltr
        have HS := fun he => sameI_step HT.out hlt hltr he
        have HN : l[k] ≠ r[k] → l ≠ r := fun h e => by subst e; exact h rfl
        clear hs hs' HT
        generalize l[k] = x at hcell HS HN
        generalize r[k] = y at hcell' HS HN
        by_cases hxy : x = y
        · have HS' := Lib.hid (HS hxy)
          subst hxy
          have e2 : (x != x) = false := by simp
          clear HS HN
          go_wp2
          go_quiet (fail)
          go_wp2
          go_roundw
          case rel => exact ⟨k + 1, _, by omega, by go_num, HS'.out, rfl⟩
          case measure => simp [intOf]; omega
        · have HE := Lib.hid (sameI_no (HN hxy))
          have e2 : (x != y) = true := by simp [hxy]
          clear HS HN hxy
          go_wp2
          go_quiet (fail)
          go_wp2
          go_ret
          exact ⟨by rw [HE.out]; rfl, _, (World.drewN_drewN _ _ _).symm⟩
      · have HE := Lib.hid (sameI_yes (sameI_end HL.out (by omega) HT.out))
        clear HT hs hs'
        go_wp2
        go_ret
        exact ⟨by rw [HE.out]; rfl, _, rfl⟩
  · have HE := Lib.hid (sameI_no (l := l) (r := r) (fun e => hlen (by rw [e])))
    have e1 : ((l.length : Int) != (r.length : Int)) = true := by simp; omega
    clear hlen
    go_enter Try.func27, Try.ntmps27
    go_wp2
    go_ret
    exact ⟨by rw [HE.out]; rfl, 0, rfl⟩

theorem vals_at {W : World} (B : Nat) {A A' : Option Addr} (l : List Int) (n c c' : Nat) (hl : l.length = n) (hs : Sees W B A (ints l)) (hs' : Sees W B A' (ints l)) (hm : n ≤ maxLen) :
    Calls Try.prog 27 #[.slice A n c, .slice A' n c'] W fun e w' => e = .returned (.bool true) ∧ ∃ n, W.drewN n = w' := by
  subst hl
  have := vals_any B A A' l l c c' W hs hs' hm hm
  rwa [sameI_self] at this

end Go.Proofs.Ytncigbpeempnfaa

/-
  The reference's Same and Copy; Clone of a slice of integers.
-/
namespace Go.Proofs.Ytncigbpeempnfaa
open Go.RowKit
set_option linter.unusedVariables false

/-- A copy of integers, in memory of its own. -/
def OwnP (w : World) (l : List Int) (e : Ending) (w' : World) : Prop :=
  ∃ A c, e = .returned (.slice A l.length c) ∧ w'.ownsRow w.heap.size 2 1 (.slice A l.length c) l.length (ints l) ∧ Below w.heap.size w w'

end Go.Proofs.Ytncigbpeempnfaa

/-
  The reference's Copy of a run.
-/
namespace Go.Proofs.Ytncigbpeempnfaa
open Go.RowKit
set_option linter.unusedVariables false

section
variable {w W W' : World} {p B : Nat} {T : TypeId} {z0 z1 z2 z3 z4 z5 z6 z7 : Value}

theorem Row.put8 (h : Row W p T #[z0, z1, z2, z3, z4, z5, z6, z7]) (a0 a1 a2 a3 a4 a5 a6 a7 : Value) :
    Row ((((((((W.setCell ⟨p, 0, none⟩ a0).setCell ⟨p, 1, none⟩ a1).setCell ⟨p, 2, none⟩ a2).setCell ⟨p, 3, none⟩ a3).setCell ⟨p, 4, none⟩ a4).setCell ⟨p, 5, none⟩ a5).setCell ⟨p, 6, none⟩ a6).setCell ⟨p, 7, none⟩ a7) p T #[a0, a1, a2, a3, a4, a5, a6, a7] := by
  have q0 : Row _ p T #[a0, z1, z2, z3, z4, z5, z6, z7] := h.put 0 a0
  have q1 : Row _ p T #[a0, a1, z2, z3, z4, z5, z6, z7] := q0.put 1 a1
  have q2 : Row _ p T #[a0, a1, a2, z3, z4, z5, z6, z7] := q1.put 2 a2
  have q3 : Row _ p T #[a0, a1, a2, a3, z4, z5, z6, z7] := q2.put 3 a3
  have q4 : Row _ p T #[a0, a1, a2, a3, a4, z5, z6, z7] := q3.put 4 a4
  have q5 : Row _ p T #[a0, a1, a2, a3, a4, a5, z6, z7] := q4.put 5 a5
  have q6 : Row _ p T #[a0, a1, a2, a3, a4, a5, a6, z7] := q5.put 6 a6
  exact q6.put 7 a7

theorem mods8 (W : World) (p : Nat) (a0 a1 a2 a3 a4 a5 a6 a7 : Value) :
    Mods (Is p) W ((((((((W.setCell ⟨p, 0, none⟩ a0).setCell ⟨p, 1, none⟩ a1).setCell ⟨p, 2, none⟩ a2).setCell ⟨p, 3, none⟩ a3).setCell ⟨p, 4, none⟩ a4).setCell ⟨p, 5, none⟩ a5).setCell ⟨p, 6, none⟩ a6).setCell ⟨p, 7, none⟩ a7) :=
  ((((((((Mods.refl _ W).put 0 a0).put 1 a1).put 2 a2).put 3 a3).put 4 a4).put 5 a5).put 6 a6).put 7 a7

theorem blw8 (hp : B ≤ p) (h : Below B w W) (a0 a1 a2 a3 a4 a5 a6 a7 : Value) :
    Below B w ((((((((W.setCell ⟨p, 0, none⟩ a0).setCell ⟨p, 1, none⟩ a1).setCell ⟨p, 2, none⟩ a2).setCell ⟨p, 3, none⟩ a3).setCell ⟨p, 4, none⟩ a4).setCell ⟨p, 5, none⟩ a5).setCell ⟨p, 6, none⟩ a6).setCell ⟨p, 7, none⟩ a7) :=
  (((((((h.setCell (p := ⟨p, 0, none⟩) hp a0).setCell (p := ⟨p, 1, none⟩) hp a1).setCell (p := ⟨p, 2, none⟩) hp a2).setCell (p := ⟨p, 3, none⟩) hp a3).setCell (p := ⟨p, 4, none⟩) hp a4).setCell (p := ⟨p, 5, none⟩) hp a5).setCell (p := ⟨p, 6, none⟩) hp a6).setCell (p := ⟨p, 7, none⟩) hp a7

end

/-- What Copy carries: the boxes, the copy with the slices x, y, z so far. -/
structure CpS (w : World) (r : Rn) (RA : Option Addr) (rc : Nat) (SA : Option Addr) (sc : Nat) (TA : Option Addr) (tc : Nat) (x y z : Value) (W : World) : Prop where
  below : Below w.heap.size w W
  box : Row W w.heap.size 46 #[.int .i64 r.st, .int .i64 (r.blk : Int), .int .i64 (r.pos : Int), .int .i64 r.val, .slice RA r.regs.length rc, .slice SA 0 sc, .slice TA r.trace.length tc, .int .i64 (r.steps : Int)]
  res : Row W (w.heap.size + 1) 46 #[.int .i64 0, .int .i64 0, .int .i64 0, .int .i64 0, .slice none 0 0, .slice none 0 0, .slice none 0 0, .int .i64 0]
  out : Row W (w.heap.size + 1 + 1) 46 #[.int .i64 r.st, .int .i64 (r.blk : Int), .int .i64 (r.pos : Int), .int .i64 r.val, x, y, z, .int .i64 (r.steps : Int)]

section
variable {w W W' : World} {r : Rn} {RA SA TA : Option Addr} {rc sc tc : Nat} {x y z : Value}

theorem CpS.next (h : CpS w r RA rc SA sc TA tc x y z W) (hb : Below W.heap.size W W') : CpS w r RA rc SA sc TA tc x y z W' :=
  ⟨h.below.trans (hb.mono h.below.size), h.box.below hb h.box.lt, h.res.below hb h.res.lt, h.out.below hb h.out.lt⟩

theorem CpS.put4 (h : CpS w r RA rc SA sc TA tc x y z W) (u : Value) : CpS w r RA rc SA sc TA tc u y z (W.setCell ⟨w.heap.size + 1 + 1, 4, none⟩ u) :=
  ⟨h.below.setCell (by show _ ≤ w.heap.size + 1 + 1; omega) _, h.box.far (by show _ ≠ w.heap.size + 1 + 1; omega) _, h.res.far (by show _ ≠ w.heap.size + 1 + 1; omega) _, h.out.put 4 u⟩

theorem CpS.put5 (h : CpS w r RA rc SA sc TA tc x y z W) (u : Value) : CpS w r RA rc SA sc TA tc x u z (W.setCell ⟨w.heap.size + 1 + 1, 5, none⟩ u) :=
  ⟨h.below.setCell (by show _ ≤ w.heap.size + 1 + 1; omega) _, h.box.far (by show _ ≠ w.heap.size + 1 + 1; omega) _, h.res.far (by show _ ≠ w.heap.size + 1 + 1; omega) _, h.out.put 5 u⟩

theorem CpS.put6 (h : CpS w r RA rc SA sc TA tc x y z W) (u : Value) : CpS w r RA rc SA sc TA tc x y u (W.setCell ⟨w.heap.size + 1 + 1, 6, none⟩ u) :=
  ⟨h.below.setCell (by show _ ≤ w.heap.size + 1 + 1; omega) _, h.box.far (by show _ ≠ w.heap.size + 1 + 1; omega) _, h.res.far (by show _ ≠ w.heap.size + 1 + 1; omega) _, h.out.put 6 u⟩

theorem CpS.start (w : World) (r : Rn) (RA : Option Addr) (rc : Nat) (SA : Option Addr) (sc : Nat) (TA : Option Addr) (tc : Nat) :
    CpS w r RA rc SA sc TA tc (.slice RA r.regs.length rc) (.slice SA 0 sc) (.slice TA r.trace.length tc) (((w.alloc (.cells #[.int .i64 r.st, .int .i64 (r.blk : Int), .int .i64 (r.pos : Int), .int .i64 r.val, .slice RA r.regs.length rc, .slice SA 0 sc, .slice TA r.trace.length tc, .int .i64 (r.steps : Int)] 46)).alloc (.cells #[.int .i64 0, .int .i64 0, .int .i64 0, .int .i64 0, .slice none 0 0, .slice none 0 0, .slice none 0 0, .int .i64 0] 46)).alloc (.cells #[.int .i64 r.st, .int .i64 (r.blk : Int), .int .i64 (r.pos : Int), .int .i64 r.val, .slice RA r.regs.length rc, .slice SA 0 sc, .slice TA r.trace.length tc, .int .i64 (r.steps : Int)] 46)) where
  below := (((Below.refl w.heap.size w).alloc (Nat.le_refl _) _).alloc (by simp) _).alloc (by simp; omega) _
  box := ((Row.new w _ _).alloc _).alloc _
  res := (Row.new' (p := w.heap.size + 1) (by simp) _ _).alloc _
  out := Row.new' (p := w.heap.size + 1 + 1) (by simp) _ _

end

/-- Memory behind an append to an empty new slice. -/
theorem app_new {w W : World} {l : List Int} {n : Nat} {v : Value} (hl : l.length = n) (ho2 : W.ownsRow w.heap.size 2 1 v n (ints l)) (hg : World.grownBy (w.alloc (.cells #[] 2)) W (Value.slice (some ⟨w.heap.size, 0, none⟩) 0 0).ownBlock) :
    ∃ A c, v = .slice A n c ∧ W.ownsRow w.heap.size 2 1 (.slice A n c) n (ints l) ∧ Below w.heap.size w W := by
  have hb1 : Below w.heap.size w W := ((Below.refl _ _).alloc (Nat.le_refl _) _).grown hg (by simp) (fun k hk => by simp [Value.ownBlock] at hk; omega)
  obtain ⟨A1, c1, rfl, _, _⟩ := ownS_slice ho2
  exact ⟨A1, c1, rfl, ho2, hb1⟩

set_option maxRecDepth 100000 in
set_option maxHeartbeats 2000000 in
theorem rcopyr_any (r : Rn) (B : Nat) (RA SA TA : Option Addr) (rc sc tc : Nat) (w : World) (h1 : Sees w B RA (ints r.regs)) (h3 : Sees w B TA (ints r.trace)) (hB : B ≤ w.heap.size) (hr : r.regs.length ≤ 1000000) (ht : r.trace.length ≤ 1000000) :
    Calls Try.prog 26 #[.agg #[.int .i64 r.st, .int .i64 (r.blk : Int), .int .i64 (r.pos : Int), .int .i64 r.val, .slice RA r.regs.length rc, .slice SA 0 sc, .slice TA r.trace.length tc, .int .i64 (r.steps : Int)]] w (RunP w r) := by
  obtain ⟨i0, hi, hz0, hz1, hz2⟩ := info_parts infoI64
  have hC0 := CpS.start w r RA rc SA sc TA tc
  obtain ⟨st, blk, pos, val, regs, trace, steps⟩ := r
  dsimp only at *
  go_enter Try.func26, Try.ntmps26
  go_upto_region 2 with fail
  generalize (((w.alloc (.cells #[.int .i64 st, .int .i64 (blk : Int), .int .i64 (pos : Int), .int .i64 val, .slice RA regs.length rc, .slice SA 0 sc, .slice TA trace.length tc, .int .i64 (steps : Int)] 46)).alloc (.cells #[.int .i64 0, .int .i64 0, .int .i64 0, .int .i64 0, .slice none 0 0, .slice none 0 0, .slice none 0 0, .int .i64 0] 46)).alloc (.cells #[.int .i64 st, .int .i64 (blk : Int), .int .i64 (pos : Int), .int .i64 val, .slice RA regs.length rc, .slice SA 0 sc, .slice TA trace.length tc, .int .i64 (steps : Int)] 46)) = W0 at *
  have b4 := hC0.box.cell 4; have b5 := hC0.box.cell 5; have b6 := hC0.box.cell 6
  simp only [List.getElem?_toArray, List.getElem?_cons_zero, List.getElem?_cons_succ] at b4 b5 b6
  have hz : w.heap.size < W0.heap.size := hC0.box.lt
  have hs1 := ((h1.more hB).below hC0.below).alloc (by omega) (.cells #[] 2)
  have HC := Lib.hid hC0
  go_wp2_with (at_builtin; refine wpList_append_sees _ rfl (.tmp 5) (.tmp 7) 43 rfl W0.heap.size 2 i0 (.int .i64 0) 8 Try.underlying43 hi hz0 hz1 hz2 rfl _ _ _ rfl (own_empty W0 2 1) w.heap.size _ _ _ (ints regs) rfl hs1 (ints_length _) (ints_one _) ?c1 ?c2 ?c3 ?_)
  case c1 => unfold maxLen; omega
  case c2 => omega
  case c3 => simp
  intro v1 W1 ho1 hg1
  obtain ⟨A1, c1, rfl, ho1, hb1⟩ := app_new rfl ho1 hg1
  have hC1 := HC.out.next hb1
  have f4 := hC1.out.cell 4; have g4 := hC1.out.frozen 4
  simp only [List.getElem?_toArray, List.getElem?_cons_zero, List.getElem?_cons_succ] at f4
  have hp := (Mods.refl (Is (w.heap.size + 1 + 1)) W1).put 4 (.slice A1 regs.length c1)
  have hO1 := hp.ownS ho1 fun k hk hs => by have := ownS_lt ho1 k hk; have := hC0.out.lt; unfold Is at hs; omega
  have hC2 := hC1.put4 (.slice A1 regs.length c1)
  have hzs : W0.heap.size ≤ W1.heap.size := hb1.size
  clear hg1 HC hb1 b4 b5 b6 hs1 hp ho1 hC1
  have hz0' : w.heap.size + 1 + 1 < W0.heap.size := hC0.out.lt
  clear hC0
  go_upto_region 3 with fail
  generalize W1.setCell ⟨w.heap.size + 1 + 1, 4, none⟩ (.slice A1 regs.length c1) = W2 at *
  clear f4 g4
  have b5 := hC2.box.cell 5
  simp only [List.getElem?_toArray, List.getElem?_cons_zero, List.getElem?_cons_succ] at b5
  have hz5 : w.heap.size < W2.heap.size := hC2.box.lt
  have HC := Lib.hid hC2
  have HO1 := Lib.hid hO1
  clear hC2 hO1 h1
  go_wp2_with (at_builtin; refine wpList_append_sees _ rfl (.tmp 10) (.tmp 12) 43 rfl W2.heap.size 2 i0 (.int .i64 0) 8 Try.underlying43 hi hz0 hz1 hz2 rfl _ _ _ rfl (own_empty W2 2 1) 0 _ _ _ [] rfl Sees.nil rfl (by simp) ?d1 ?d2 ?d3 ?_)
  case d1 => unfold maxLen; omega
  case d2 => omega
  case d3 => simp
  intro v2 W3 ho2 hg2
  obtain ⟨A2, c2, rfl, ho2, hb2⟩ := app_new (l := []) rfl ho2 hg2
  have hC1 := HC.out.next hb2
  have f4 := hC1.out.cell 5; have g4 := hC1.out.frozen 5
  simp only [List.getElem?_toArray, List.getElem?_cons_zero, List.getElem?_cons_succ] at f4
  have hp := (Mods.refl (Is (w.heap.size + 1 + 1)) W3).put 5 (.slice A2 0 c2)
  have hO1 := hp.ownS ((Mods.of_below (S := No) hb2).ownS HO1.out fun _ _ h => h) fun k hk hs => by have := ownS_lt HO1.out k hk; unfold Is at hs; omega
  have hC2 := hC1.put5 (.slice A2 0 c2)
  clear hg2 HC hb2 b5 hp ho2 hC1 HO1
  go_upto_region 4 with fail
  generalize W3.setCell ⟨w.heap.size + 1 + 1, 5, none⟩ (.slice A2 0 c2) = W4 at *
  clear f4 g4
  have b6 := hC2.box.cell 6
  simp only [List.getElem?_toArray, List.getElem?_cons_zero, List.getElem?_cons_succ] at b6
  have hz6 : w.heap.size < W4.heap.size := hC2.box.lt
  have hs3 := ((h3.more hB).below hC2.below).alloc (by omega) (.cells #[] 2)
  have HC := Lib.hid hC2
  have HO1 := Lib.hid hO1
  clear hC2 hO1 h3 hz5
  go_wp2_with (at_builtin; refine wpList_append_sees _ rfl (.tmp 15) (.tmp 17) 43 rfl W4.heap.size 2 i0 (.int .i64 0) 8 Try.underlying43 hi hz0 hz1 hz2 rfl _ _ _ rfl (own_empty W4 2 1) w.heap.size _ _ _ (ints trace) rfl hs3 (ints_length _) (ints_one _) ?e1 ?e2 ?e3 ?_)
  case e1 => unfold maxLen; omega
  case e2 => omega
  case e3 => simp
  intro v3 W5 ho3 hg3
  obtain ⟨A3, c3, rfl, ho3, hb3⟩ := app_new rfl ho3 hg3
  have hC1 := HC.out.next hb3
  have f4 := hC1.out.cell 6; have g4 := hC1.out.frozen 6
  simp only [List.getElem?_toArray, List.getElem?_cons_zero, List.getElem?_cons_succ] at f4
  have hp := (Mods.refl (Is (w.heap.size + 1 + 1)) W5).put 6 (.slice A3 trace.length c3)
  have hlt1 := fun k hk => (ownS_lt HO1.out k hk).2
  have hO1 := hp.ownS ((Mods.of_below (S := No) hb3).ownS HO1.out fun _ _ h => h) fun k hk hs => by have := ownS_lt HO1.out k hk; unfold Is at hs; omega
  have hge3 := fun k hk => (ownS_lt ho3 k hk).1
  have hO3 := hp.ownS ho3 fun k hk hs => by have := hge3 k hk; have := HC.out.out.lt; unfold Is at hs; omega
  have hC2 := hC1.put6 (.slice A3 trace.length c3)
  have hW4 : W0.heap.size ≤ W4.heap.size ∨ True := .inr trivial
  have hV : RunV (W5.setCell ⟨w.heap.size + 1 + 1, 6, none⟩ (.slice A3 trace.length c3)) (w.heap.size + 1 + 1) A1 c1 A3 c3 ⟨st, blk, pos, val, regs, trace, steps⟩ :=
    ⟨ownS_base hO1 (by omega), ownS_base hO3 (by have := HC.out.out.lt; omega), fun k h1 h2 => by have := hlt1 k h1; have := hge3 k h2; omega⟩
  clear hg3 HC hb3 b6 hp ho3 hC1 HO1 hlt1 hge3 hO1 hO3 hs3
  go_upto_region 5 with fail
  generalize W5.setCell ⟨w.heap.size + 1 + 1, 6, none⟩ (.slice A3 trace.length c3) = W6 at *
  clear f4 g4
  have f0 := hC2.out.cell 0; have f1 := hC2.out.cell 1; have f2 := hC2.out.cell 2; have f3 := hC2.out.cell 3; have f4 := hC2.out.cell 4; have f5 := hC2.out.cell 5; have f6 := hC2.out.cell 6; have f7 := hC2.out.cell 7
  have g0 := hC2.res.cell 0; have g1 := hC2.res.cell 1; have g2 := hC2.res.cell 2; have g3 := hC2.res.cell 3; have g4 := hC2.res.cell 4; have g5 := hC2.res.cell 5; have g6 := hC2.res.cell 6; have g7 := hC2.res.cell 7
  have r0 := hC2.res.frozen 0; have r1 := hC2.res.frozen 1; have r2 := hC2.res.frozen 2; have r3 := hC2.res.frozen 3; have r4 := hC2.res.frozen 4; have r5 := hC2.res.frozen 5; have r6 := hC2.res.frozen 6; have r7 := hC2.res.frozen 7
  simp only [List.getElem?_toArray, List.getElem?_cons_zero, List.getElem?_cons_succ] at f0 f1 f2 f3 f4 f5 f6 f7 g0 g1 g2 g3 g4 g5 g6 g7
  have HC := Lib.hid hC2
  have HV := Lib.hid hV
  clear hC2 hV
  go_wp2
  (try simp only [Exit.inBlock, Exit.then])
  refine bodyPost_ret (v := .agg #[.int .i64 st, .int .i64 (blk : Int), .int .i64 (pos : Int), .int .i64 val, .slice A1 regs.length c1, .slice A2 0 c2, .slice A3 trace.length c3, .int .i64 (steps : Int)]) ?_ rfl ⟨A1, c1, A2, c2, A3, c3, rfl, (HV.out.mods (mods8 W6 (w.heap.size + 1) _ _ _ _ _ _ _ _) (fun k hk => .inl (by unfold Is at hk; omega))).base (by omega), ?_⟩
  · exact results_cell_row rfl _ _ (w.heap.size + 1) 46 #[.int .i64 st, .int .i64 (blk : Int), .int .i64 (pos : Int), .int .i64 val, .slice A1 regs.length c1, .slice A2 0 c2, .slice A3 trace.length c3, .int .i64 (steps : Int)] (0, 0) _ rfl (HC.out.res.put8 _ _ _ _ _ _ _ _) Try.underlying46 rfl (by kernel_rfl)
  · exact blw8 (by omega) HC.out.below _ _ _ _ _ _ _ _

end Go.Proofs.Ytncigbpeempnfaa

/-
  Slices of integers that a call owns: small laws.
-/
namespace Go.Proofs.Ytncigbpeempnfaa
open Go.RowKit
set_option linter.unusedVariables false

theorem own_row_ne {w : World} {lo n p : Nat} {e T : TypeId} {v : Value} {xs : List Value} {cs : Array Value} (h : w.ownsRow lo e 1 v n xs) (hr : Row w p T cs) (hT : e ≠ T) : ∀ k, v.ownBlock = some k → k ≠ p := by
  intro k hk e1
  subst e1
  rcases h.2 with ⟨rfl, _⟩ | ⟨a, cap, cur, rfl, _, h1, _⟩
  · cases hk
  · simp only [Value.ownBlock, Option.some.injEq] at hk
    subst hk
    unfold Row at hr
    rw [h1] at hr
    simp only [Option.some.injEq, Obj.cells.injEq] at hr
    exact hT hr.2.1

theorem regs_at {w : World} {lo : Nat} {e : TypeId} {c n k : Nat} {l : List Int} {A : Option Addr} (h : w.ownsRow lo e 1 (.slice A n c) n (ints l)) (hk : k < l.length) : ∃ g, A = some ⟨g, 0, none⟩ ∧ w.cell? ⟨g, k, none⟩ = some (.int .i64 (rg l (k : Int))) := by
  rw [rg_nat hk]
  rcases h.2 with ⟨h0, h1⟩ | ⟨g, cap, cur, hv, _, hg, _⟩
  · have := h.1
    rw [ints_length] at this
    injection h0 with _ h2 _
    omega
  · injection hv with hA
    subst hA
    exact ⟨g, rfl, by have := h.cells (g := g) rfl k _ (ints_get hk); simpa [Addr.add_lit] using this⟩

theorem blwq {B q : Nat} {a W : World} (h : Below B a W) (hq : B ≤ q) (i : Nat) (u : Value) : Below B a (W.setCell ⟨q, i, none⟩ u) := h.setCell (p := ⟨q, i, none⟩) hq u

end Go.Proofs.Ytncigbpeempnfaa

/-
  The reference's Start.
-/
namespace Go.Proofs.Ytncigbpeempnfaa
open Go.RowKit
set_option linter.unusedVariables false

/-- What the loop carries: the boxes, the run with k registers so far. -/
structure RsS (w : World) (args regs : Int) (FA : Option Addr) (bl bc : Nat) (p : Nat) (l : List Int) (v : Value) (W : World) : Prop where
  below : Below w.heap.size w W
  lt : w.heap.size + 1 < p
  box : Row W w.heap.size 24 #[.int .i64 args, .int .i64 regs, .slice FA bl bc]
  res : Row W (w.heap.size + 1) 46 #[.int .i64 0, .int .i64 0, .int .i64 0, .int .i64 0, .slice none 0 0, .slice none 0 0, .slice none 0 0, .int .i64 0]
  out : Row W p 46 #[.int .i64 0, .int .i64 0, .int .i64 0, .int .i64 0, v, .slice none 0 0, .slice none 0 0, .int .i64 0]
  own : W.ownsRow (w.heap.size + 1 + 1) 2 1 v l.length (ints l)

theorem RsS.step {w wr W : World} {args regs : Int} {FA : Option Addr} {bl bc p : Nat} {l l' : List Int} {v v' : Value} (h : RsS w args regs FA bl bc p l v wr) (o : Obj) (hg : (wr.alloc o).grownBy W v.ownBlock) (ho : W.ownsRow (w.heap.size + 1 + 1) 2 1 v' l'.length (ints l')) :
    Row W p 46 #[.int .i64 0, .int .i64 0, .int .i64 0, .int .i64 0, v, .slice none 0 0, .slice none 0 0, .int .i64 0] ∧ RsS w args regs FA bl bc p l' v' (W.setCell ⟨p, 4, none⟩ v') := by
  have hne := own_row_ne h.own h.out (by decide)
  have hlt := h.lt
  have hb : Below (w.heap.size + 1 + 1) wr W := ((Below.refl _ wr).alloc (by have := h.out.lt; omega) o).grown hg (by have := h.out.lt; simp; omega) fun k hk => (ownS_lt h.own k hk).1
  have hr : Row W p 46 #[.int .i64 0, .int .i64 0, .int .i64 0, .int .i64 0, v, .slice none 0 0, .slice none 0 0, .int .i64 0] :=
    (hg.block p (by have := h.out.lt; simp; omega) fun e => hne p e.symm rfl).trans (h.out.alloc o)
  have hne2 := own_row_ne ho hr (by decide)
  refine ⟨hr, (h.below.trans (hb.mono (by omega))).setCell (by show _ ≤ p; omega) _, h.lt, (h.box.below hb (by omega)).far (by show _ ≠ p; omega) _, (h.res.below hb (by omega)).far (by show _ ≠ p; omega) _, hr.put 4 v', ((Mods.refl (Is p) W).put 4 v').ownS ho fun k hk hs => hne2 k hk hs⟩

set_option maxRecDepth 100000 in
set_option maxHeartbeats 2000000 in
theorem rstart_any (args : List Int) (n : Nat) (B : Nat) (FA AA : Option Addr) (bl bc ac : Nat) (w : World) (hs : Sees w B AA (ints args)) (hB : B ≤ w.heap.size) (hn : n ≤ 1000) (hl : args.length ≤ n) :
    Calls Try.prog 41 #[.agg #[.int .i64 args.length, .int .i64 n, .slice FA bl bc], .slice AA args.length ac] w (RunP w (rn0 n args)) := by
  obtain ⟨i0, hi, hz0, hz1, hz2⟩ := info_parts infoI64
  have hbl0 : Below w.heap.size w ((w.alloc (.cells #[.int .i64 args.length, .int .i64 n, .slice FA bl bc] 24)).alloc (.cells #[.int .i64 0, .int .i64 0, .int .i64 0, .int .i64 0, .slice none 0 0, .slice none 0 0, .slice none 0 0, .int .i64 0] 46)) := ((Below.refl _ w).alloc (Nat.le_refl _) _).alloc (by simp) _
  have hbox := (Row.new w 24 #[.int .i64 args.length, .int .i64 n, .slice FA bl bc]).alloc (.cells #[.int .i64 0, .int .i64 0, .int .i64 0, .int .i64 0, .slice none 0 0, .slice none 0 0, .slice none 0 0, .int .i64 0] 46)
  have hres := Row.new' (W := w.alloc (.cells #[.int .i64 args.length, .int .i64 n, .slice FA bl bc] 24)) (p := w.heap.size + 1) (by simp) 46 #[.int .i64 0, .int .i64 0, .int .i64 0, .int .i64 0, .slice none 0 0, .slice none 0 0, .slice none 0 0, .int .i64 0]
  have hs1 := ((hs.more hB).below hbl0)
  clear hs
  go_enter Try.func41, Try.ntmps41
  go_upto_region 1 with fail
  generalize ((w.alloc (.cells #[.int .i64 args.length, .int .i64 n, .slice FA bl bc] 24)).alloc (.cells #[.int .i64 0, .int .i64 0, .int .i64 0, .int .i64 0, .slice none 0 0, .slice none 0 0, .slice none 0 0, .int .i64 0] 46)) = W0 at *
  have hs2 := hs1.alloc (by have := hres.lt; omega) (.cells #[] 2)
  have HB := Lib.hid hbl0
  clear hbl0 hs1
  go_wp2_with (at_builtin; refine wpList_append_sees _ rfl (.tmp 6) (.tmp 7) 43 rfl W0.heap.size 2 i0 (.int .i64 0) 8 Try.underlying43 hi hz0 hz1 hz2 rfl _ _ _ rfl (own_empty W0 2 1) w.heap.size _ _ _ (ints args) rfl hs2 (ints_length _) (ints_one _) ?c1 ?c2 ?c3 ?_)
  case c1 => unfold maxLen; omega
  case c2 => omega
  case c3 => simp
  intro v1 W1 ho1 hg1
  obtain ⟨A1, c1, rfl, ho1, hb1⟩ := app_new rfl ho1 hg1
  have hbox1 := hbox.below hb1 hbox.lt
  have hres1 := hres.below hb1 hres.lt
  have hlo : w.heap.size + 1 + 1 ≤ W0.heap.size := hres.lt
  have hS : RsS w args.length n FA bl bc W1.heap.size args (.slice A1 args.length c1) (W1.alloc (.cells #[.int .i64 0, .int .i64 0, .int .i64 0, .int .i64 0, .slice A1 args.length c1, .slice none 0 0, .slice none 0 0, .int .i64 0] 46)) :=
    ⟨(HB.out.trans (hb1.mono (by omega))).alloc (by have := hb1.size; omega) _, by have := hb1.size; omega, hbox1.alloc _, hres1.alloc _, Row.new _ _ _, ownS_base (((Mods.refl No W1).alloc _).ownS ho1 fun _ _ h => h) hlo⟩
  have HS := Lib.hid hS
  clear hS hbox1 hres1 hg1 hb1 hs2 HB
  clear hbox hres ho1
  go_upto_region 2 with fail
  generalize W1.alloc (.cells #[.int .i64 0, .int .i64 0, .int .i64 0, .int .i64 0, .slice A1 args.length c1, .slice none 0 0, .slice none 0 0, .int .i64 0] 46) = W2 at *
  generalize W1.heap.size = p at *
  clear ho1
  go_loopg [] (n - args.length) (fun g wr => ∃ (l : List Int) (A : Option Addr) (c : Nat), l.length + g = n ∧ Hid (l = args ++ List.replicate (l.length - args.length) 0) ∧ Hid (RsS w args.length n FA bl bc p l (.slice A l.length c) wr))
  case atStart => exact ⟨args, A1, c1, by omega, by simp [Hid], HS.out⟩
  case round =>
    obtain ⟨l, A, c, hg, HL, HC⟩ := hrel
    clear HS
    have d1 := HC.out.box.cell 1
    have f4 := HC.out.out.cell 4
    simp only [List.getElem?_toArray, List.getElem?_cons_zero, List.getElem?_cons_succ] at d1 f4
    have hz1' : w.heap.size < wr.heap.size := HC.out.box.lt
    have hz2' : p < wr.heap.size := HC.out.out.lt
    cases gk with
    | zero =>
      have hln : l.length = n := by omega
      have HE : Hid (l = args ++ List.replicate (n - args.length) 0) := by rw [Hid, ← hln]; exact HL.out
      have f0 := HC.out.out.cell 0; have f1 := HC.out.out.cell 1; have f2 := HC.out.out.cell 2; have f3 := HC.out.out.cell 3; have f5 := HC.out.out.cell 5; have f6 := HC.out.out.cell 6; have f7 := HC.out.out.cell 7
      have g0 := HC.out.res.cell 0; have g1 := HC.out.res.cell 1; have g2 := HC.out.res.cell 2; have g3 := HC.out.res.cell 3; have g4 := HC.out.res.cell 4; have g5 := HC.out.res.cell 5; have g6 := HC.out.res.cell 6; have g7 := HC.out.res.cell 7
      have r0 := HC.out.res.frozen 0; have r1 := HC.out.res.frozen 1; have r2 := HC.out.res.frozen 2; have r3 := HC.out.res.frozen 3; have r4 := HC.out.res.frozen 4; have r5 := HC.out.res.frozen 5; have r6 := HC.out.res.frozen 6; have r7 := HC.out.res.frozen 7
      simp only [List.getElem?_toArray, List.getElem?_cons_zero, List.getElem?_cons_succ] at f0 f1 f2 f3 f5 f6 f7 g0 g1 g2 g3 g4 g5 g6 g7
      clear HL hg
      have hreg : (rn0 n args).regs = l := HE.out.symm
      have hrl : (rn0 n args).regs.length = n := by rw [hreg]; exact hln
      have HX := Lib.hid (And.intro hreg (And.intro hrl hln))
      clear hreg hrl
      go_wp2
      (try simp only [Exit.inBlock, Exit.then])
      obtain ⟨hreg, hrl, hln⟩ := HX.out
      refine bodyPost_ret (v := .agg #[.int .i64 0, .int .i64 0, .int .i64 0, .int .i64 0, .slice A n c, .slice none 0 0, .slice none 0 0, .int .i64 0]) ?_ rfl ⟨A, c, none, 0, none, 0, by rw [hrl]; rfl, ⟨?_, own_none _ _ _ _, fun k _ hk => by simp [Value.ownBlock] at hk⟩, ?_⟩
      · exact results_cell_row rfl _ _ (w.heap.size + 1) 46 #[.int .i64 0, .int .i64 0, .int .i64 0, .int .i64 0, .slice A n c, .slice none 0 0, .slice none 0 0, .int .i64 0] (0, 0) _ rfl (HC.out.res.put8 _ _ _ _ _ _ _ _) Try.underlying46 rfl (by kernel_rfl)
      · rw [hreg]
        exact ownS_base ((mods8 wr (w.heap.size + 1) _ _ _ _ _ _ _ _).ownS HC.out.own fun k hk hs => by have := ownS_lt HC.out.own k hk; unfold Is at hs; omega) (by omega)
      · exact blw8 (by omega) HC.out.below _ _ _ _ _ _ _ _
    | succ g =>
      have hlt : l.length < n := by omega
      have HG := Lib.hid hg
      clear hg
      go_wp2_with (at_builtin; refine wpList_append_sees _ rfl (.tmp 17) (.tmp 18) 43 rfl (w.heap.size + 1 + 1) 2 i0 (.int .i64 0) 8 Try.underlying43 hi hz0 hz1 hz2 rfl _ _ _ rfl (((Mods.refl No wr).alloc (.cells #[.int .i64 0] 2)).ownS HC.out.own fun _ _ h => h) (wr.heap.size + 1) _ _ _ (ints [0]) rfl (sees_new wr #[.int .i64 0] 2) rfl (ints_one _) ?c1 ?c2 ?c3 ?_)
      case c1 => unfold maxLen; omega
      case c2 => omega
      case c3 => have := HC.out.box.lt; have := HC.out.out.lt; have := HC.out.lt; simp; omega
      intro v1 W3 ho3 hg3
      have ho4 : W3.ownsRow (w.heap.size + 1 + 1) 2 1 v1 (l ++ [0]).length (ints (l ++ [0])) := by rw [ints_append, List.length_append]; exact ho3
      clear ho3
      obtain ⟨A3, c3, rfl, _, _⟩ := ownS_slice ho4
      obtain ⟨hrow, hst⟩ := HC.out.step _ hg3 ho4
      have f5 := hrow.cell 4; have r5 := hrow.frozen 4
      simp only [List.getElem?_toArray, List.getElem?_cons_zero, List.getElem?_cons_succ] at f5
      have HN := Lib.hid hst
      have hl1 : (l ++ [0]).length = l.length + 1 := by simp
      have HT : Hid (l ++ [0] = args ++ List.replicate ((l ++ [0]).length - args.length) 0) := by
        have h1 := HL.out
        have h2 : args.length ≤ l.length := by rw [h1, List.length_append]; omega
        rw [Hid, hl1, show l.length + 1 - args.length = l.length - args.length + 1 by omega, List.replicate_succ', ← List.append_assoc, ← h1]
      have HL1 := Lib.hid hl1
      clear hst hrow hg3 ho4 hl1
      go_wp2
      go_roundg g
      case measure => omega
      case rel => exact ⟨l ++ [0], A3, c3, by have := HL1.out; have := HG.out; omega, HT, by rw [Hid, ← HL1.out]; exact HN.out⟩

end Go.Proofs.Ytncigbpeempnfaa

/-
  The program's Start.
-/
namespace Go.Proofs.Ytncigbpeempnfaa
open Go.RowKit
set_option linter.unusedVariables false

abbrev zrun : Rn := ⟨0, 0, 0, 0, [], [], 0⟩

end Go.Proofs.Ytncigbpeempnfaa

/-
  The program's interpreter in memory.
-/
namespace Go.Proofs.Ytncigbpeempnfaa
open Go.RowKit
set_option linter.unusedVariables false

section
variable {w w' : World} {lo q : Nat} {RA SA TA BA : Option Addr} {rc sc tc bl bc : Nat} {r : Rn}

theorem Below.put27 {B : Nat} {a W : World} {q : Nat} (h : Below B a W) (hq : B ≤ q) (u v : Value) : Below B a ((W.setCell ⟨q, 2, none⟩ u).setCell ⟨q, 7, none⟩ v) := (h.setCell (p := ⟨q, 2, none⟩) hq u).setCell (p := ⟨q, 7, none⟩) hq v

end

end Go.Proofs.Ytncigbpeempnfaa

/-
  The program's perform at an emit (written by wip/lab/genperf.py).
-/
namespace Go.Proofs.Ytncigbpeempnfaa
open Go.RowKit
set_option linter.unusedVariables false
set_option linter.unusedSimpArgs false

theorem keepS {W1 : World} {q g h a n rc : Nat} {x : Int} {u : Value} (h0 : W1.cell? ⟨q, 4, none⟩ = some (.slice (some ⟨g, 0, none⟩) n rc) ∧ W1.cell? ⟨h, 2, none⟩ = some (.int .i64 (a : Int)) ∧ W1.cell? ⟨g, a, none⟩ = some (.int .i64 x)) (hn : ¬ g = q ∧ ¬ h = q) :
    (W1.setCell ⟨q, 6, none⟩ u).cell? ⟨q, 4, none⟩ = some (.slice (some ⟨g, 0, none⟩) n rc) ∧ (W1.setCell ⟨q, 6, none⟩ u).cell? ⟨h, 2, none⟩ = some (.int .i64 (a : Int)) ∧ (W1.setCell ⟨q, 6, none⟩ u).cell? ⟨g, a, none⟩ = some (.int .i64 x) :=
  ⟨(World.cell?_setCell_other _ _ _ _ (by simp)).trans h0.1, (World.cell?_setCell_other _ _ _ _ (by simp [hn.2])).trans h0.2.1, (World.cell?_setCell_other _ _ _ _ (by simp [hn.1])).trans h0.2.2⟩

end Go.Proofs.Ytncigbpeempnfaa

/-
  The program's perform.
-/
namespace Go.Proofs.Ytncigbpeempnfaa
open Go.RowKit
set_option linter.unusedVariables false

section
variable {w w' : World} {lo q : Nat} {RA SA TA BA : Option Addr} {rc sc tc bl bc : Nat} {r : Rn}

end

end Go.Proofs.Ytncigbpeempnfaa

/-
  The program's leave.
-/
namespace Go.Proofs.Ytncigbpeempnfaa
open Go.RowKit
set_option linter.unusedVariables false

section
variable {w w' : World} {lo q : Nat} {RA SA TA BA : Option Addr} {rc sc tc bl bc : Nat} {r : Rn}

end

set_option maxRecDepth 100000 in
set_option maxHeartbeats 1000000 in
theorem succ1_any (a b c : Int) (w : World) :
    Calls Try.prog 49 #[.agg #[.int .i64 1, .int .i64 a, .int .i64 b, .int .i64 c]] w fun e w' => ∃ g, e = .returned (.slice (some ⟨g, 0, none⟩) 1 1) ∧ w.heap.size ≤ g ∧ g < w'.heap.size ∧ w'.cell? ⟨g, 0, none⟩ = some (.int .i64 b) ∧ Below w.heap.size w w' := by
  have HB := Lib.hid ((Below.refl w.heap.size w).alloc (Nat.le_refl _) (.cells #[.int .i64 1, .int .i64 a, .int .i64 b, .int .i64 c] 32))
  go_enter Try.func49, Try.ntmps49
  go_wp2
  go_ret
  exact ⟨w.heap.size + 1, rfl, by omega, by simp, (Row.new' (p := w.heap.size + 1) (by simp) 3 #[.int .i64 b]).cell 0, HB.out.alloc HB.out.size _⟩

set_option maxRecDepth 100000 in
set_option maxHeartbeats 1000000 in
theorem succ2_any (a b c : Int) (w : World) :
    Calls Try.prog 49 #[.agg #[.int .i64 2, .int .i64 a, .int .i64 b, .int .i64 c]] w fun e w' => ∃ g, e = .returned (.slice (some ⟨g, 0, none⟩) 2 2) ∧ w.heap.size ≤ g ∧ g < w'.heap.size ∧ w'.cell? ⟨g, 0, none⟩ = some (.int .i64 b) ∧ w'.cell? ⟨g, 1, none⟩ = some (.int .i64 c) ∧ Below w.heap.size w w' := by
  have HB := Lib.hid ((Below.refl w.heap.size w).alloc (Nat.le_refl _) (.cells #[.int .i64 2, .int .i64 a, .int .i64 b, .int .i64 c] 32))
  go_enter Try.func49, Try.ntmps49
  go_wp2
  go_ret
  have hr := Row.new' (W := w.alloc (.cells #[.int .i64 2, .int .i64 a, .int .i64 b, .int .i64 c] 32)) (p := w.heap.size + 1) (by simp) 3 #[.int .i64 b, .int .i64 c]
  exact ⟨w.heap.size + 1, rfl, by omega, by simp, hr.cell 0, hr.cell 1, HB.out.alloc HB.out.size _⟩

end Go.Proofs.Ytncigbpeempnfaa

/-
  The program's step.
-/
namespace Go.Proofs.Ytncigbpeempnfaa
open Go.RowKit
set_option linter.unusedVariables false

end Go.Proofs.Ytncigbpeempnfaa

/-
  The program's Exec.
-/
namespace Go.Proofs.Ytncigbpeempnfaa
open Go.RowKit
set_option linter.unusedVariables false
set_option linter.unusedSimpArgs false

end Go.Proofs.Ytncigbpeempnfaa
