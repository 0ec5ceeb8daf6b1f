/-
  The reference's Start.
-/
import Derived.Test.YtfkknebjhcafhaaRunCopy
import Derived.Deep.LoopGhost
import Derived.LoopTactic
namespace Go.Proofs.Ytfkknebjhcafhaa
open Go.RowKit
set_option linter.unusedVariables false

theorem own_row_ne {w : World} {lo n p : Nat} {e T : TypeId} {v : Value} {xs : List Value} {cs : Array Value} (h : w.ownsRow lo e 1 v n xs) (hr : Row w p T cs) (hT : e ≠ T) : ∀ k, v.ownBlock = some k → k ≠ p := by
  intro k hk e1
  subst e1
  rcases h.2 with ⟨rfl, _⟩ | ⟨a, cap, cur, rfl, _, h1, _⟩
  · cases hk
  · simp only [Value.ownBlock, Option.some.injEq] at hk
    subst hk
    unfold Row at hr
    rw [h1] at hr
    simp only [Option.some.injEq, Obj.cells.injEq] at hr
    exact hT hr.2.1

/-- What the loop carries: the boxes, the run with k registers so far. -/
structure RsS (w : World) (args regs : Int) (FA : Option Addr) (bl bc : Nat) (p : Nat) (l : List Int) (v : Value) (W : World) : Prop where
  below : Below w.heap.size w W
  lt : w.heap.size + 1 < p
  box : Row W w.heap.size 24 #[.int .i64 args, .int .i64 regs, .slice FA bl bc]
  res : Row W (w.heap.size + 1) 29 #[.int .i64 0, .int .i64 0, .int .i64 0, .int .i64 0, .slice none 0 0, .slice none 0 0, .slice none 0 0, .int .i64 0]
  out : Row W p 29 #[.int .i64 0, .int .i64 0, .int .i64 0, .int .i64 0, v, .slice none 0 0, .slice none 0 0, .int .i64 0]
  own : W.ownsRow (w.heap.size + 1 + 1) 2 1 v l.length (ints l)
theorem RsS.step {w wr W : World} {args regs : Int} {FA : Option Addr} {bl bc p : Nat} {l l' : List Int} {v v' : Value} (h : RsS w args regs FA bl bc p l v wr) (o : Obj) (hg : (wr.alloc o).grownBy W v.ownBlock) (ho : W.ownsRow (w.heap.size + 1 + 1) 2 1 v' l'.length (ints l')) :
    Row W p 29 #[.int .i64 0, .int .i64 0, .int .i64 0, .int .i64 0, v, .slice none 0 0, .slice none 0 0, .int .i64 0] ∧ RsS w args regs FA bl bc p l' v' (W.setCell ⟨p, 4, none⟩ v') := by
  have hne := own_row_ne h.own h.out (by decide)
  have hlt := h.lt
  have hb : Below (w.heap.size + 1 + 1) wr W := ((Below.refl _ wr).alloc (by have := h.out.lt; omega) o).grown hg (by have := h.out.lt; simp; omega) fun k hk => (ownS_lt h.own k hk).1
  have hr : Row W p 29 #[.int .i64 0, .int .i64 0, .int .i64 0, .int .i64 0, v, .slice none 0 0, .slice none 0 0, .int .i64 0] :=
    (hg.block p (by have := h.out.lt; simp; omega) fun e => hne p e.symm rfl).trans (h.out.alloc o)
  have hne2 := own_row_ne ho hr (by decide)
  refine ⟨hr, (h.below.trans (hb.mono (by omega))).setCell (by show _ ≤ p; omega) _, h.lt, (h.box.below hb (by omega)).far (by show _ ≠ p; omega) _, (h.res.below hb (by omega)).far (by show _ ≠ p; omega) _, hr.put 4 v', ((Mods.refl (Is p) W).put 4 v').ownS ho fun k hk hs => hne2 k hk hs⟩

set_option maxRecDepth 100000 in
set_option maxHeartbeats 2000000 in
theorem rstart_any (args : List Int) (n : Nat) (B : Nat) (FA AA : Option Addr) (bl bc ac : Nat) (w : World) (hs : Sees w B AA (ints args)) (hB : B ≤ w.heap.size) (hn : n ≤ 1000) (hl : args.length ≤ n) :
    Calls Try.prog 14 #[.agg #[.int .i64 args.length, .int .i64 n, .slice FA bl bc], .slice AA args.length ac] w (RunP w (rn0 n args)) := by
  obtain ⟨i0, hi, hz0, hz1, hz2⟩ := info_parts infoI64
  have hbl0 : Below w.heap.size w ((w.alloc (.cells #[.int .i64 args.length, .int .i64 n, .slice FA bl bc] 24)).alloc (.cells #[.int .i64 0, .int .i64 0, .int .i64 0, .int .i64 0, .slice none 0 0, .slice none 0 0, .slice none 0 0, .int .i64 0] 29)) := ((Below.refl _ w).alloc (Nat.le_refl _) _).alloc (by simp) _
  have hbox := (Row.new w 24 #[.int .i64 args.length, .int .i64 n, .slice FA bl bc]).alloc (.cells #[.int .i64 0, .int .i64 0, .int .i64 0, .int .i64 0, .slice none 0 0, .slice none 0 0, .slice none 0 0, .int .i64 0] 29)
  have hres := Row.new' (W := w.alloc (.cells #[.int .i64 args.length, .int .i64 n, .slice FA bl bc] 24)) (p := w.heap.size + 1) (by simp) 29 #[.int .i64 0, .int .i64 0, .int .i64 0, .int .i64 0, .slice none 0 0, .slice none 0 0, .slice none 0 0, .int .i64 0]
  have hs1 := ((hs.more hB).below hbl0)
  clear hs
  go_enter Try.func14, Try.ntmps14
  go_upto_region 1 with fail
  generalize ((w.alloc (.cells #[.int .i64 args.length, .int .i64 n, .slice FA bl bc] 24)).alloc (.cells #[.int .i64 0, .int .i64 0, .int .i64 0, .int .i64 0, .slice none 0 0, .slice none 0 0, .slice none 0 0, .int .i64 0] 29)) = W0 at *
  have hs2 := hs1.alloc (by have := hres.lt; omega) (.cells #[] 2)
  have HB := Lib.hid hbl0
  clear hbl0 hs1
  go_wp2_with (at_builtin; refine wpList_append_sees _ rfl (.tmp 6) (.tmp 7) 25 rfl W0.heap.size 2 i0 (.int .i64 0) 8 Try.underlying25 hi hz0 hz1 hz2 rfl _ _ _ rfl (own_empty W0 2 1) w.heap.size _ _ _ (ints args) rfl hs2 (ints_length _) (ints_one _) ?c1 ?c2 ?c3 ?_)
  case c1 => unfold maxLen; omega
  case c2 => omega
  case c3 => simp
  intro v1 W1 ho1 hg1
  obtain ⟨A1, c1, rfl, ho1, hb1⟩ := app_new rfl ho1 hg1
  have hbox1 := hbox.below hb1 hbox.lt
  have hres1 := hres.below hb1 hres.lt
  have hlo : w.heap.size + 1 + 1 ≤ W0.heap.size := hres.lt
  have hS : RsS w args.length n FA bl bc W1.heap.size args (.slice A1 args.length c1) (W1.alloc (.cells #[.int .i64 0, .int .i64 0, .int .i64 0, .int .i64 0, .slice A1 args.length c1, .slice none 0 0, .slice none 0 0, .int .i64 0] 29)) :=
    ⟨(HB.out.trans (hb1.mono (by omega))).alloc (by have := hb1.size; omega) _, by have := hb1.size; omega, hbox1.alloc _, hres1.alloc _, Row.new _ _ _, ownS_base (((Mods.refl No W1).alloc _).ownS ho1 fun _ _ h => h) hlo⟩
  have HS := Lib.hid hS
  clear hS hbox1 hres1 hg1 hb1 hs2 HB
  clear hbox hres ho1
  go_upto_region 2 with fail
  generalize W1.alloc (.cells #[.int .i64 0, .int .i64 0, .int .i64 0, .int .i64 0, .slice A1 args.length c1, .slice none 0 0, .slice none 0 0, .int .i64 0] 29) = W2 at *
  generalize W1.heap.size = p at *
  clear ho1
  go_loopg [] (n - args.length) (fun g wr => ∃ (l : List Int) (A : Option Addr) (c : Nat), l.length + g = n ∧ Hid (l = args ++ List.replicate (l.length - args.length) 0) ∧ Hid (RsS w args.length n FA bl bc p l (.slice A l.length c) wr))
  case atStart => exact ⟨args, A1, c1, by omega, by simp [Hid], HS.out⟩
  case round =>
    obtain ⟨l, A, c, hg, HL, HC⟩ := hrel
    clear HS
    have d1 := HC.out.box.cell 1
    have f4 := HC.out.out.cell 4
    simp only [List.getElem?_toArray, List.getElem?_cons_zero, List.getElem?_cons_succ] at d1 f4
    have hz1' : w.heap.size < wr.heap.size := HC.out.box.lt
    have hz2' : p < wr.heap.size := HC.out.out.lt
    cases gk with
    | zero =>
      have hln : l.length = n := by omega
      have HE : Hid (l = args ++ List.replicate (n - args.length) 0) := by rw [Hid, ← hln]; exact HL.out
      have f0 := HC.out.out.cell 0; have f1 := HC.out.out.cell 1; have f2 := HC.out.out.cell 2; have f3 := HC.out.out.cell 3; have f5 := HC.out.out.cell 5; have f6 := HC.out.out.cell 6; have f7 := HC.out.out.cell 7
      have g0 := HC.out.res.cell 0; have g1 := HC.out.res.cell 1; have g2 := HC.out.res.cell 2; have g3 := HC.out.res.cell 3; have g4 := HC.out.res.cell 4; have g5 := HC.out.res.cell 5; have g6 := HC.out.res.cell 6; have g7 := HC.out.res.cell 7
      have r0 := HC.out.res.frozen 0; have r1 := HC.out.res.frozen 1; have r2 := HC.out.res.frozen 2; have r3 := HC.out.res.frozen 3; have r4 := HC.out.res.frozen 4; have r5 := HC.out.res.frozen 5; have r6 := HC.out.res.frozen 6; have r7 := HC.out.res.frozen 7
      simp only [List.getElem?_toArray, List.getElem?_cons_zero, List.getElem?_cons_succ] at f0 f1 f2 f3 f5 f6 f7 g0 g1 g2 g3 g4 g5 g6 g7
      clear HL hg
      have hreg : (rn0 n args).regs = l := HE.out.symm
      have hrl : (rn0 n args).regs.length = n := by rw [hreg]; exact hln
      have HX := Lib.hid (And.intro hreg (And.intro hrl hln))
      clear hreg hrl
      go_wp2
      (try simp only [Exit.inBlock, Exit.then])
      obtain ⟨hreg, hrl, hln⟩ := HX.out
      refine bodyPost_ret (v := .agg #[.int .i64 0, .int .i64 0, .int .i64 0, .int .i64 0, .slice A n c, .slice none 0 0, .slice none 0 0, .int .i64 0]) ?_ rfl ⟨A, c, none, 0, none, 0, by rw [hrl]; rfl, ⟨?_, own_none _ _ _ _, fun k _ hk => by simp [Value.ownBlock] at hk⟩, ?_⟩
      · exact results_cell_row rfl _ _ (w.heap.size + 1) 29 #[.int .i64 0, .int .i64 0, .int .i64 0, .int .i64 0, .slice A n c, .slice none 0 0, .slice none 0 0, .int .i64 0] (0, 0) _ rfl (HC.out.res.put8 _ _ _ _ _ _ _ _) Try.underlying29 rfl (by kernel_rfl)
      · rw [hreg]
        exact ownS_base ((mods8 wr (w.heap.size + 1) _ _ _ _ _ _ _ _).ownS HC.out.own fun k hk hs => by have := ownS_lt HC.out.own k hk; unfold Is at hs; omega) (by omega)
      · exact blw8 (by omega) HC.out.below _ _ _ _ _ _ _ _
    | succ g =>
      have hlt : l.length < n := by omega
      have HG := Lib.hid hg
      clear hg
      go_wp2_with (at_builtin; refine wpList_append_sees _ rfl (.tmp 17) (.tmp 18) 25 rfl (w.heap.size + 1 + 1) 2 i0 (.int .i64 0) 8 Try.underlying25 hi hz0 hz1 hz2 rfl _ _ _ rfl (((Mods.refl No wr).alloc (.cells #[.int .i64 0] 2)).ownS HC.out.own fun _ _ h => h) (wr.heap.size + 1) _ _ _ (ints [0]) rfl (sees_new wr #[.int .i64 0] 2) rfl (ints_one _) ?c1 ?c2 ?c3 ?_)
      case c1 => unfold maxLen; omega
      case c2 => omega
      case c3 => have := HC.out.box.lt; have := HC.out.out.lt; have := HC.out.lt; simp; omega
      intro v1 W3 ho3 hg3
      have ho4 : W3.ownsRow (w.heap.size + 1 + 1) 2 1 v1 (l ++ [0]).length (ints (l ++ [0])) := by rw [ints_append, List.length_append]; exact ho3
      clear ho3
      obtain ⟨A3, c3, rfl, _, _⟩ := ownS_slice ho4
      obtain ⟨hrow, hst⟩ := HC.out.step _ hg3 ho4
      have f5 := hrow.cell 4; have r5 := hrow.frozen 4
      simp only [List.getElem?_toArray, List.getElem?_cons_zero, List.getElem?_cons_succ] at f5
      have HN := Lib.hid hst
      have hl1 : (l ++ [0]).length = l.length + 1 := by simp
      have HT : Hid (l ++ [0] = args ++ List.replicate ((l ++ [0]).length - args.length) 0) := by
        have h1 := HL.out
        have h2 : args.length ≤ l.length := by rw [h1, List.length_append]; omega
        rw [Hid, hl1, show l.length + 1 - args.length = l.length - args.length + 1 by omega, List.replicate_succ', ← List.append_assoc, ← h1]
      have HL1 := Lib.hid hl1
      clear hst hrow hg3 ho4 hl1
      go_wp2
      go_roundg g
      case measure => omega
      case rel => exact ⟨l ++ [0], A3, c3, by have := HL1.out; have := HG.out; omega, HT, by rw [Hid, ← HL1.out]; exact HN.out⟩

end Go.Proofs.Ytfkknebjhcafhaa
