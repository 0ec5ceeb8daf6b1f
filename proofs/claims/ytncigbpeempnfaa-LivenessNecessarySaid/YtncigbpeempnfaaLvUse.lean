/-
  Uses, Defs.
-/
import Derived.Test.YtncigbpeempnfaaLvScan
namespace Go.Proofs.Ytncigbpeempnfaa
open Go.RowKit
set_option linter.unusedVariables false

theorem IL0.base {w0 w w' : World} {v : Value} {l : List Int} (h : IL0 w v l w') (hb : Below w0.heap.size w0 w) : IL0 w0 v l w' := ⟨ownS_base h.own hb.size, hb.trans (h.blw.mono hb.size)⟩

set_option maxRecDepth 100000 in
set_option maxHeartbeats 1000000 in
theorem uses_any (A : Option Addr) (x : Blk) (c N : Nat) (w : World) (hs : InsAt w w.heap.size A x.code) (hm : x.code.length ≤ 100000000) (hN : N ≤ 100000) (hok : BlkOk N x) :
    Calls Try.prog 14 #[.agg #[.slice A x.code.length c, .int .i64 x.term.kind, .int .i64 x.term.a, .int .i64 x.term.to, .int .i64 x.term.el]] w fun e w' => ∃ A' c', e = .returned (.slice A' (useL x N).length c') ∧ IL0 w (.slice A' (useL x N).length c') (useL x N) w' := by
  have HX := Row.new w 34 #[.slice A x.code.length c, .int .i64 x.term.kind, .int .i64 x.term.a, .int .i64 x.term.to, .int .i64 x.term.el]
  have hb0 : Below w.heap.size w (w.alloc (.cells #[.slice A x.code.length c, .int .i64 x.term.kind, .int .i64 x.term.a, .int .i64 x.term.to, .int .i64 x.term.el] 34)) := (Below.refl _ _).alloc (Nat.le_refl _) _
  have hsc := Lib.hid (scan_any A x c N _ ((hs.below hb0).more hb0.size) hm hN hok)
  have HB0 := Lib.hid hb0
  have y0 := HX.k0; have y1 := HX.k1; have y2 := HX.k2; have y3 := HX.k3; have y4 := HX.k4
  unfold useL
  generalize bUse x = RU at *
  generalize bDef x = RD at *
  clear hs hb0 HX hok
  have hfd : ∀ (v0 v1 v2 v3 : Value) (w : World), (Instr.field 63 (.agg #[v0, v1, v2, v3]) 0).run Try.prog w = .ok v0 w := by intros; kernel_rfl
  go_enter Try.func14, Try.ntmps14
  go_wp2_with (first
    | (go_at_call 35; refine (hsc.out).mono ?_; rintro e w2 ⟨u, d, rfl, hp⟩; have HP := Lib.hid hp; have HC := Lib.hid (sorted_any (.map u) N RU w2 hp.su hN); clear hp)
    | (go_at_call 36; refine (HC.out).mono ?_; rintro e w3 ⟨A1, c1, rfl, h1⟩; have H1 := Lib.hid h1; clear h1))
  go_ret
  exact ⟨A1, c1, rfl, (H1.out.base HP.out.blw).base HB0.out⟩

set_option maxRecDepth 100000 in
set_option maxHeartbeats 1000000 in
theorem defs_any (A : Option Addr) (x : Blk) (c N : Nat) (w : World) (hs : InsAt w w.heap.size A x.code) (hm : x.code.length ≤ 100000000) (hN : N ≤ 100000) (hok : BlkOk N x) :
    Calls Try.prog 15 #[.agg #[.slice A x.code.length c, .int .i64 x.term.kind, .int .i64 x.term.a, .int .i64 x.term.to, .int .i64 x.term.el]] w fun e w' => ∃ A' c', e = .returned (.slice A' (defL x N).length c') ∧ IL0 w (.slice A' (defL x N).length c') (defL x N) w' := by
  have HX := Row.new w 34 #[.slice A x.code.length c, .int .i64 x.term.kind, .int .i64 x.term.a, .int .i64 x.term.to, .int .i64 x.term.el]
  have hb0 : Below w.heap.size w (w.alloc (.cells #[.slice A x.code.length c, .int .i64 x.term.kind, .int .i64 x.term.a, .int .i64 x.term.to, .int .i64 x.term.el] 34)) := (Below.refl _ _).alloc (Nat.le_refl _) _
  have hsc := Lib.hid (scan_any A x c N _ ((hs.below hb0).more hb0.size) hm hN hok)
  have HB0 := Lib.hid hb0
  have y0 := HX.k0; have y1 := HX.k1; have y2 := HX.k2; have y3 := HX.k3; have y4 := HX.k4
  unfold defL
  generalize bUse x = RU at *
  generalize bDef x = RD at *
  clear hs hb0 HX hok
  have hfd : ∀ (v0 v1 v2 v3 : Value) (w : World), (Instr.field 63 (.agg #[v0, v1, v2, v3]) 1).run Try.prog w = .ok v1 w := by intros; kernel_rfl
  go_enter Try.func15, Try.ntmps15
  go_wp2_with (first
    | (go_at_call 35; refine (hsc.out).mono ?_; rintro e w2 ⟨u, d, rfl, hp⟩; have HP := Lib.hid hp; have HC := Lib.hid (sorted_any (.map d) N RD w2 hp.sd hN); clear hp)
    | (go_at_call 36; refine (HC.out).mono ?_; rintro e w3 ⟨A1, c1, rfl, h1⟩; have H1 := Lib.hid h1; clear h1))
  go_ret
  exact ⟨A1, c1, rfl, (H1.out.base HP.out.blw).base HB0.out⟩

end Go.Proofs.Ytncigbpeempnfaa
