import Derived.Test.YtcoehkphdfejjaaGreatBcRow
import Derived.Test.YtcoehkphdfejjaaGreatPk4
import Derived.Defers
import Derived.Recover
import Derived.StillTailTactics
import Derived.Test.YtcoehkphdfejjaaGreatPk6

/-
  The check's terminator, its rows, and the deferred closure that recovers.
-/
namespace Go.Proofs.YtcoehkphdfejjaaGreat
open Go.RowKit
set_option linter.unusedVariables false
set_option linter.unusedSimpArgs false

set_option maxRecDepth 100000 in
set_option maxHeartbeats 4000000 in
theorem bcterm_any {R L : List Int} (hRL : R.length * L.length ≤ 400000) {w0 W : World} {sb : Nat} {most : Int} {r : Rs} {s : Nat} {bt mt : Tm} {k : Nat} (hS : SP w0 sb most r W) (hsb : w0.heap.size ≤ sb) (h0 : r.err = 0) (hRI : RI R L s r) (hs : s ≤ 100000)
    (hk : bt.kind = 1 ∨ bt.kind = 2 ∨ bt.kind = 3) (hbd : ¬ bt.kind = 1 → 0 ≤ mt.a ∧ mt.a ≤ 1000000) :
    Calls Tryz.prog 85 #[.pointer (some ⟨sb, 0, none⟩), .agg #[.int .i64 bt.kind, .int .i64 bt.a, .int .i64 bt.to, .int .i64 bt.el], .agg #[.int .i64 mt.kind, .int .i64 mt.a, .int .i64 mt.to, .int .i64 mt.el], .int .i64 (k : Int)] W (EP w0 sb most (foldE most (if bt.kind = 1 then [] else [.us bt.a mt.a k]) r) W) := by
  obtain ⟨A1, c1, hK⟩ := LX.of hS
  obtain ⟨t0, ta, tt, te⟩ := bt
  obtain ⟨m0, ma, m_, me⟩ := mt
  dsimp only at *
  obtain ⟨RC, hRC⟩ : ∃ z, foldE most (if t0 = 1 then [] else [.us ta ma k]) r = z := ⟨_, rfl⟩
  rw [hRC]
  have hb2 := ((Below.refl W.heap.size W).alloc (Nat.le_refl _) (.cells #[.int .i64 t0, .int .i64 ta, .int .i64 tt, .int .i64 te] 47)).alloc (by simp) (.cells #[.int .i64 m0, .int .i64 ma, .int .i64 m_, .int .i64 me] 47)
  have hI := (Row.new W 47 #[.int .i64 t0, .int .i64 ta, .int .i64 tt, .int .i64 te]).alloc (.cells #[.int .i64 m0, .int .i64 ma, .int .i64 m_, .int .i64 me] 47)
  have hJ := Row.new (W.alloc (.cells #[.int .i64 t0, .int .i64 ta, .int .i64 tt, .int .i64 te] 47)) 47 #[.int .i64 m0, .int .i64 ma, .int .i64 m_, .int .i64 me]
  rw [show (W.alloc (.cells #[.int .i64 t0, .int .i64 ta, .int .i64 tt, .int .i64 te] 47)).heap.size = W.heap.size + 1 by simp] at hJ
  have HK := Lib.hid (hK.next hb2)
  have h2 : (t0 == 2) = decide (t0 = 2) := by by_cases h : t0 = 2 <;> simp [h]
  rcases hk with h | h | h
  · have hrc := hRC
    rw [if_pos h, foldE_nil] at hrc
    have HRC := Lib.hid hrc
    have HH0 := Lib.hid h0
    have n2 : (t0 == 2) = false := by simp [h]
    have n3 : (t0 == 3) = false := by simp [h]
    clear hRC hrc hS hK hb2 h h2 hbd hRI h0 hsb
    go_enter Tryz.func85, Tryz.ntmps85
    go_upto_region 1 with fail
    generalize ((W.alloc (.cells #[.int .i64 t0, .int .i64 ta, .int .i64 tt, .int .i64 te] 47)).alloc (.cells #[.int .i64 m0, .int .i64 ma, .int .i64 m_, .int .i64 me] 47)) = W1 at *
    have i0 := hI.cell 0
    simp only [List.getElem?_toArray, List.getElem?_cons_zero] at i0
    clear hI hJ
    go_wp2
    first | go_end0 | refine bodyPost_ret (results_none rfl _ _ _) rfl ?_
    rw [← HRC.out]
    exact ⟨HK.out.md, .inl ⟨HH0.out, rfl, HK.out.sp⟩⟩
  · have e1 : stepE most r (EOp.us ta ma k) = r.use ta ma k := by unfold stepE; rw [if_pos h0]
    rw [if_neg (by omega), foldE_cons, foldE_nil, e1] at hRC
    have HRC := Lib.hid hRC
    have HH0 := Lib.hid h0
    have C : Hid (∀ V, LX w0 W sb most r A1 c1 V → _) := fun V h => use_ep (k := k) (v := ta) (g := ma) h.sp hsb h0 hRI.srt (hRI.big (by omega)) hRI.len (hbd (by omega))
    have n2 : (t0 == 2) = true := by simp [h]
    generalize r.use ta ma k = r2 at *
    clear hRC hS hK hb2 h h2 hbd hRI e1 h0 hsb
    go_enter Tryz.func85, Tryz.ntmps85
    go_upto_region 1 with fail
    generalize ((W.alloc (.cells #[.int .i64 t0, .int .i64 ta, .int .i64 tt, .int .i64 te] 47)).alloc (.cells #[.int .i64 m0, .int .i64 ma, .int .i64 m_, .int .i64 me] 47)) = W1 at *
    have i0 := hI.cell 0; have i1 := hI.cell 1; have j1 := hJ.cell 1
    simp only [List.getElem?_toArray, List.getElem?_cons_zero, List.getElem?_cons_succ] at i0 i1 j1
    have C := Lib.hid (C.out W1 HK.out)
    clear hI hJ
    go_wp2_with fail
    refine C.out.mono ?_
    rintro e W2 ⟨hM, h⟩
    have HM9 := Lib.hid (HK.out.md.trans hM)
    clear hM C
    rcases h with ⟨he0, rfl, hS2⟩ | ⟨he, rfl, hR9, hb9⟩
    · have HE0 := Lib.hid he0
      have HS2 := Lib.hid hS2
      clear he0 hS2
      go_wp2
      first | go_end0 | refine bodyPost_ret (results_none rfl _ _ _) rfl ?_
      rw [← HRC.out]
      exact ⟨HM9.out, .inl ⟨HE0.out, rfl, HS2.out⟩⟩
    · have HE := Lib.hid he
      have HR9 := Lib.hid hR9
      have HB9 := Lib.hid hb9
      clear he hR9 hb9
      go_wp2
      rw [← HRC.out]
      exact ⟨rfl, HM9.out, .inr ⟨HE.out, rfl, HR9.out, HB9.out⟩⟩
  · have e1 : stepE most r (EOp.us ta ma k) = r.use ta ma k := by unfold stepE; rw [if_pos h0]
    rw [if_neg (by omega), foldE_cons, foldE_nil, e1] at hRC
    have HRC := Lib.hid hRC
    have HH0 := Lib.hid h0
    have C : Hid (∀ V, LX w0 W sb most r A1 c1 V → _) := fun V h => use_ep (k := k) (v := ta) (g := ma) h.sp hsb h0 hRI.srt (hRI.big (by omega)) hRI.len (hbd (by omega))
    have n2 : (t0 == 2) = false := by simp [h]
    have n3 : (t0 == 3) = true := by simp [h]
    generalize r.use ta ma k = r2 at *
    clear hRC hS hK hb2 h h2 hbd hRI e1 h0 hsb
    go_enter Tryz.func85, Tryz.ntmps85
    go_upto_region 1 with fail
    generalize ((W.alloc (.cells #[.int .i64 t0, .int .i64 ta, .int .i64 tt, .int .i64 te] 47)).alloc (.cells #[.int .i64 m0, .int .i64 ma, .int .i64 m_, .int .i64 me] 47)) = W1 at *
    have i0 := hI.cell 0; have i1 := hI.cell 1; have j1 := hJ.cell 1
    simp only [List.getElem?_toArray, List.getElem?_cons_zero, List.getElem?_cons_succ] at i0 i1 j1
    have C := Lib.hid (C.out W1 HK.out)
    clear hI hJ
    go_wp2_with fail
    refine C.out.mono ?_
    rintro e W2 ⟨hM, h⟩
    have HM9 := Lib.hid (HK.out.md.trans hM)
    clear hM C
    rcases h with ⟨he0, rfl, hS2⟩ | ⟨he, rfl, hR9, hb9⟩
    · have HE0 := Lib.hid he0
      have HS2 := Lib.hid hS2
      clear he0 hS2
      go_wp2
      first | go_end0 | refine bodyPost_ret (results_none rfl _ _ _) rfl ?_
      rw [← HRC.out]
      exact ⟨HM9.out, .inl ⟨HE0.out, rfl, HS2.out⟩⟩
    · have HE := Lib.hid he
      have HR9 := Lib.hid hR9
      have HB9 := Lib.hid hb9
      clear he hR9 hb9
      go_wp2
      rw [← HRC.out]
      exact ⟨rfl, HM9.out, .inr ⟨HE.out, rfl, HR9.out, HB9.out⟩⟩

def RowsP (mach : List Mi) (ok : Bool) (R1 : List Rw) (R2 : Nat) (R3 : Int) (W : World) (e : Ending) (w' : World) : Prop :=
  (¬ R3 = 0 ∧ e = .panicked (pnc R3 (R2 : Int)) ∧ Below W.heap.size W w') ∨ (R3 = 0 ∧ ok = false ∧ e = .panicked (pnc 20 (mach.length : Int)) ∧ Below W.heap.size W w') ∨
    (R3 = 0 ∧ ok = true ∧ ∃ A c, e = .returned (.slice A R1.length c) ∧ RL Rw.cells 6 141 W (.slice A R1.length c) R1 w')

set_option maxRecDepth 100000 in
set_option maxHeartbeats 4000000 in
theorem bcrows_any {A1 : Option Addr} {n1 c1 : Nat} {code : List In} {A2 : Option Addr} {n2 c2 : Nat} {mach : List Mi} {bt mt : Tm} {W : World} {R1 : List Rw} {R2 : Nat} {R3 : Int} {ok : Bool} (h1 : CS W A1 n1 c1 code) (h2 : MS W A2 n2 c2 mach) (hm1 : n1 ≤ 100000) (hm2 : n2 ≤ 100000) (hR : alC code mach = (R1, R2, R3)) (hok : tmP bt mt = ok) :
    Calls Tryz.prog 81 #[.agg #[.slice A1 n1 c1, .int .i64 bt.kind, .int .i64 bt.a, .int .i64 bt.to, .int .i64 bt.el], .agg #[.slice A2 n2 c2, .int .i64 mt.kind, .int .i64 mt.a, .int .i64 mt.to, .int .i64 mt.el]] W (RowsP mach ok R1 R2 R3 W) := by
  have hb2 := ((Below.refl W.heap.size W).alloc (Nat.le_refl _) (.cells #[.slice A1 n1 c1, .int .i64 bt.kind, .int .i64 bt.a, .int .i64 bt.to, .int .i64 bt.el] 49)).alloc (by simp) (.cells #[.slice A2 n2 c2, .int .i64 mt.kind, .int .i64 mt.a, .int .i64 mt.to, .int .i64 mt.el] 52)
  have hI := (Row.new W 49 #[.slice A1 n1 c1, .int .i64 bt.kind, .int .i64 bt.a, .int .i64 bt.to, .int .i64 bt.el]).alloc (.cells #[.slice A2 n2 c2, .int .i64 mt.kind, .int .i64 mt.a, .int .i64 mt.to, .int .i64 mt.el] 52)
  have hJ := Row.new (W.alloc (.cells #[.slice A1 n1 c1, .int .i64 bt.kind, .int .i64 bt.a, .int .i64 bt.to, .int .i64 bt.el] 49)) 52 #[.slice A2 n2 c2, .int .i64 mt.kind, .int .i64 mt.a, .int .i64 mt.to, .int .i64 mt.el]
  rw [show (W.alloc (.cells #[.slice A1 n1 c1, .int .i64 bt.kind, .int .i64 bt.a, .int .i64 bt.to, .int .i64 bt.el] 49)).heap.size = W.heap.size + 1 by simp] at hJ
  have HB := Lib.hid hb2
  have HI := Lib.hid hI
  have HJ := Lib.hid hJ
  have HC := Lib.hid (h1.below hb2)
  have HM := Lib.hid (h2.below hb2)
  have HN := Lib.hid h2.len
  have CT : Hid (∀ V, Calls Tryz.prog 93 #[.agg #[.int .i64 bt.kind, .int .i64 bt.a, .int .i64 bt.to, .int .i64 bt.el], .agg #[.int .i64 mt.kind, .int .i64 mt.a, .int .i64 mt.to, .int .i64 mt.el]] V fun e w' => e = .returned (.bool ok) ∧ Grew V w') := fun V => hok ▸ terms_any bt mt V
  clear hb2 hI hJ h1 h2
  go_enter Tryz.func81, Tryz.ntmps81
  go_upto_region 1 with fail
  generalize ((W.alloc (.cells #[.slice A1 n1 c1, .int .i64 bt.kind, .int .i64 bt.a, .int .i64 bt.to, .int .i64 bt.el] 49)).alloc (.cells #[.slice A2 n2 c2, .int .i64 mt.kind, .int .i64 mt.a, .int .i64 mt.to, .int .i64 mt.el] 52)) = W1 at *
  have C := Lib.hid (alcode_at HC.out HM.out hm1 hm2 hR)
  have i0 := HI.out.cell 0; have j0 := HJ.out.cell 0
  simp only [List.getElem?_toArray, List.getElem?_cons_zero] at i0 j0
  generalize W.heap.size + 1 = jb at *
  clear hR hok
  go_wp2_with fail
  refine C.out.mono ?_
  rintro e W2 ⟨A, c, rfl, hP⟩
  have HI2 := Lib.hid (HI.out.below hP.blw HI.out.lt)
  have HJ2 := Lib.hid (HJ.out.below hP.blw HJ.out.lt)
  have HP := Lib.hid hP
  have HB2 := Lib.hid (HB.out.trans (hP.blw.mono HB.out.size))
  clear C hP i0 j0 HI HJ HC HM
  by_cases hz : R3 = 0
  · subst hz
    have i1 := HI2.out.cell 1; have i2 := HI2.out.cell 2; have i3 := HI2.out.cell 3; have i4 := HI2.out.cell 4
    have j0 := HJ2.out.cell 0; have j1 := HJ2.out.cell 1; have j2 := HJ2.out.cell 2; have j3 := HJ2.out.cell 3; have j4 := HJ2.out.cell 4
    simp only [List.getElem?_toArray, List.getElem?_cons_zero, List.getElem?_cons_succ] at i1 i2 i3 i4 j0 j1 j2 j3 j4
    go_wp2_with fail
    refine (CT.out _).mono ?_
    rintro e W3 ⟨rfl, hG⟩
    have HJ3 := Lib.hid (hG.row HJ2.out)
    have HP3 := Lib.hid (HP.out.grew hG)
    have HB3 := Lib.hid (HB2.out.trans (hG.below.mono HB2.out.size))
    have j0 := HJ3.out.cell 0
    simp only [List.getElem?_toArray, List.getElem?_cons_zero] at j0
    clear hG CT i1 i2 i3 i4 j1 j2 j3 j4 HJ2 HI2 HP HB2
    cases ok
    · go_wp2
      exact ⟨rfl, .inr (.inl ⟨rfl, rfl, by rw [HN.out]; rfl, HB3.out⟩)⟩
    · go_wp2
      go_ret
      exact .inr (.inr ⟨rfl, rfl, A, c, rfl, HP3.out.base (HB.out)⟩)
  · have hz2 : (R3 != 0) = true := by simp [hz]
    have HZ := Lib.hid (show ¬ R3 = 0 from hz)
    clear hz
    go_wp2
    exact ⟨rfl, .inl ⟨HZ.out, rfl, HB2.out⟩⟩

theorem assert_end (x y : Int) (W : World) : (Instr.typeAssert (.iface 119 (.agg #[.int .i64 x, .int .i64 y])) 20 119 true).run Tryz.prog W = .ok (.tuple #[.agg #[.int .i64 x, .int .i64 y], .bool true]) W := by
  kernel_rfl

theorem Row.put2 {W : World} {p : Nat} {T : TypeId} {z0 z1 : Value} (h : Row W p T #[z0, z1]) (a0 a1 : Value) : Row ((W.setCell ⟨p, 0, none⟩ a0).setCell ⟨p, 1, none⟩ a1) p T #[a0, a1] := by
  have q0 : Row _ p T #[a0, z1] := h.put 0 a0
  exact q0.put 1 a1

set_option maxRecDepth 100000 in
set_option maxHeartbeats 1000000 in
theorem bccatch_panicking (q : Nat) (e k : Int) (older : List PanicEntry) (z0 z1 : Value) (w : World) (hq : Row w q 119 #[z0, z1]) :
    CallsD Tryz.prog 79 #[.pointer (some ⟨q, 0, none⟩)] (.panicking ({ v := .iface 119 (.agg #[.int .i64 e, .int .i64 k]), recovered := false } :: older)) w fun x u' w' =>
      x = .returned (.tuple #[]) ∧ u' = .panicking ({ v := .iface 119 (.agg #[.int .i64 e, .int .i64 k]), recovered := true } :: older) ∧ Row w' q 119 #[.int .i64 e, .int .i64 k] ∧ Mods (Is q) w w' := by
  refine callsD_of_wpS Tryz.func79 rfl fun c₀ cs hu => ?_
  apply wpS_seq
  apply wpS_region
  simp [wpOpsS, go_sem, recoverD, hu, Tryz.ntmps79, Exit.thenS]
  refine wpS_of_wp ?_
  have hfr : (#[Value.pointer (some ⟨q, 0, none⟩)] ++ ((Array.replicate 15 undef).setIfInBounds 3 (.iface 119 (.agg #[.int .i64 e, .int .i64 k]))).setIfInBounds 0 (.iface 119 (.agg #[.int .i64 e, .int .i64 k]))) = #[.pointer (some ⟨q, 0, none⟩), .iface 119 (.agg #[.int .i64 e, .int .i64 k]), undef, undef, .iface 119 (.agg #[.int .i64 e, .int .i64 k]), undef, undef, undef, undef, undef, undef, undef, undef, undef, undef, undef] := by simp [Array.replicate]
  rw [hfr]
  clear hfr
  have HQ := Lib.hid hq
  clear hq
  have hta := assert_end e k w
  go_upto_region 5 with fail
  have HQ1 := Lib.hid (HQ.out.alloc (.cells #[.int .i64 e, .int .i64 k] 119))
  have HF1 := Lib.hid (Row.new w 119 #[.int .i64 e, .int .i64 k])
  have HM1 : Hid (Mods (Is q) w (w.alloc (.cells #[.int .i64 e, .int .i64 k] 119))) := (Mods.refl _ w).alloc _
  clear hta HQ
  generalize w.alloc (.cells #[.int .i64 e, .int .i64 k] 119) = W1 at *
  generalize w.heap.size = fb at *
  have e0 := HF1.out.cell 0; have e1 := HF1.out.cell 1
  have q0 := HQ1.out.cell 0; have q1 := HQ1.out.cell 1
  have g0 := HQ1.out.frozen 0; have g1 := HQ1.out.frozen 1
  simp only [List.getElem?_toArray, List.getElem?_cons_zero, List.getElem?_cons_succ] at e0 e1 q0 q1
  go_wp2
  exact ⟨rfl, _, rfl, .tuple #[], results_none rfl _ _ _, rfl, rfl, HQ1.out.put2 _ _, (HM1.out.put 0 _).put 1 _⟩

set_option maxRecDepth 100000 in
set_option maxHeartbeats 1000000 in
theorem bccatch_idle (q : Nat) (w : World) :
    CallsD Tryz.prog 79 #[.pointer (some ⟨q, 0, none⟩)] .returning w fun x u' w' => x = .returned (.tuple #[]) ∧ u' = .returning ∧ w' = w := by
  refine callsD_of_wpS Tryz.func79 rfl fun c₀ cs hu => ?_
  apply wpS_seq
  apply wpS_region
  simp [wpOpsS, go_sem, recoverD, hu, Tryz.ntmps79, Exit.thenS]
  refine wpS_of_wp ?_
  have hfr : (#[Value.pointer (some ⟨q, 0, none⟩)] ++ ((Array.replicate 15 undef).setIfInBounds 3 Value.nilIface).setIfInBounds 0 Value.nilIface) = #[.pointer (some ⟨q, 0, none⟩), Value.nilIface, undef, undef, Value.nilIface, undef, undef, undef, undef, undef, undef, undef, undef, undef, undef, undef] := by simp [Array.replicate]
  rw [hfr]
  clear hfr
  go_wp2
  refine ⟨rfl, .returning, ?_, .tuple #[], results_none rfl _ _ _, rfl, rfl, rfl⟩
  cases c₀
  simp_all

end Go.Proofs.YtcoehkphdfejjaaGreat

/-
  The check under its deferred closure.
-/
namespace Go.Proofs.YtcoehkphdfejjaaGreat
open Go.RowKit
set_option linter.unusedVariables false
set_option linter.unusedSimpArgs false

/-- What the check comes to. -/
def BRunP (w0 : World) (sb : Nat) (most : Int) (RC : Rs) (W : World) (e : Ending) (w' : World) : Prop :=
  e = .returned (.agg #[.int .i64 RC.err, .int .i64 (RC.at_ : Int)]) ∧ Mods (Is sb) W w' ∧ Below w0.heap.size w0 w' ∧ ∃ v, Row w' sb 117 #[v, .int .i64 most, .int .i64 (RC.steps : Int), .int .i64 (RC.largest : Int)] ∧ (RC.err = 0 → ∃ A c, v = .slice A RC.out.length c ∧ PL w0 v RC.out w')

theorem run_isq {W W' w'' : World} {sb q : Nat} (hm : Mods (Is sb) W W') (hq : W.heap.size ≤ q) (hk : Mods (Is q) W' w'') : Mods (Is sb) W w'' := hm.then hk fun k hk => .inr (by rw [show k = q from hk]; exact hq)

/-- An error: the panic goes through the door, and the closure lays it into the result. -/
theorem bcleave_run {w0 W W' : World} {sb q : Nat} {most : Int} {RC : Rs} {tmps : Array Value} {z0 z1 : Value} (htm : tmps.getD 6 undef = .pointer (some ⟨q, 0, none⟩)) (hq : Row W' q 119 #[z0, z1]) (hqs : ¬ q = sb) (hqW : W.heap.size ≤ q) (hw : w0.heap.size ≤ W.heap.size) (he : ¬ RC.err = 0)
    (hr : ∃ v, Row W' sb 117 #[v, .int .i64 most, .int .i64 (RC.steps : Int), .int .i64 (RC.largest : Int)]) (hb : Below w0.heap.size w0 W') (hm : Mods (Is sb) W W') :
    Leaves Tryz.prog Tryz.f63 tmps (BRunP w0 sb most RC W) [{ target := .fn (.func 79) #[.pointer (some ⟨q, 0, none⟩)], args := #[] }] (.panicking (pnc RC.err (RC.at_ : Int))) W' := by
  refine leaves_cons (f := 79) (args := #[.pointer (some ⟨q, 0, none⟩)]) (by simp) (by simp [go_sem]) ?_
  refine (bccatch_panicking q RC.err RC.at_ [] z0 z1 W' hq).mono ?_
  rintro e u' w'' ⟨rfl, rfl, hq2, hm2⟩
  obtain ⟨v, hr⟩ := hr
  refine ⟨.agg #[.int .i64 RC.err, .int .i64 (RC.at_ : Int)], ?_, rfl, run_isq hm hqW hm2, hb.trans (hm2.below hb.size fun k hk => ?_), v, hr.mods hm2 (by unfold Is; omega), fun h => absurd h he⟩
  · exact results_cell_row rfl _ _ q 119 #[.int .i64 RC.err, .int .i64 (RC.at_ : Int)] (0, 0) _ htm hq2 Tryz.underlying119 rfl (by kernel_rfl)
  · have : k = q := hk
    omega

theorem bcleave_end {w0 W W' : World} {sb q : Nat} {most : Int} {RC : Rs} {tmps : Array Value} (htm : tmps.getD 6 undef = .pointer (some ⟨q, 0, none⟩)) (hq : Row W' q 119 #[.int .i64 RC.err, .int .i64 (RC.at_ : Int)]) (hm : Mods (Is sb) W W') (hS : SP w0 sb most RC W') :
    Leaves Tryz.prog Tryz.f63 tmps (BRunP w0 sb most RC W) [{ target := .fn (.func 79) #[.pointer (some ⟨q, 0, none⟩)], args := #[] }] .returning W' := by
  refine leaves_cons (f := 79) (args := #[.pointer (some ⟨q, 0, none⟩)]) (by simp) (by simp [go_sem]) ?_
  refine (bccatch_idle q W').mono ?_
  rintro e u' w'' ⟨rfl, rfl, rfl⟩
  obtain ⟨A, c, h1, h2⟩ := hS
  refine ⟨.agg #[.int .i64 RC.err, .int .i64 (RC.at_ : Int)], ?_, rfl, hm, h2.blw, .slice A RC.out.length c, h1, fun _ => ⟨A, c, rfl, h2⟩⟩
  exact results_cell_row rfl _ _ q 119 #[.int .i64 RC.err, .int .i64 (RC.at_ : Int)] (0, 0) _ htm hq Tryz.underlying119 rfl (by kernel_rfl)

/-- What the run carries: the boxes of the blocks, the result's cell, the rows, the state. -/
structure BRX (w0 W : World) (sb : Nat) (most : Int) (bt mt : Tm) (A1 : Option Addr) (n1 c1 : Nat) (A2 : Option Addr) (n2 c2 : Nat) (r : Rs) (V : World) : Prop where
  sp : SP w0 sb most r V
  md : Mods (Is sb) W V
  b : Row V W.heap.size 49 #[.slice A1 n1 c1, .int .i64 bt.kind, .int .i64 bt.a, .int .i64 bt.to, .int .i64 bt.el]
  m : Row V (W.heap.size + 1) 52 #[.slice A2 n2 c2, .int .i64 mt.kind, .int .i64 mt.a, .int .i64 mt.to, .int .i64 mt.el]
  q : Row V (W.heap.size + 1 + 1) 119 #[.int .i64 0, .int .i64 0]
  lt : sb < W.heap.size

section
variable {w0 W : World} {sb : Nat} {most : Int} {bt mt : Tm} {A1 : Option Addr} {n1 c1 : Nat} {A2 : Option Addr} {n2 c2 : Nat} {r r' : Rs} {V V' : World}

theorem SP.blw {w0 W : World} {sb : Nat} {most : Int} {r : Rs} (h : SP w0 sb most r W) : Below w0.heap.size w0 W := by
  obtain ⟨A, c, h1, h2⟩ := h
  exact h2.blw

theorem SP.drewS {w0 W : World} {sb : Nat} {most : Int} {r : Rs} (h : SP w0 sb most r W) : SP w0 sb most r W.drew := h.below (Below.refl _ _).drew

theorem BRX.next (h : BRX w0 W sb most bt mt A1 n1 c1 A2 n2 c2 r V) (hb : Below V.heap.size V V') : BRX w0 W sb most bt mt A1 n1 c1 A2 n2 c2 r V' :=
  ⟨h.sp.below hb, h.md.trans (Mods.of_below hb), h.b.below hb h.b.lt, h.m.below hb h.m.lt, h.q.below hb h.q.lt, h.lt⟩

theorem BRX.ep (h : BRX w0 W sb most bt mt A1 n1 c1 A2 n2 c2 r V) (hm : Mods (Is sb) V V') (hs : SP w0 sb most r' V') : BRX w0 W sb most bt mt A1 n1 c1 A2 n2 c2 r' V' := by
  have := h.lt
  exact ⟨hs, h.md.trans hm, h.b.mods hm (by unfold Is; omega), h.m.mods hm (by unfold Is; omega), h.q.mods hm (by unfold Is; omega), h.lt⟩

end

theorem InsAt.pre {w : World} {B : Nat} {A : Option Addr} {xs : List In} (h : InsAt w B A xs) (k : Nat) : InsAt w B A (xs.take k) := fun hn => by
  obtain ⟨b, o, e, hb, hc⟩ := h (by intro e; subst e; simp at hn)
  refine ⟨b, o, e, hb, fun i x hx => hc i x ?_⟩
  rw [List.getElem?_take] at hx
  split at hx
  · exact hx
  · cases hx

theorem RL.modsB {α : Type} {f : α → List Value} {s : Nat} {T T' : TypeId} {w0 W W' : World} {sb : Nat} {v : Value} {l : List α} {cs : Array Value} (h : RL f s T w0 v l W) (hr : Row W sb T' cs) (hT : T ≠ T') (hb : w0.heap.size ≤ sb) (hm : Mods (Is sb) W W') : RL f s T w0 v l W' :=
  ⟨hm.ownS h.own (own_row_neB h.own hr hT), h.blw.trans (hm.below h.blw.size fun k hk => by rw [show k = sb from hk]; exact hb)⟩

/-- What the run carries behind the alignment. -/
structure BRZ (w0 W : World) (sb : Nat) (most : Int) (bt mt : Tm) (A1 : Option Addr) (n1 c1 : Nat) (A2 : Option Addr) (n2 c2 : Nat) (Ar : Option Addr) (cr : Nat) (R1 : List Rw) (r : Rs) (V : World) : Prop where
  x : BRX w0 W sb most bt mt A1 n1 c1 A2 n2 c2 r V
  rows : RL Rw.cells 6 141 w0 (.slice Ar R1.length cr) R1 V

section
variable {w0 W : World} {sb : Nat} {most : Int} {bt mt : Tm} {A1 : Option Addr} {n1 c1 : Nat} {A2 : Option Addr} {n2 c2 : Nat} {Ar : Option Addr} {cr : Nat} {R1 : List Rw} {r r' : Rs} {V V' : World}

theorem BRZ.next (h : BRZ w0 W sb most bt mt A1 n1 c1 A2 n2 c2 Ar cr R1 r V) (hb : Below V.heap.size V V') : BRZ w0 W sb most bt mt A1 n1 c1 A2 n2 c2 Ar cr R1 r V' := ⟨h.x.next hb, h.rows.next hb⟩

theorem BRZ.ep (h : BRZ w0 W sb most bt mt A1 n1 c1 A2 n2 c2 Ar cr R1 r V) (hsb : w0.heap.size ≤ sb) (hm : Mods (Is sb) V V') (hs : SP w0 sb most r' V') : BRZ w0 W sb most bt mt A1 n1 c1 A2 n2 c2 Ar cr R1 r' V' := by
  obtain ⟨A, c, hr, _⟩ := h.x.sp
  exact ⟨h.x.ep hm hs, h.rows.modsB hr (by decide) hsb hm⟩

end

set_option maxRecDepth 100000 in
set_option maxHeartbeats 16000000 in
theorem bcrun_any {R L : List Int} {w0 W : World} {sb : Nat} {most : Int} {A1 : Option Addr} {n1 c1 : Nat} {code : List In} {A2 : Option Addr} {n2 c2 : Nat} {mach : List Mi} {bt mt : Tm} {l : List Pr} {nR nS : Nat} (hRL : R.length * L.length ≤ 400000) (hS : SP w0 sb most ⟨l, 0, 0, 0, l.length⟩ W) (hsb : w0.heap.size ≤ sb)
    (hC : CS w0 A1 n1 c1 code) (hM : MS w0 A2 n2 c2 mach) (hls : Srt l) (hlR : PIn R L l) (hn1 : n1 ≤ 1000) (hn2 : n2 ≤ 2000) (hll : l.length ≤ 100000)
    (hops : ∀ rows, Chn code mach 0 0 rows → ∀ e ∈ blkOps code mach rows bt mt, e.In R L) (hmk : ∀ y ∈ mach, MiOk nR nS y) (hnR : nR ≤ 1000) (htm : TmOk nR 1000 mt) :
    Calls Tryz.prog 63 #[.pointer (some ⟨sb, 0, none⟩), .agg #[.slice A1 n1 c1, .int .i64 bt.kind, .int .i64 bt.a, .int .i64 bt.to, .int .i64 bt.el], .agg #[.slice A2 n2 c2, .int .i64 mt.kind, .int .i64 mt.a, .int .i64 mt.to, .int .i64 mt.el]] W (BRunP w0 sb most (checkE code mach bt mt (tmP bt mt) l most) W) := by
  have mixed : Tryz.prog.follows .mixedOrders = true := by kernel_rfl
  have hmf : ∀ (fn : Fn) (first cap : Array Value) (w : World), (Instr.makeFunc fn first cap).run Tryz.prog w = .ok (.func fn first cap) w := fun _ _ _ _ => rfl
  obtain ⟨RC, HRC⟩ : ∃ z, Hid (checkE code mach bt mt (tmP bt mt) l most = z) := ⟨_, rfl⟩
  rw [HRC.out]
  obtain ⟨Al, cl, hrow, hpl⟩ := id hS
  have hlt := hrow.lt
  have C1 : Hid (∀ V, Row V sb 117 #[.slice Al l.length cl, .int .i64 most, .int .i64 0, .int .i64 (l.length : Int)] → Calls Tryz.prog 80 #[.pointer (some ⟨sb, 0, none⟩), .int .i64 0] V (FitP l.length most 0 V)) := fun V h => bcfit_any sb Al l.length cl most 0 (l.length : Int) 0 V h
  have HRW := Lib.hid hrow
  have hA0 := Row.new W 49 #[.slice A1 n1 c1, .int .i64 bt.kind, .int .i64 bt.a, .int .i64 bt.to, .int .i64 bt.el]
  have hM0 := Row.new (W.alloc (.cells #[.slice A1 n1 c1, .int .i64 bt.kind, .int .i64 bt.a, .int .i64 bt.to, .int .i64 bt.el] 49)) 52 #[.slice A2 n2 c2, .int .i64 mt.kind, .int .i64 mt.a, .int .i64 mt.to, .int .i64 mt.el]
  have hQ0 := Row.new ((W.alloc (.cells #[.slice A1 n1 c1, .int .i64 bt.kind, .int .i64 bt.a, .int .i64 bt.to, .int .i64 bt.el] 49)).alloc (.cells #[.slice A2 n2 c2, .int .i64 mt.kind, .int .i64 mt.a, .int .i64 mt.to, .int .i64 mt.el] 52)) 119 #[.int .i64 0, .int .i64 0]
  rw [show (W.alloc (.cells #[.slice A1 n1 c1, .int .i64 bt.kind, .int .i64 bt.a, .int .i64 bt.to, .int .i64 bt.el] 49)).heap.size = W.heap.size + 1 by simp] at hM0
  rw [show ((W.alloc (.cells #[.slice A1 n1 c1, .int .i64 bt.kind, .int .i64 bt.a, .int .i64 bt.to, .int .i64 bt.el] 49)).alloc (.cells #[.slice A2 n2 c2, .int .i64 mt.kind, .int .i64 mt.a, .int .i64 mt.to, .int .i64 mt.el] 52)).heap.size = W.heap.size + 1 + 1 by simp] at hQ0
  have hb0 := (((Below.refl W.heap.size W).alloc (Nat.le_refl _) (.cells #[.slice A1 n1 c1, .int .i64 bt.kind, .int .i64 bt.a, .int .i64 bt.to, .int .i64 bt.el] 49)).alloc (by simp) (.cells #[.slice A2 n2 c2, .int .i64 mt.kind, .int .i64 mt.a, .int .i64 mt.to, .int .i64 mt.el] 52)).alloc (by simp; omega) (.cells #[.int .i64 0, .int .i64 0] 119)
  have HK0 : Hid (BRX w0 W sb most bt mt A1 n1 c1 A2 n2 c2 ⟨l, 0, 0, 0, l.length⟩ (((W.alloc (.cells #[.slice A1 n1 c1, .int .i64 bt.kind, .int .i64 bt.a, .int .i64 bt.to, .int .i64 bt.el] 49)).alloc (.cells #[.slice A2 n2 c2, .int .i64 mt.kind, .int .i64 mt.a, .int .i64 mt.to, .int .i64 mt.el] 52)).alloc (.cells #[.int .i64 0, .int .i64 0] 119))) :=
    ⟨hS.below hb0, Mods.of_below hb0, (hA0.alloc _).alloc _, hM0.alloc _, hQ0, hlt⟩
  have HR0 := Lib.hid (hrow.below hb0 hlt)
  have HC := Lib.hid hC
  have HM := Lib.hid hM
  have hcl := hC.len
  have hml := hM.len
  have HLS := Lib.hid hls
  have HLR := Lib.hid hlR
  have HOPS := Lib.hid hops
  have HMK := Lib.hid hmk
  have HTM := Lib.hid htm
  have HSB := Lib.hid hsb
  have HW0 := Lib.hid hpl.blw
  clear hC hM hls hlR hops hmk htm hA0 hM0 hQ0 hS hrow hpl hb0 hsb HRW
  go_enter_defers Tryz.func63, Tryz.ntmps63
  go_upto_region 2 with fail
  generalize (((W.alloc (.cells #[.slice A1 n1 c1, .int .i64 bt.kind, .int .i64 bt.a, .int .i64 bt.to, .int .i64 bt.el] 49)).alloc (.cells #[.slice A2 n2 c2, .int .i64 mt.kind, .int .i64 mt.a, .int .i64 mt.to, .int .i64 mt.el] 52)).alloc (.cells #[.int .i64 0, .int .i64 0] 119)) = W1 at *
  have C := Lib.hid (C1.out _ HR0.out)
  go_wp2_with fail
  refine C.out.mono ?_
  rintro e W2 ⟨he, hG⟩
  have HK2 := Lib.hid (HK0.out.next hG.below)
  have HR2 := Lib.hid (hG.row HR0.out)
  clear hG C C1 HK0 HR0
  by_cases hmo : most < (l.length : Int)
  · rw [if_pos hmo] at he
    subst he
    have hrc := HRC.out
    rw [checkE, if_pos hmo] at hrc
    subst hrc
    go_wp2_with fail
    exact bcleave_run (RC := (⟨[], 24, 0, 0, l.length⟩ : Rs)) rfl HK2.out.q (by have := HK2.out.lt; omega) (by omega) HW0.out.size (show ¬ (24 : Int) = 0 by decide) ⟨_, HR2.out⟩ HK2.out.sp.blw HK2.out.md
  · have hz : ¬ most < (l.length : Int) := hmo
    rw [if_neg hmo] at he
    subst he
    have HMN := Lib.hid hmo
    obtain ⟨R1, R2, R3, HR⟩ : ∃ x y z, Hid (alC code mach = (x, y, z)) := ⟨_, _, _, rfl⟩
    obtain ⟨ok, HOK⟩ : ∃ z, Hid (tmP bt mt = z) := ⟨_, rfl⟩
    have hbw := HK2.out.sp.blw
    have C := Lib.hid (bcrows_any (HC.out.below hbw) (HM.out.below hbw) (by omega) (by omega) HR.out HOK.out)
    have b0 := HK2.out.b.cell 0; have b1 := HK2.out.b.cell 1; have b2 := HK2.out.b.cell 2; have b3 := HK2.out.b.cell 3; have b4 := HK2.out.b.cell 4
    have m0 := HK2.out.m.cell 0; have m1 := HK2.out.m.cell 1; have m2 := HK2.out.m.cell 2; have m3 := HK2.out.m.cell 3; have m4 := HK2.out.m.cell 4
    simp only [List.getElem?_toArray, List.getElem?_cons_zero, List.getElem?_cons_succ] at b0 b1 b2 b3 b4 m0 m1 m2 m3 m4
    clear hbw hz hmo
    go_wp2_with fail
    refine C.out.mono ?_
    rintro e W3 h
    clear C b0 b1 b2 b3 b4 m0 m1 m2 m3 m4
    rcases h with ⟨hz3, rfl, hb⟩ | ⟨hz3, hok, rfl, hb⟩ | ⟨hz3, hok, Ar, cr, rfl, hP⟩
    · have HK3 := Lib.hid (HK2.out.next hb)
      have HR3 := Lib.hid (HR2.out.below hb HR2.out.lt)
      have hrc := HRC.out
      rw [checkE, if_neg (show ¬ most < (l.length : Int) by have := HMN.out; omega), HR.out] at hrc
      dsimp only at hrc
      rw [if_pos hz3] at hrc
      subst hrc
      have e20 : R3 = 20 := by
        rcases alC_out code mach with ⟨rr, hr, _⟩ | ⟨y, hr, _⟩
        · have := triple (HR.out.symm.trans hr)
          exact absurd this.2.2 hz3
        · exact (triple (HR.out.symm.trans hr)).2.2
      subst e20
      clear hb HK2 HR2
      go_wp2_with fail
      exact bcleave_run (RC := (⟨[], 20, R2, 0, l.length⟩ : Rs)) rfl HK3.out.q (by have := HK3.out.lt; omega) (by omega) HW0.out.size (show ¬ (20 : Int) = 0 by decide) ⟨_, HR3.out⟩ HK3.out.sp.blw HK3.out.md
    · have HK3 := Lib.hid (HK2.out.next hb)
      have HR3 := Lib.hid (HR2.out.below hb HR2.out.lt)
      have hrc := HRC.out
      rw [checkE, if_neg (show ¬ most < (l.length : Int) by have := HMN.out; omega), HR.out] at hrc
      dsimp only at hrc
      rw [if_neg (by simp [hz3]), HOK.out, if_pos hok, hml] at hrc
      subst hrc
      clear hb HK2 HR2
      go_wp2_with fail
      exact bcleave_run (RC := (⟨[], 20, n2, 0, l.length⟩ : Rs)) rfl HK3.out.q (by have := HK3.out.lt; omega) (by omega) HW0.out.size (show ¬ (20 : Int) = 0 by decide) ⟨_, HR3.out⟩ HK3.out.sp.blw HK3.out.md
    · subst hz3 hok
      have hkind : bt.kind = mt.kind := by
        have := HOK.out
        simp only [tmP, Bool.and_eq_true, beq_iff_eq] at this
        exact this.1.1
      have HTK : Hid ((bt.kind = 1 ∨ bt.kind = 2 ∨ bt.kind = 3) ∧ (¬ bt.kind = 1 → 0 ≤ mt.a ∧ mt.a ≤ 1000000)) := by
        rw [hkind]
        rcases HTM.out with ⟨h, _⟩ | ⟨h, h1, h2, _⟩ | ⟨h, h1, h2⟩
        · exact ⟨.inl h, fun h' => absurd h h'⟩
        · exact ⟨.inr (.inl h), fun _ => ⟨h1, by omega⟩⟩
        · exact ⟨.inr (.inr h), fun _ => ⟨h1, by omega⟩⟩
      have HK3 : Hid (BRZ w0 W sb most bt mt A1 n1 c1 A2 n2 c2 Ar cr R1 ⟨l, 0, 0, 0, l.length⟩ W3) := ⟨HK2.out.next hP.blw, hP.base HK2.out.sp.blw⟩
      have HCH : Hid (Chn code mach 0 0 R1) := by
        rcases alC_out code mach with ⟨rr, hr, hch⟩ | ⟨y, hr, _⟩
        · have := triple (HR.out.symm.trans hr)
          rw [this.1]
          exact hch
        · exact absurd (triple (HR.out.symm.trans hr)).2.2 (by decide)
      obtain ⟨tops, htops⟩ : ∃ z, z = (if bt.kind = 1 then [] else [EOp.us bt.a mt.a mach.length]) := ⟨_, rfl⟩
      obtain ⟨RA, HRA⟩ : ∃ z, Hid (foldE most (R1.flatMap (rowOps code mach)) ⟨l, 0, 0, 0, l.length⟩ = z) := ⟨_, rfl⟩
      have HFIN : Hid (RC = if (foldE most tops RA).err = 0 then { foldE most tops RA with at_ := mach.length } else foldE most tops RA) := by
        have hrc := HRC.out
        rw [checkE, if_neg (show ¬ most < (l.length : Int) by have := HMN.out; omega), HR.out] at hrc
        dsimp only at hrc
        rw [if_neg (by decide), HOK.out, if_neg (by decide), runE, blkOps, foldE_append, ← htops, HRA.out] at hrc
        exact hrc.symm
      have HERR : Hid (¬ RA.err = 0 → RC = RA) := fun h => by rw [HFIN.out, foldE_err h, if_neg h]
      have HOPSR : Hid (∀ e ∈ R1.flatMap (rowOps code mach), e.In R L) := fun e he => HOPS.out R1 HCH.out e (List.mem_append_left _ he)
      have HTOPS := Lib.hid htops
      have hrl := HCH.out.len
      rw [hcl] at hrl
      have hrp : 0 < R1.length := List.length_pos_iff.2 HCH.out.ne
      obtain ⟨ob, oo, rfl, _, _⟩ := HK3.out.rows.rs.see.at_ hrp
      have HRI0 : Hid (RI R L 0 ⟨l, 0, 0, 0, l.length⟩) := ⟨HLS.out, HLR.out, by show l.length ≤ _; omega, by show l.length ≤ _; omega, Nat.zero_le _⟩
      clear HRC hkind hP HK2 HR2 HR htops HOPS HLS HLR HTM
      go_wp2
      go_loopg [16] R1.length (fun g v16 wr => ∃ (j i k s : Nat) (r : Rs), j + g = R1.length ∧ v16 = .int .i64 j ∧ i ≤ n1 + 1 ∧ k ≤ n2 + 1 ∧ s ≤ i + 3 * k ∧ Hid (j < R1.length → Chn code mach i k (R1.drop j)) ∧ Hid (foldE most ((R1.drop j).flatMap (rowOps code mach)) r = RA) ∧ Hid (r.err = 0) ∧ Hid (RI R L s r) ∧ Hid (BRZ w0 W sb most bt mt A1 n1 c1 A2 n2 c2 (some ⟨ob, oo, none⟩) cr R1 r wr))
      case atStart => exact ⟨0, 0, 0, 0, ⟨l, 0, 0, 0, l.length⟩, by omega, by go_num, by omega, by omega, by omega, fun _ => HCH.out, HRA.out, rfl, HRI0.out, HK3.out⟩
      case round =>
        have HRA9 := HRA
        clear HK3 HRA HRI0
        obtain ⟨j, i, k, s, r0, hg, rfl, hin, hkn, hsn, HCJ, HFJ, H0, HRI, HK⟩ := hrel
        by_cases hjl : j < R1.length
        · have hjz : (j : Int) < (R1.length : Int) := by omega
          have hch := HCJ.out hjl
          have hrow := List.drop_eq_getElem_cons hjl
          obtain ⟨b', o', e', hbl, hx⟩ := HK.out.rows.rs.see.at_ hjl
          injection e' with e'
          injection e' with e1 e2
          subst e1 e2
          have hwin : ∀ e ∈ rowOps code mach R1[j], e.In R L := fun e he => HOPSR.out e (List.mem_flatMap.2 ⟨R1[j], List.getElem_mem hjl, he⟩)
          rw [hrow] at hch
          have hfj := HFJ.out
          rw [hrow, List.flatMap_cons, foldE_append] at hfj
          obtain ⟨rest, hrest⟩ : ∃ z, z = R1.drop (j + 1) := ⟨_, rfl⟩
          rw [← hrest] at hch hfj
          have HREST := Lib.hid hrest
          obtain ⟨row, hrw⟩ : ∃ z, z = R1[j] := ⟨_, rfl⟩
          rw [← hrw] at hch hfj hx hwin
          clear hrest hrw hrow HFJ HCJ
          obtain ⟨ct, mt_, sI, mI, tl, hre, hict, hctn, hkmt, hmtn, hro, hcase⟩ := hch.head
          subst hre
          rw [hro, foldE_append, foldE_append] at hfj
          rw [hro] at hwin
          have HCASE := Lib.hid hcase
          have HFJ := Lib.hid hfj
          have HIN := Lib.hid hwin
          obtain ⟨f0, f1, f2, f3, f4, f5⟩ := hx
          dsimp only at f0 f1 f2 f3 f4 f5
          have q1 : code.length ≤ c1 := by have := HC.out.cap; omega
          have q2 : mach.length ≤ c2 := by have := HM.out.cap; omega
          have q3 : c1 ≤ maxLen := HC.out.cmx
          have q4 : c2 ≤ maxLen := HM.out.cmx
          clear hch hfj hwin hcase hro
          go_upto_region 6 with fail
          have HKX := Lib.hid (HK.out.next ((Below.refl _ wr).alloc (Nat.le_refl _) (.cells #[.int .i64 (i : Int), .int .i64 (ct : Int), .int .i64 (k : Int), .int .i64 (mt_ : Int), .int .i64 sI, .int .i64 mI] 141)))
          have HXB := Lib.hid (Row.new wr 141 #[.int .i64 (i : Int), .int .i64 (ct : Int), .int .i64 (k : Int), .int .i64 (mt_ : Int), .int .i64 sI, .int .i64 mI])
          have hxs : ¬ wr.heap.size = sb := by
            obtain ⟨_, _, hr, _⟩ := HK.out.x.sp
            have := hr.lt
            omega
          clear f0 f1 f2 f3 f4 f5 HK
          generalize (wr.alloc (.cells #[.int .i64 (i : Int), .int .i64 (ct : Int), .int .i64 (k : Int), .int .i64 (mt_ : Int), .int .i64 sI, .int .i64 mI] 141)) = V4 at *
          generalize wr.heap.size = xb at *
          obtain ⟨A3, hite3⟩ : ∃ z, (if c1 = i then A1 else A1.map fun x => x.add (i * 5)) = z := ⟨_, rfl⟩
          have hA3 : InsAt w0 w0.heap.size A3 ((code.drop i).take (ct - i)) := by
            rw [← hite3]
            exact (HC.out.see.cut q1).pre _
          have C := Lib.hid (bccopies_any (c := c1 - i) (n := ct - i) (k := k) hRL HKX.out.x.sp.drewS HSB.out H0.out HRI.out (by omega) (fun x hx => HIN.out _ (List.mem_append_left _ (List.mem_append_left _ (List.mem_map.2 ⟨x, hx, rfl⟩)))) hA3 (by simp; omega))
          have b0 := HKX.out.x.b.cell 0
          have x0 := HXB.out.cell 0; have x1 := HXB.out.cell 1; have x2 := HXB.out.cell 2
          simp only [List.getElem?_toArray, List.getElem?_cons_zero, List.getElem?_cons_succ] at b0 x0 x1 x2
          clear hA3
          have r1 : ct ≤ c1 := by omega
          have r2 : mt_ ≤ c2 := by omega
          go_still_tail 10, (by kernel_rfl)
          change wpList _ _ _ _ _ V4.drew
          have HKD := Lib.hid (HKX.out.next (Below.refl _ V4).drew)
          have HXD := Lib.hid (HXB.out.drew)
          clear b0 x0 x1 x2 HKX HXB
          generalize V4.drew = V5 at *
          go_wp2_with fail
          refine C.out.mono ?_
          have hri := RI.fold hRL most (((code.drop i).take (ct - i)).map fun x => EOp.cp x.d x.a k) s r0 HRI.out (fun e he => HIN.out e (List.mem_append_left _ (List.mem_append_left _ he)))
          rw [show (((code.drop i).take (ct - i)).map fun x => EOp.cp x.d x.a k).length = ct - i by simp; omega] at hri
          have HRI1 := Lib.hid hri
          clear C hri HRI H0 hite3
          generalize foldE most (((code.drop i).take (ct - i)).map fun x => EOp.cp x.d x.a k) r0 = r1 at *
          rintro e W5 ⟨hM, h⟩
          rcases h with ⟨he0, rfl, hS2⟩ | ⟨he, rfl, ⟨v9, hR9⟩, hb9⟩
          rotate_left
          · have HE := Lib.hid he
            have HR9 := Lib.hid hR9
            have HM9 := Lib.hid (HKD.out.x.md.trans hM)
            have HB9 := Lib.hid hb9
            have hq9 : Row W5 (W.heap.size + 1 + 1) 119 #[.int .i64 0, .int .i64 0] := HKD.out.x.q.mods hM (by have := HKD.out.x.lt; unfold Is; omega)
            have HQ9 := Lib.hid hq9
            have hra : RA = r1 := (by rw [← HFJ.out]; simp only [foldE_err he])
            have hrc : RC = r1 := (HERR.out (by rw [hra]; exact he)).trans hra
            clear he hR9 hM hb9 hq9 hra
            subst hrc
            go_wp2_with fail
            exact bcleave_run (RC := RC) rfl HQ9.out (by have := HKD.out.x.lt; omega) (by omega) HW0.out.size HE.out ⟨_, HR9.out⟩ HB9.out HM9.out
          have HE1 := Lib.hid he0
          have HK5 := Lib.hid (HKD.out.ep HSB.out hM hS2)
          have HX5 := Lib.hid (HXD.out.mods hM hxs)
          clear he0 hM hS2 HKD HXD
          obtain ⟨A4, hite4⟩ : ∃ z, (if c2 = k then A2 else A2.map fun x => x.add (k * 7)) = z := ⟨_, rfl⟩
          have hA4 : MisAt w0 w0.heap.size A4 ((mach.drop k).take (mt_ - k)) := by
            rw [← hite4]
            exact (HM.out.see.cut q2).take _
          have C := Lib.hid (bcmoves_any (c := c2 - k) (n := mt_ - k) (k0 := k) hRL HK5.out.x.sp.drewS HSB.out HE1.out HRI1.out (by omega) (by omega) (fun e he => HIN.out e (List.mem_append_left _ (List.mem_append_right _ he))) hA4 (by simp; omega))
          have m0 := HK5.out.x.m.cell 0
          have x2 := HX5.out.cell 2; have x3 := HX5.out.cell 3
          simp only [List.getElem?_toArray, List.getElem?_cons_zero, List.getElem?_cons_succ] at m0 x2 x3
          clear hA4
          go_wp2_with fail
          go_still_tail 10, (by kernel_rfl)
          change wpList _ _ _ _ _ W5.drew
          have HKD := Lib.hid (HK5.out.next (Below.refl _ W5).drew)
          have HXD := Lib.hid (HX5.out.drew)
          clear m0 x2 x3 HK5 HX5
          generalize W5.drew = V5 at *
          go_wp2_with fail
          refine C.out.mono ?_
          have hri := RI.fold hRL most (mvOps ((mach.drop k).take (mt_ - k)) k) _ r1 HRI1.out (fun e he => HIN.out e (List.mem_append_left _ (List.mem_append_right _ he)))
          rw [show (mvOps ((mach.drop k).take (mt_ - k)) k).length = mt_ - k by rw [mvOps_len]; simp; omega] at hri
          have HRI2 := Lib.hid hri
          clear C hri HRI1 HE1 hite4
          generalize foldE most (mvOps ((mach.drop k).take (mt_ - k)) k) r1 = r2 at *
          rintro e W5 ⟨hM, h⟩
          rcases h with ⟨he0, rfl, hS2⟩ | ⟨he, rfl, ⟨v9, hR9⟩, hb9⟩
          rotate_left
          · have HE := Lib.hid he
            have HR9 := Lib.hid hR9
            have HM9 := Lib.hid (HKD.out.x.md.trans hM)
            have HB9 := Lib.hid hb9
            have hq9 : Row W5 (W.heap.size + 1 + 1) 119 #[.int .i64 0, .int .i64 0] := HKD.out.x.q.mods hM (by have := HKD.out.x.lt; unfold Is; omega)
            have HQ9 := Lib.hid hq9
            have hra : RA = r2 := (by rw [← HFJ.out]; simp only [foldE_err he])
            have hrc : RC = r2 := (HERR.out (by rw [hra]; exact he)).trans hra
            clear he hR9 hM hb9 hq9 hra
            subst hrc
            go_wp2_with fail
            exact bcleave_run (RC := RC) rfl HQ9.out (by have := HKD.out.x.lt; omega) (by omega) HW0.out.size HE.out ⟨_, HR9.out⟩ HB9.out HM9.out
          have HE2 := Lib.hid he0
          have HK6 := Lib.hid (HKD.out.ep HSB.out hM hS2)
          have HX6 := Lib.hid (HXD.out.mods hM hxs)
          clear he0 hM hS2 HKD HXD
          have x4 := HX6.out.cell 4; have x5 := HX6.out.cell 5
          simp only [List.getElem?_toArray, List.getElem?_cons_zero, List.getElem?_cons_succ] at x4 x5
          rcases HCASE.out with ⟨hneg, htl, hrs⟩ | ⟨hc1, hm1, hs1, hm2, htl, hsm, hnx⟩
          · have hfj := HFJ.out
            rw [htl, foldE_nil, HREST.out] at hfj
            have HFJ2 := Lib.hid hfj
            have HRS := Lib.hid (HREST.out.symm.trans hrs)
            have hnn : ¬ 0 ≤ sI := by omega
            clear hfj hrs htl HCASE HFJ
            go_wp2_with fail
            go_wp2
            go_roundg (R1.length - (j + 1))
            case measure => omega
            case rel =>
              exact ⟨j + 1, ct, mt_, _, r2, by omega, by go_num, by omega, by omega, by omega, (fun h => by
                have := congrArg List.length HRS.out
                simp at this
                omega), HFJ2.out, HE2.out, HRI2.out, HK6.out⟩
          · subst hs1 hm2 htl
            obtain ⟨u, hu⟩ : ∃ z, z = code[ct] := ⟨_, rfl⟩
            obtain ⟨v, hv⟩ : ∃ z, z = mach[mt_] := ⟨_, rfl⟩
            obtain ⟨b1, o1, rfl, hb1, hx1⟩ := HC.out.see.at_ hc1
            obtain ⟨b2, o2, rfl, hb2, hx2⟩ := HM.out.see.at_ hm1
            have hvok : MiOk nR nS v := HMK.out v (hv ▸ List.getElem_mem hm1)
            have hfj := HFJ.out
            have hwin := HIN.out
            rw [← hu] at hsm hx1 hfj hwin
            rw [← hv] at hsm hx2 hfj hwin
            have hbd := mi_bounds hvok hsm
            have hbw := HK6.out.x.sp.blw
            have d0 := (hbw.cell (p := ⟨b1, _, none⟩) hb1).trans hx1.c0
            have d1 := (hbw.cell (p := ⟨b1, _, none⟩) hb1).trans hx1.c1
            have d2 := (hbw.cell (p := ⟨b1, _, none⟩) hb1).trans hx1.c2
            have d3 := (hbw.cell (p := ⟨b1, _, none⟩) hb1).trans hx1.c3
            have d4 := (hbw.cell (p := ⟨b1, _, none⟩) hb1).trans hx1.c4
            have y0 := (hbw.cell (p := ⟨b2, _, none⟩) hb2).trans hx2.c0
            have y1 := (hbw.cell (p := ⟨b2, _, none⟩) hb2).trans hx2.c1
            have y2 := (hbw.cell (p := ⟨b2, _, none⟩) hb2).trans hx2.c2
            have y3 := (hbw.cell (p := ⟨b2, _, none⟩) hb2).trans hx2.c3
            have y4 := (hbw.cell (p := ⟨b2, _, none⟩) hb2).trans hx2.c4
            have y5 := (hbw.cell (p := ⟨b2, _, none⟩) hb2).trans hx2.c5
            have y6 := (hbw.cell (p := ⟨b2, _, none⟩) hb2).trans hx2.c6
            have C := Lib.hid (bcinstr_any (u := u) (v := v) (k := mt_) hRL HK6.out.x.sp.drewS HSB.out HE2.out HRI2.out (by omega) (fun e he => hwin e (List.mem_append_right _ he)) ⟨fun h => by have := hbd.1 h; omega, fun h => by have := hbd.2.1 h; omega, fun h => by have := hbd.2.2 h; omega⟩)
            have hri := RI.fold hRL most (insOps u v mt_) _ r2 HRI2.out (fun e he => hwin e (List.mem_append_right _ he))
            have hil := insOps_len u v mt_
            have HRI3 := Lib.hid (hri.mono (show _ ≤ ct + 1 + 3 * (mt_ + 1) by omega))
            have HFJ3 := Lib.hid hfj
            have HNX := Lib.hid (HREST.out ▸ hnx)
            have b0 := HK6.out.x.b.cell 0
            have m0 := HK6.out.x.m.cell 0
            simp only [List.getElem?_toArray, List.getElem?_cons_zero] at b0 m0
            have hctz : (ct : Int) < (n1 : Int) := by omega
            have hmtz : (mt_ : Int) < (n2 : Int) := by omega
            have hnn : (0 : Int) ≤ (ct : Int) := by omega
            clear hbw hx1 hx2 hvok hfj hwin hsm hu hv hbd hri hil hnx HCASE HFJ HIN HRI2 HE2
            generalize foldE most (insOps u v mt_) r2 = r3 at *
            go_upto_region 9 with fail
            go_still_tail 15, (by kernel_rfl)
            change wpList _ _ _ _ _ W5.drew
            have HKD := Lib.hid (HK6.out.next (Below.refl _ W5).drew)
            clear b0 m0 x4 x5 d0 d1 d2 d3 d4 y0 y1 y2 y3 y4 y5 y6 HK6 HX6
            generalize W5.drew = V6 at *
            go_wp2_with fail
            refine C.out.mono ?_
            clear C
            rintro e W5 ⟨hM, h⟩
            rcases h with ⟨he0, rfl, hS2⟩ | ⟨he, rfl, ⟨v9, hR9⟩, hb9⟩
            rotate_left
            · have HE := Lib.hid he
              have HR9 := Lib.hid hR9
              have HM9 := Lib.hid (HKD.out.x.md.trans hM)
              have HB9 := Lib.hid hb9
              have hq9 : Row W5 (W.heap.size + 1 + 1) 119 #[.int .i64 0, .int .i64 0] := HKD.out.x.q.mods hM (by have := HKD.out.x.lt; unfold Is; omega)
              have HQ9 := Lib.hid hq9
              have hra : RA = r3 := (by rw [← HFJ3.out]; simp only [foldE_err he])
              have hrc : RC = r3 := (HERR.out (by rw [hra]; exact he)).trans hra
              clear he hR9 hM hb9 hq9 hra
              subst hrc
              go_wp2_with fail
              exact bcleave_run (RC := RC) rfl HQ9.out (by have := HKD.out.x.lt; omega) (by omega) HW0.out.size HE.out ⟨_, HR9.out⟩ HB9.out HM9.out
            have HE3 := Lib.hid he0
            have HK7 := Lib.hid (HKD.out.ep HSB.out hM hS2)
            have hfj := HFJ3.out
            rw [HREST.out] at hfj
            have HFJ4 := Lib.hid hfj
            clear he0 hM hS2 HKD hfj HFJ3
            go_wp2_with fail
            go_wp2
            go_roundg (R1.length - (j + 1))
            case measure => omega
            case rel => exact ⟨j + 1, ct + 1, mt_ + 1, _, r3, by omega, by go_num, by omega, by omega, Nat.le_refl _, fun _ => HNX.out, HFJ4.out, HE3.out, HRI3.out, HK7.out⟩
        · have hjz : ¬ (j : Int) < (R1.length : Int) := by omega
          have hdn : R1.drop j = [] := List.drop_eq_nil_of_le (by omega)
          have hfj := HFJ.out
          rw [hdn, List.flatMap_nil, foldE_nil] at hfj
          subst hfj
          have C := Lib.hid (bcterm_any (k := n2) hRL HK.out.x.sp HSB.out H0.out HRI.out (by omega) HTK.out.1 HTK.out.2)
          rw [← hml, ← HTOPS.out] at C
          have b1 := HK.out.x.b.cell 1; have b2 := HK.out.x.b.cell 2; have b3 := HK.out.x.b.cell 3; have b4 := HK.out.x.b.cell 4
          have m0 := HK.out.x.m.cell 0; have m1 := HK.out.x.m.cell 1; have m2 := HK.out.x.m.cell 2; have m3 := HK.out.x.m.cell 3; have m4 := HK.out.x.m.cell 4
          simp only [List.getElem?_toArray, List.getElem?_cons_zero, List.getElem?_cons_succ] at b1 b2 b3 b4 m0 m1 m2 m3 m4
          generalize foldE most tops r0 = r2 at *
          rw [hml] at C HFIN
          clear hdn HFJ HRI H0 HERR HRA9 HTOPS
          go_wp2_with fail
          refine C.out.mono ?_
          clear C b1 b2 b3 b4 m0 m1 m2 m3 m4
          rintro e W5 ⟨hM, h⟩
          rcases h with ⟨he0, rfl, hS2⟩ | ⟨he, rfl, ⟨v9, hR9⟩, hb9⟩
          · have hrc := HFIN.out
            rw [if_pos he0] at hrc
            have HRC := Lib.hid hrc
            have HE := Lib.hid he0
            have HK5 := Lib.hid (HK.out.ep HSB.out hM hS2)
            clear hrc he0 HFIN hM hS2 HK
            have m0 := HK5.out.x.m.cell 0
            have g0 := HK5.out.x.q.frozen 0; have g1 := HK5.out.x.q.frozen 1
            have q0 := HK5.out.x.q.cell 0; have q1 := HK5.out.x.q.cell 1
            simp only [List.getElem?_toArray, List.getElem?_cons_zero, List.getElem?_cons_succ] at m0 q0 q1
            go_wp2
            have hmq : Mods (Is (W.heap.size + 1 + 1)) W5 ((W5.setCell ⟨W.heap.size + 1 + 1, 0, none⟩ (.int .i64 0)).setCell ⟨W.heap.size + 1 + 1, 1, none⟩ (.int .i64 (n2 : Int))) := ((Mods.refl _ W5).put 0 _).put 1 _
            have hlt2 := HK5.out.x.lt
            have hw0 := HW0.out.size
            refine bcleave_end (RC := RC) rfl ?_ (run_isq HK5.out.x.md (by omega) hmq) ?_
            · rw [HRC.out]
              show Row _ _ _ #[.int .i64 r2.err, .int .i64 (n2 : Int)]
              rw [HE.out]
              exact HK5.out.x.q.put2 _ _
            · rw [HRC.out]
              obtain ⟨A9, c9, h1, h2⟩ := HK5.out.x.sp
              exact ⟨A9, c9, h1.mods hmq (by unfold Is; omega), h2.mods HK5.out.x.q (by decide) (by omega) hmq⟩
          · have hrc := HFIN.out
            rw [if_neg he] at hrc
            have HE := Lib.hid he
            have HR9 := Lib.hid hR9
            have HM9 := Lib.hid (HK.out.x.md.trans hM)
            have HB9 := Lib.hid hb9
            have HQ9 : Hid (Row W5 (W.heap.size + 1 + 1) 119 #[.int .i64 0, .int .i64 0]) := HK.out.x.q.mods hM (by have := HK.out.x.lt; unfold Is; omega)
            clear he hR9 hM hb9 HFIN
            subst hrc
            go_wp2_with fail
            exact bcleave_run (RC := RC) rfl HQ9.out (by have := HK.out.x.lt; omega) (by omega) HW0.out.size HE.out ⟨_, HR9.out⟩ HB9.out HM9.out

end Go.Proofs.YtcoehkphdfejjaaGreat

/-
  The program's Check; the fixed examples; Check over what the walks carry.
-/
namespace Go.Proofs.YtcoehkphdfejjaaGreat
open Go.RowKit
set_option linter.unusedVariables false
set_option linter.unusedSimpArgs false

theorem grow_none {r : Rs} {l : List Pr} {most : Int} {k : Nat} (h0 : r.err = 0) (h : ¬ (r.grow l most k).err = 0) : (r.grow l most k).out = [] := by
  unfold Rs.grow at h ⊢
  by_cases hm : most < (l.length : Int)
  · rw [if_pos hm]
  · rw [if_neg hm] at h
    exact absurd h0 h

theorem stepE_none {most : Int} {r : Rs} {e : EOp} (h0 : r.err = 0) (h : ¬ (stepE most r e).err = 0) : (stepE most r e).out = [] := by
  unfold stepE at h ⊢
  rw [if_pos h0] at h ⊢
  cases e with
  | cp d a k => exact grow_none h0 h
  | mv t s k => exact grow_none h0 h
  | df d g k => exact grow_none h0 h
  | us v g k =>
    dsimp only at h ⊢
    unfold Rs.use at h ⊢
    by_cases hm : hasP r.out (v, 2 * g) = true
    · rw [if_pos hm] at h
      exact absurd h0 h
    · rw [if_neg hm]

theorem foldE_none {most : Int} : ∀ (es : List EOp) (r : Rs), r.err = 0 → ¬ (foldE most es r).err = 0 → (foldE most es r).out = []
  | [], r, h0, h => absurd h0 h
  | e :: es, r, h0, h => by
    rw [foldE_cons] at h ⊢
    by_cases h1 : (stepE most r e).err = 0
    · exact foldE_none es _ h1 h
    · rw [foldE_err h1] at h ⊢
      exact stepE_none h0 h1

/-- With an error there is no set. -/
theorem checkE_none {code : List In} {mach : List Mi} {bt mt : Tm} {ok : Bool} {l : List Pr} {most : Int} (h : ¬ (checkE code mach bt mt ok l most).err = 0) : (checkE code mach bt mt ok l most).out = [] := by
  unfold checkE at h ⊢
  split
  · rfl
  · rename_i hm
    rw [if_neg hm] at h
    obtain ⟨R1, R2, R3, hR⟩ : ∃ x y z, alC code mach = (x, y, z) := ⟨_, _, _, rfl⟩
    rw [hR] at h ⊢
    dsimp only at h ⊢
    split
    · rfl
    · rename_i h3
      rw [if_neg h3] at h
      split
      · rfl
      · rename_i h4
        rw [if_neg h4] at h
        unfold runE at h ⊢
        dsimp only at h ⊢
        split
        · rename_i h5
          rw [if_pos h5] at h
          exact absurd h5 h
        · rename_i h5
          exact foldE_none _ _ rfl h5

set_option maxRecDepth 100000 in
set_option maxHeartbeats 8000000 in
theorem bcheck_any {A1 : Option Addr} {n1 c1 : Nat} {code : List In} {A2 : Option Addr} {n2 c2 : Nat} {mach : List Mi} {bt mt : Tm} {A : Option Addr} {l : List Pr} {c nR nS : Nat} {most : Int} {w : World} {R L : List Int}
    (hC : CS w A1 n1 c1 code) (hM : MS w A2 n2 c2 mach) (hl : Sees w w.heap.size A (prs l)) (hls : Srt l) (hlR : PIn R L l) (hRL : R.length * L.length ≤ 400000) (hn1 : n1 ≤ 1000) (hn2 : n2 ≤ 2000) (hll : l.length ≤ 100000)
    (hops : ∀ rows, Chn code mach 0 0 rows → ∀ e ∈ blkOps code mach rows bt mt, e.In R L) (hmk : ∀ y ∈ mach, MiOk nR nS y) (hnR : nR ≤ 1000) (htm : TmOk nR 1000 mt) :
    Calls Tryz.prog 48 #[.agg #[.slice A1 n1 c1, .int .i64 bt.kind, .int .i64 bt.a, .int .i64 bt.to, .int .i64 bt.el], .agg #[.slice A2 n2 c2, .int .i64 mt.kind, .int .i64 mt.a, .int .i64 mt.to, .int .i64 mt.el], .slice A l.length c, .int .i64 most] w fun x w' => ∃ A' c', x = .returned (.agg #[.slice A' ((checkE code mach bt mt (tmP bt mt) l most)).out.length c', .int .i64 ((checkE code mach bt mt (tmP bt mt) l most)).err, .int .i64 (((checkE code mach bt mt (tmP bt mt) l most)).at_ : Int), .int .i64 (((checkE code mach bt mt (tmP bt mt) l most)).steps : Int), .int .i64 (((checkE code mach bt mt (tmP bt mt) l most)).largest : Int)]) ∧ PL w (.slice A' (checkE code mach bt mt (tmP bt mt) l most).out.length c') (checkE code mach bt mt (tmP bt mt) l most).out w' := by
  have hA0 := Row.new w 49 #[.slice A1 n1 c1, .int .i64 bt.kind, .int .i64 bt.a, .int .i64 bt.to, .int .i64 bt.el]
  have hM0 := Row.new (w.alloc (.cells #[.slice A1 n1 c1, .int .i64 bt.kind, .int .i64 bt.a, .int .i64 bt.to, .int .i64 bt.el] 49)) 52 #[.slice A2 n2 c2, .int .i64 mt.kind, .int .i64 mt.a, .int .i64 mt.to, .int .i64 mt.el]
  have hZ0 := Row.new ((w.alloc (.cells #[.slice A1 n1 c1, .int .i64 bt.kind, .int .i64 bt.a, .int .i64 bt.to, .int .i64 bt.el] 49)).alloc (.cells #[.slice A2 n2 c2, .int .i64 mt.kind, .int .i64 mt.a, .int .i64 mt.to, .int .i64 mt.el] 52)) 96 #[.slice none 0 0, .int .i64 0, .int .i64 0, .int .i64 0, .int .i64 0]
  rw [show (w.alloc (.cells #[.slice A1 n1 c1, .int .i64 bt.kind, .int .i64 bt.a, .int .i64 bt.to, .int .i64 bt.el] 49)).heap.size = w.heap.size + 1 by simp] at hM0
  rw [show ((w.alloc (.cells #[.slice A1 n1 c1, .int .i64 bt.kind, .int .i64 bt.a, .int .i64 bt.to, .int .i64 bt.el] 49)).alloc (.cells #[.slice A2 n2 c2, .int .i64 mt.kind, .int .i64 mt.a, .int .i64 mt.to, .int .i64 mt.el] 52)).heap.size = w.heap.size + 1 + 1 by simp] at hZ0
  have HB0 := Lib.hid ((((Below.refl w.heap.size w).alloc (Nat.le_refl _) (.cells #[.slice A1 n1 c1, .int .i64 bt.kind, .int .i64 bt.a, .int .i64 bt.to, .int .i64 bt.el] 49)).alloc (by simp) (.cells #[.slice A2 n2 c2, .int .i64 mt.kind, .int .i64 mt.a, .int .i64 mt.to, .int .i64 mt.el] 52)).alloc (by simp; omega) (.cells #[.slice none 0 0, .int .i64 0, .int .i64 0, .int .i64 0, .int .i64 0] 96))
  have HA0 := Lib.hid ((hA0.alloc (.cells #[.slice A2 n2 c2, .int .i64 mt.kind, .int .i64 mt.a, .int .i64 mt.to, .int .i64 mt.el] 52)).alloc (.cells #[.slice none 0 0, .int .i64 0, .int .i64 0, .int .i64 0, .int .i64 0] 96))
  have HM0 := Lib.hid (hM0.alloc (.cells #[.slice none 0 0, .int .i64 0, .int .i64 0, .int .i64 0, .int .i64 0] 96))
  have HZ0 := Lib.hid hZ0
  have HL := Lib.hid hl
  have HOUT := Lib.hid (checkE_none (code := code) (mach := mach) (bt := bt) (mt := mt) (ok := tmP bt mt) (l := l) (most := most))
  have CR : Hid (∀ V sb, SP w sb most ⟨l, 0, 0, 0, l.length⟩ V → w.heap.size ≤ sb → _) := fun V sb h1 h2 => bcrun_any hRL h1 h2 hC hM hls hlR hn1 hn2 hll hops hmk hnR htm
  generalize checkE code mach bt mt (tmP bt mt) l most = RC at *
  clear hA0 hM0 hZ0 hl hC hM hls hlR hops hmk htm
  go_enter Tryz.func48, Tryz.ntmps48
  go_upto_region 1 with fail
  generalize (((w.alloc (.cells #[.slice A1 n1 c1, .int .i64 bt.kind, .int .i64 bt.a, .int .i64 bt.to, .int .i64 bt.el] 49)).alloc (.cells #[.slice A2 n2 c2, .int .i64 mt.kind, .int .i64 mt.a, .int .i64 mt.to, .int .i64 mt.el] 52)).alloc (.cells #[.slice none 0 0, .int .i64 0, .int .i64 0, .int .i64 0, .int .i64 0] 96)) = W0 at *
  have C := Lib.hid (pclone_any w.heap.size A l c W0 (HL.out.below HB0.out) HB0.out.size (by omega))
  go_wp2_with fail
  refine C.out.mono ?_
  rintro e W1 ⟨v, rfl, hP⟩
  obtain ⟨A3, c3, rfl, _, _⟩ := hP.slice
  have HA1 := Lib.hid (HA0.out.below hP.blw HA0.out.lt)
  have HM1 := Lib.hid (HM0.out.below hP.blw HM0.out.lt)
  have HZ1 := Lib.hid (HZ0.out.below hP.blw HZ0.out.lt)
  have HP1 := Lib.hid (hP.base HB0.out)
  clear hP C HA0 HM0 HZ0 HB0
  go_upto_region 2 with fail
  have HS2 : Hid (SP w W1.heap.size most ⟨l, 0, 0, 0, l.length⟩ (W1.alloc (.cells #[.slice A3 l.length c3, .int .i64 most, .int .i64 0, .int .i64 (l.length : Int)] 117))) := ⟨A3, c3, Row.new W1 _ _, HP1.out.alloc _⟩
  have HA2 := Lib.hid (HA1.out.alloc (.cells #[.slice A3 l.length c3, .int .i64 most, .int .i64 0, .int .i64 (l.length : Int)] 117))
  have HM2 := Lib.hid (HM1.out.alloc (.cells #[.slice A3 l.length c3, .int .i64 most, .int .i64 0, .int .i64 (l.length : Int)] 117))
  have HZ2 := Lib.hid (HZ1.out.alloc (.cells #[.slice A3 l.length c3, .int .i64 most, .int .i64 0, .int .i64 (l.length : Int)] 117))
  have hsb1 : w.heap.size + 1 + 1 < W1.heap.size := HZ1.out.lt
  clear HA1 HM1 HZ1 HP1
  generalize (W1.alloc (.cells #[.slice A3 l.length c3, .int .i64 most, .int .i64 0, .int .i64 (l.length : Int)] 117)) = W2 at *
  generalize W1.heap.size = sb at *
  have b0 := HA2.out.cell 0; have b1 := HA2.out.cell 1; have b2 := HA2.out.cell 2; have b3 := HA2.out.cell 3; have b4 := HA2.out.cell 4
  have m0 := HM2.out.cell 0; have m1 := HM2.out.cell 1; have m2 := HM2.out.cell 2; have m3 := HM2.out.cell 3; have m4 := HM2.out.cell 4
  simp only [List.getElem?_toArray, List.getElem?_cons_zero, List.getElem?_cons_succ] at b0 b1 b2 b3 b4 m0 m1 m2 m3 m4
  have C := Lib.hid (CR.out W2 sb HS2.out (by omega))
  go_wp2_with fail
  refine C.out.mono ?_
  rintro e W3 ⟨rfl, hM, hB, v, hR, hv⟩
  have HZ3 := Lib.hid (HZ2.out.mods hM (by unfold Is; omega))
  have HR3 := Lib.hid hR
  have HB3 := Lib.hid hB
  have HV := Lib.hid hv
  clear C CR b0 b1 b2 b3 b4 m0 m1 m2 m3 m4 HA2 HM2 HZ2 HS2 hM hR hB hv
  go_upto_region 3 with fail
  have HE4 := Lib.hid (Row.new W3 119 #[.int .i64 RC.err, .int .i64 (RC.at_ : Int)])
  have HB4 := Lib.hid (HB3.out.alloc HB3.out.size (.cells #[.int .i64 RC.err, .int .i64 (RC.at_ : Int)] 119))
  have HZ4 := Lib.hid (HZ3.out.alloc (.cells #[.int .i64 RC.err, .int .i64 (RC.at_ : Int)] 119))
  have HR4 := Lib.hid (HR3.out.alloc (.cells #[.int .i64 RC.err, .int .i64 (RC.at_ : Int)] 119))
  have HV4 : Hid (RC.err = 0 → ∃ A c, v = .slice A RC.out.length c ∧ PL w v RC.out (W3.alloc (.cells #[.int .i64 RC.err, .int .i64 (RC.at_ : Int)] 119))) := fun h => by
    obtain ⟨A9, c9, h1, h2⟩ := HV.out h
    exact ⟨A9, c9, h1, h2.alloc _⟩
  clear HB3 HZ3 HR3 HV
  generalize (W3.alloc (.cells #[.int .i64 RC.err, .int .i64 (RC.at_ : Int)] 119)) = W4 at *
  generalize W3.heap.size = eb at *
  have e0 := HE4.out.cell 0; have e1 := HE4.out.cell 1
  have r2 := HR4.out.cell 2; have r3 := HR4.out.cell 3
  simp only [List.getElem?_toArray, List.getElem?_cons_zero, List.getElem?_cons_succ] at e0 e1 r2 r3
  go_upto_region 4 with fail
  have HX5 := Lib.hid (Row.new W4 96 #[.slice none 0 0, .int .i64 RC.err, .int .i64 (RC.at_ : Int), .int .i64 (RC.steps : Int), .int .i64 (RC.largest : Int)])
  have HE5 := Lib.hid (HE4.out.alloc (.cells #[.slice none 0 0, .int .i64 RC.err, .int .i64 (RC.at_ : Int), .int .i64 (RC.steps : Int), .int .i64 (RC.largest : Int)] 96))
  have HB5 := Lib.hid (HB4.out.alloc HB4.out.size (.cells #[.slice none 0 0, .int .i64 RC.err, .int .i64 (RC.at_ : Int), .int .i64 (RC.steps : Int), .int .i64 (RC.largest : Int)] 96))
  have HZ5 := Lib.hid (HZ4.out.alloc (.cells #[.slice none 0 0, .int .i64 RC.err, .int .i64 (RC.at_ : Int), .int .i64 (RC.steps : Int), .int .i64 (RC.largest : Int)] 96))
  have HR5 := Lib.hid (HR4.out.alloc (.cells #[.slice none 0 0, .int .i64 RC.err, .int .i64 (RC.at_ : Int), .int .i64 (RC.steps : Int), .int .i64 (RC.largest : Int)] 96))
  have HV5 : Hid (RC.err = 0 → ∃ A c, v = .slice A RC.out.length c ∧ PL w v RC.out (W4.alloc (.cells #[.slice none 0 0, .int .i64 RC.err, .int .i64 (RC.at_ : Int), .int .i64 (RC.steps : Int), .int .i64 (RC.largest : Int)] 96))) := fun h => by
    obtain ⟨A9, c9, h1, h2⟩ := HV4.out h
    exact ⟨A9, c9, h1, h2.alloc _⟩
  have hzx : w.heap.size + 1 + 1 < W4.heap.size := HZ4.out.lt
  clear HE4 HB4 HZ4 HR4 HV4 e0 e1 r2 r3
  generalize (W4.alloc (.cells #[.slice none 0 0, .int .i64 RC.err, .int .i64 (RC.at_ : Int), .int .i64 (RC.steps : Int), .int .i64 (RC.largest : Int)] 96)) = W5 at *
  generalize W4.heap.size = xb at *
  have e0 := HE5.out.cell 0
  simp only [List.getElem?_toArray, List.getElem?_cons_zero] at e0
  by_cases he : RC.err = 0
  · obtain ⟨A9, c9, rfl, hP⟩ := HV5.out he
    have heb : (RC.err == 0) = true := by simp [he]
    have HP5 := Lib.hid hP
    have r0 := HR5.out.cell 0
    have x0 := HX5.out.cell 0; have y0 := HX5.out.frozen 0
    simp only [List.getElem?_toArray, List.getElem?_cons_zero] at r0 x0
    clear hP he HV5
    go_upto_region 6 with fail
    have HX6 := Lib.hid (HX5.out.put 0 (.slice A9 RC.out.length c9))
    have hmx : Mods (Is xb) W5 (W5.setCell ⟨xb, 0, none⟩ (.slice A9 RC.out.length c9)) := (Mods.refl _ W5).put 0 _
    have HZ6 := Lib.hid (HZ5.out.mods hmx (by unfold Is; omega))
    have HP6 := Lib.hid (HP5.out.mods HX5.out (by decide) (by omega) hmx)
    clear hmx HX5 HZ5 HP5 HR5 HE5 e0 r0 x0 y0
    generalize (W5.setCell ⟨xb, 0, none⟩ (.slice A9 RC.out.length c9)) = W6 at *
    have x0 := HX6.out.cell 0; have x1 := HX6.out.cell 1; have x2 := HX6.out.cell 2; have x3 := HX6.out.cell 3; have x4 := HX6.out.cell 4
    have z0 := HZ6.out.cell 0; have z1 := HZ6.out.cell 1; have z2 := HZ6.out.cell 2; have z3 := HZ6.out.cell 3; have z4 := HZ6.out.cell 4
    have g0 := HZ6.out.frozen 0; have g1 := HZ6.out.frozen 1; have g2 := HZ6.out.frozen 2; have g3 := HZ6.out.frozen 3; have g4 := HZ6.out.frozen 4
    simp only [List.getElem?_toArray, List.getElem?_cons_zero, List.getElem?_cons_succ, List.setIfInBounds_toArray, List.set_cons_zero] at x0 x1 x2 x3 x4 z0 z1 z2 z3 z4
    go_wp2
    (try simp only [Exit.inBlock, Exit.then])
    refine bodyPost_ret (v := .agg #[.slice A9 (RC).out.length c9, .int .i64 (RC).err, .int .i64 ((RC).at_ : Int), .int .i64 ((RC).steps : Int), .int .i64 ((RC).largest : Int)]) ?_ rfl ⟨A9, c9, rfl, HP6.out.mods HZ6.out (by decide) (by omega) (mods5 W6 _ _ _ _ _ _)⟩
    exact results_cell_row rfl _ _ (w.heap.size + 1 + 1) 96 #[.slice A9 (RC).out.length c9, .int .i64 (RC).err, .int .i64 ((RC).at_ : Int), .int .i64 ((RC).steps : Int), .int .i64 ((RC).largest : Int)] (0, 0) _ rfl (HZ6.out.put5 _ _ _ _ _) Tryz.underlying96 rfl (by kernel_rfl)
  · have heb : (RC.err == 0) = false := by simp [he]
    have ho : RC.out = [] := HOUT.out he
    have HO := Lib.hid ho
    have x0 := HX5.out.cell 0; have x1 := HX5.out.cell 1; have x2 := HX5.out.cell 2; have x3 := HX5.out.cell 3; have x4 := HX5.out.cell 4
    have z0 := HZ5.out.cell 0; have z1 := HZ5.out.cell 1; have z2 := HZ5.out.cell 2; have z3 := HZ5.out.cell 3; have z4 := HZ5.out.cell 4
    have g0 := HZ5.out.frozen 0; have g1 := HZ5.out.frozen 1; have g2 := HZ5.out.frozen 2; have g3 := HZ5.out.frozen 3; have g4 := HZ5.out.frozen 4
    simp only [List.getElem?_toArray, List.getElem?_cons_zero, List.getElem?_cons_succ] at x0 x1 x2 x3 x4 z0 z1 z2 z3 z4
    clear ho he HOUT
    go_wp2
    (try simp only [Exit.inBlock, Exit.then])
    refine bodyPost_ret (v := .agg #[.slice none 0 0, .int .i64 RC.err, .int .i64 (RC.at_ : Int), .int .i64 (RC.steps : Int), .int .i64 (RC.largest : Int)]) ?_ rfl ⟨none, 0, ?_, ?_⟩
    · exact results_cell_row rfl _ _ (w.heap.size + 1 + 1) 96 #[.slice none 0 0, .int .i64 RC.err, .int .i64 (RC.at_ : Int), .int .i64 (RC.steps : Int), .int .i64 (RC.largest : Int)] (0, 0) _ rfl (HZ5.out.put5 _ _ _ _ _) Tryz.underlying96 rfl (by kernel_rfl)
    · rw [HO.out]
      rfl
    · rw [HO.out]
      exact (PL.nil w).next (blw5 (by omega) HB5.out _ _ _ _ _)

theorem check_ls {W : World} {A1 : Option Addr} {n1 c1 : Nat} {code : List In} {A2 : Option Addr} {n2 c2 : Nat} {mach : List Mi} {bt mt : Tm} {A : Option Addr} {n c : Nat} {l : List Pr} {nR nS : Nat} {most : Int}
    (hC : CS W A1 n1 c1 code) (hM : MS W A2 n2 c2 mach) (hL : LS W A n c l) (hls : Srt l) (hn : n ≤ 100) (h1 : code.length ≤ 60) (h2 : mach.length ≤ 200) (hins : ∀ x ∈ code, InOk 20 x) (hmis : ∀ y ∈ mach, MiOk nR nS y) (hr : nR ≤ 20) (hs : nS ≤ 20) (htm : TmOk nR 1000 mt) :
    Calls Tryz.prog 48 #[.agg #[.slice A1 n1 c1, .int .i64 bt.kind, .int .i64 bt.a, .int .i64 bt.to, .int .i64 bt.el], .agg #[.slice A2 n2 c2, .int .i64 mt.kind, .int .i64 mt.a, .int .i64 mt.to, .int .i64 mt.el], .slice A n c, .int .i64 most] W fun x w' => ∃ A' c', x = .returned (.agg #[.slice A' ((checkE code mach bt mt (tmP bt mt) l most)).out.length c', .int .i64 ((checkE code mach bt mt (tmP bt mt) l most)).err, .int .i64 (((checkE code mach bt mt (tmP bt mt) l most)).at_ : Int), .int .i64 (((checkE code mach bt mt (tmP bt mt) l most)).steps : Int), .int .i64 (((checkE code mach bt mt (tmP bt mt) l most)).largest : Int)]) ∧ PL W (.slice A' (checkE code mach bt mt (tmP bt mt) l most).out.length c') (checkE code mach bt mt (tmP bt mt) l most).out w' := by
  obtain ⟨rfl, _, _, hse, _⟩ := hL
  have e1 := hC.len
  have e2 := hM.len
  exact bcheck_any hC hM hse hls (pin_of (l := l) fun q h => h) (room_of hn) (by omega) (by omega) (by omega) (fun rows hch => blk_in hins hmis (regsR_in l) (locsL_in l hr hs) bt mt hch) hmis (by omega) htm

/-- The program's Check over what the walks carry. -/
theorem check_bk {w W : World} {A1 : Option Addr} {n1 c1 : Nat} {code : List In} {A2 : Option Addr} {n2 c2 : Nat} {mach : List Mi} {bt mt : Tm} {A : Option Addr} {n c : Nat} {l : List Pr} {nR nS : Nat} {most : Int}
    (h : BK w bt mt A1 n1 c1 code A2 n2 c2 mach W) (hL : LS W A n c l) (hls : Srt l) (hn : n ≤ 100) (h1 : code.length ≤ 60) (h2 : mach.length ≤ 200) (hQ : RightQ code mach bt mt nR nS) :
    Calls Tryz.prog 48 #[.agg #[.slice A1 n1 c1, .int .i64 bt.kind, .int .i64 bt.a, .int .i64 bt.to, .int .i64 bt.el], .agg #[.slice A2 n2 c2, .int .i64 mt.kind, .int .i64 mt.a, .int .i64 mt.to, .int .i64 mt.el], .slice A n c, .int .i64 most] W fun x w' => ∃ A' c', x = .returned (.agg #[.slice A' ((checkE code mach bt mt (tmP bt mt) l most)).out.length c', .int .i64 ((checkE code mach bt mt (tmP bt mt) l most)).err, .int .i64 (((checkE code mach bt mt (tmP bt mt) l most)).at_ : Int), .int .i64 (((checkE code mach bt mt (tmP bt mt) l most)).steps : Int), .int .i64 (((checkE code mach bt mt (tmP bt mt) l most)).largest : Int)]) ∧ PL W (.slice A' (checkE code mach bt mt (tmP bt mt) l most).out.length c') (checkE code mach bt mt (tmP bt mt) l most).out w' := by
  exact check_ls h.cs h.ms hL hls hn h1 h2 hQ.ins hQ.mis hQ.r hQ.s (hQ.tm.mono (by omega))

end Go.Proofs.YtcoehkphdfejjaaGreat

/-
  The statements' examples: awake returns true.
-/
namespace Go.Proofs.YtcoehkphdfejjaaGreat
open Go.RowKit
set_option linter.unusedVariables false

def bcI : List In := [⟨17, 0, 0, 0, 0⟩]

def bcM : List Mi := [⟨18, 0, 0, 0, 0, 2, 1⟩, ⟨17, 0, 1, 0, 0, 0, 0⟩]

def bcN : List Mi := [⟨17, 0, 1, 0, 0, 0, 0⟩]

def bcT : Tm := ⟨1, 0, 0, 0⟩

theorem bcEx1 : checkE bcI bcM bcT bcT (tmP bcT bcT) [(0, 1)] 9 = ⟨[(0, 1), (0, 2)], 0, 2, 5, 2⟩ := by kernel_rfl

theorem bcEx2 : checkE bcI bcN bcT bcT (tmP bcT bcT) [(0, 1)] 9 = ⟨[], 21, 0, 2, 1⟩ := by kernel_rfl

theorem bcEx3 : checkE bcI bcM bcT bcT (tmP bcT bcT) [(0, 1)] 1 = ⟨[], 24, 0, 2, 2⟩ := by kernel_rfl

structure BAK (w : World) (pi pb qi qb ri rb : Nat) (V : World) : Prop where
  blw : Below w.heap.size w V
  b : Row V pb 49 #[.slice (some ⟨pi, 0, none⟩) 1 1, .int .i64 1, .int .i64 0, .int .i64 0, .int .i64 0]
  m : Row V qb 52 #[.slice (some ⟨qi, 0, none⟩) 2 2, .int .i64 1, .int .i64 0, .int .i64 0, .int .i64 0]
  n : Row V rb 52 #[.slice (some ⟨ri, 0, none⟩) 1 1, .int .i64 1, .int .i64 0, .int .i64 0, .int .i64 0]
  cs : CS V (some ⟨pi, 0, none⟩) 1 1 bcI
  ms : MS V (some ⟨qi, 0, none⟩) 2 2 bcM
  ns : MS V (some ⟨ri, 0, none⟩) 1 1 bcN

theorem BAK.below {w : World} {pi pb qi qb ri rb : Nat} {V V' : World} (h : BAK w pi pb qi qb ri rb V) (hb : Below V.heap.size V V') : BAK w pi pb qi qb ri rb V' :=
  ⟨h.blw.trans (hb.mono h.blw.size), h.b.below hb h.b.lt, h.m.below hb h.m.lt, h.n.below hb h.n.lt, h.cs.below hb, h.ms.below hb, h.ns.below hb⟩

theorem BAK.alloc {w : World} {pi pb qi qb ri rb : Nat} {V : World} (h : BAK w pi pb qi qb ri rb V) (o : Obj) : BAK w pi pb qi qb ri rb (V.alloc o) := h.below ((Below.refl _ _).alloc (Nat.le_refl _) o)

theorem bcfit0 : Fits 0 := ⟨by decide, by decide⟩

theorem bcfit1 : Fits 1 := ⟨by decide, by decide⟩

theorem bcfit2 : Fits 2 := ⟨by decide, by decide⟩

theorem bcI_in : ∀ x ∈ bcI, InOk 20 x := fun x hx => by
  simp only [bcI, List.mem_cons, List.not_mem_nil, or_false] at hx
  subst hx
  exact ⟨⟨by decide, by decide⟩, by decide, by decide, .inl rfl⟩

theorem bcM_in : ∀ x ∈ bcM, MiOk 20 20 x := fun x hx => by
  simp only [bcM, List.mem_cons, List.not_mem_nil, or_false] at hx
  rcases hx with rfl | rfl
  · exact .inl ⟨rfl, ⟨by decide, .inr ⟨by decide, by decide⟩⟩, ⟨by decide, .inl ⟨by decide, by decide⟩⟩⟩
  · exact .inr (.inl ⟨rfl, by decide, by decide⟩)

theorem bcN_in : ∀ x ∈ bcN, MiOk 20 20 x := fun x hx => by
  simp only [bcN, List.mem_cons, List.not_mem_nil, or_false] at hx
  subst hx
  exact .inr (.inl ⟨rfl, by decide, by decide⟩)

theorem bcM_ok : ∀ x ∈ bcM, x.Ok := fun x hx => by
  simp only [bcM, List.mem_cons, List.not_mem_nil, or_false] at hx
  rcases hx with rfl | rfl
  · exact ⟨bcfit2, bcfit1⟩
  · exact ⟨bcfit0, bcfit0⟩

theorem bcN_ok : ∀ x ∈ bcN, x.Ok := fun x hx => by
  simp only [bcN, List.mem_cons, List.not_mem_nil, or_false] at hx
  subst hx
  exact ⟨bcfit0, bcfit0⟩

theorem bcT_ok : TmOk 20 1000 bcT := .inl ⟨rfl, by decide, by decide⟩

theorem bc_cs (w : World) : CS (w.alloc (.cells #[.int .i64 17, .int .i64 0, .int .i64 0, .int .i64 0, .int .i64 0] 44)) (some ⟨w.heap.size, 0, none⟩) 1 1 bcI := by
  have h := sees_new w #[.int .i64 17, .int .i64 0, .int .i64 0, .int .i64 0, .int .i64 0] 44
  rw [show w.heap.size + 1 = (w.alloc (.cells #[.int .i64 17, .int .i64 0, .int .i64 0, .int .i64 0, .int .i64 0] 44)).heap.size by simp] at h
  exact ⟨rfl, Nat.le_refl _, by decide, InsAt.of_sees h⟩

theorem bc_ms (w : World) : MS (w.alloc (.cells #[.int .i64 18, .int .i64 0, .int .i64 0, .int .i64 0, .int .i64 0, .int .i64 2, .int .i64 1, .int .i64 17, .int .i64 0, .int .i64 1, .int .i64 0, .int .i64 0, .int .i64 0, .int .i64 0] 56)) (some ⟨w.heap.size, 0, none⟩) 2 2 bcM := by
  have h := sees_new w #[.int .i64 18, .int .i64 0, .int .i64 0, .int .i64 0, .int .i64 0, .int .i64 2, .int .i64 1, .int .i64 17, .int .i64 0, .int .i64 1, .int .i64 0, .int .i64 0, .int .i64 0, .int .i64 0] 56
  rw [show w.heap.size + 1 = (w.alloc (.cells #[.int .i64 18, .int .i64 0, .int .i64 0, .int .i64 0, .int .i64 0, .int .i64 2, .int .i64 1, .int .i64 17, .int .i64 0, .int .i64 1, .int .i64 0, .int .i64 0, .int .i64 0, .int .i64 0] 56)).heap.size by simp] at h
  exact ⟨rfl, Nat.le_refl _, by decide, MisAt.of_sees h bcM_ok⟩

theorem bc_ns (w : World) : MS (w.alloc (.cells #[.int .i64 17, .int .i64 0, .int .i64 1, .int .i64 0, .int .i64 0, .int .i64 0, .int .i64 0] 56)) (some ⟨w.heap.size, 0, none⟩) 1 1 bcN := by
  have h := sees_new w #[.int .i64 17, .int .i64 0, .int .i64 1, .int .i64 0, .int .i64 0, .int .i64 0, .int .i64 0] 56
  rw [show w.heap.size + 1 = (w.alloc (.cells #[.int .i64 17, .int .i64 0, .int .i64 1, .int .i64 0, .int .i64 0, .int .i64 0, .int .i64 0] 56)).heap.size by simp] at h
  exact ⟨rfl, Nat.le_refl _, by decide, MisAt.of_sees h bcN_ok⟩

theorem bc_srt : Srt [((0 : Int), (1 : Int))] := by unfold Srt; simp

end Go.Proofs.YtcoehkphdfejjaaGreat
