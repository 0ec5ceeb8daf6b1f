/-
  The statement's function that compares the two runs of a certificate.
-/
import Derived.Test.YtapdheabblgbaaaGreatCkSim
import Derived.Test.YtapdheabblgbaaaGreatCkVal
import Derived.Test.YtapdheabblgbaaaGreatPk8
import Derived.Test.YtapdheabblgbaaaGreatPk9
import Derived.Deep.RegionHeld3
import Derived.Deep.Cut
import Derived.Deep.CutRange
namespace Go.Proofs.YtapdheabblgbaaaGreat
open Go.RowKit Go.Deep
set_option linter.unusedVariables false
set_option linter.unusedSimpArgs false

/-- What the walk carries: the certificate in its block, its functions, the arguments. -/
structure SG (w : World) (A1 : Option Addr) (k1 : Nat) (A2 : Option Addr) (k2 : Nat) (A3 : Option Addr) (k3 il : Nat) (AA : Option Addr) (args : List Int) (N n m : Nat) (bs : List Blk) (ms : List MBlk) (W : World) : Prop where
  blw : Below w.heap.size w W
  row : Row W w.heap.size 30 #[.int .i64 args.length, .int .i64 N, .slice A1 bs.length k1, .int .i64 args.length, .int .i64 n, .int .i64 m, .slice A2 ms.length k2, .slice A3 il k3]
  b : BlksAt W w.heap.size A1 bs
  m' : MBlksAt W w.heap.size A2 ms
  ar : Sees W w.heap.size AA (ints args)
theorem SG.next {w W W' : World} {A1 : Option Addr} {k1 : Nat} {A2 : Option Addr} {k2 : Nat} {A3 : Option Addr} {k3 il : Nat} {AA : Option Addr} {args : List Int} {N n m : Nat} {bs : List Blk} {ms : List MBlk} (h : SG w A1 k1 A2 k2 A3 k3 il AA args N n m bs ms W) (hb : Below W.heap.size W W') : SG w A1 k1 A2 k2 A3 k3 il AA args N n m bs ms W' :=
  ⟨h.blw.trans (hb.mono h.blw.size), h.row.below hb h.row.lt, h.b.below (hb.mono h.blw.size), h.m'.below (hb.mono h.blw.size), h.ar.below (hb.mono h.blw.size)⟩

set_option maxRecDepth 100000 in
set_option maxHeartbeats 16000000 in
theorem csim_any {A1 : Option Addr} {k1 : Nat} {A2 : Option Addr} {k2 : Nat} {A3 : Option Addr} {k3 il : Nat} {AA : Option Addr} {args : List Int} {N n m : Nat} {bs : List Blk} {ms : List MBlk} (ac f : Nat) (w : World) (hb : BlksAt w w.heap.size A1 bs) (hm : MBlksAt w w.heap.size A2 ms) (ha : Sees w w.heap.size AA (ints args))
    (hN : N ≤ 60) (hn : n ≤ 60) (hmm : m ≤ 60) (hlN : args.length ≤ N) (hlm : args.length ≤ m) (hF : OkF N bs) (hM : OkM n m ms) (hb40 : bs.length ≤ 40) (hm40 : ms.length ≤ 40) (hcb : codeN bs ≤ 300) (hcm : mcodeN ms ≤ 900) (hwa : ∀ v ∈ args, InI v) (hf : f ≤ 255)
    (hS : (runR bs (rn0 N args) f).st = 2 ∨
     ((runR bs (rn0 N args) f).st = 1 ∧ (runX ms (xn0 n m args) (65 * (runR bs (rn0 N args) f).steps)).st = 1 ∧ (runX ms (xn0 n m args) (65 * (runR bs (rn0 N args) f).steps)).val = (runR bs (rn0 N args) f).val ∧ (runX ms (xn0 n m args) (65 * (runR bs (rn0 N args) f).steps)).trace = (runR bs (rn0 N args) f).trace ∧ (runX ms (xn0 n m args) (65 * (runR bs (rn0 N args) f).steps)).steps ≤ 65 * (runR bs (rn0 N args) f).steps) ∨
     ((runR bs (rn0 N args) f).st = 0 ∧ ∃ l, (runX ms (xn0 n m args) (65 * (runR bs (rn0 N args) f).steps)).trace = (runR bs (rn0 N args) f).trace ++ l)) :
    Calls Tryz.prog 15 #[.agg #[.int .i64 args.length, .int .i64 N, .slice A1 bs.length k1, .int .i64 args.length, .int .i64 n, .int .i64 m, .slice A2 ms.length k2, .slice A3 il k3], .slice AA args.length ac, .int .i64 (f : Int)] w fun e w' => e = .returned (.bool true) ∧ Below w.heap.size w w' := by
  have mixed : Tryz.prog.follows .mixedOrders = true := by kernel_rfl
  have hb0 := (Below.refl w.heap.size w).alloc (Nat.le_refl _) (.cells #[.int .i64 args.length, .int .i64 N, .slice A1 bs.length k1, .int .i64 args.length, .int .i64 n, .int .i64 m, .slice A2 ms.length k2, .slice A3 il k3] 30)
  have HG : Hid (SG w A1 k1 A2 k2 A3 k3 il AA args N n m bs ms (w.alloc (.cells #[.int .i64 args.length, .int .i64 N, .slice A1 bs.length k1, .int .i64 args.length, .int .i64 n, .int .i64 m, .slice A2 ms.length k2, .slice A3 il k3] 30))) := ⟨hb0, Row.new w _ _, hb.below hb0, hm.below hb0, ha.below hb0⟩
  have hst := (run_steps bs (rn0 N args) f).1
  have h00 : (rn0 N args).steps = 0 := rfl
  have C1 := Lib.hid fun W (h : SG w A1 k1 A2 k2 A3 k3 il AA args N n m bs ms W) => exec_any args N bs w.heap.size A1 AA k1 ac (f : Int) W h.ar h.b h.blw.size (by omega) hlN hF hwa (by omega) (by omega) (by omega)
  rw [show ((f : Int)).toNat = f from rfl] at C1
  generalize runR bs (rn0 N args) f = r at *
  have hk : r.steps ≤ 255 := by omega
  have C2 := Lib.hid fun W (h : SG w A1 k1 A2 k2 A3 k3 il AA args N n m bs ms W) => xexec_any args n m ms w.heap.size A2 AA k2 ac ((65 * r.steps : Nat) : Int) W h.ar h.m' h.blw.size (by omega) (by omega) hlm hM hwa (by omega) (by omega) (by omega)
  rw [show (((65 * r.steps : Nat) : Int)).toNat = 65 * r.steps from rfl] at C2
  generalize runX ms (xn0 n m args) (65 * r.steps) = x at *
  obtain ⟨K, hK⟩ : ∃ z, z = 65 * r.steps := ⟨_, rfl⟩
  have hKz : (65 * (r.steps : Int)) = (K : Int) := by omega
  have HK := Lib.hid hK
  rw [← hK] at hS C2
  have HS := Lib.hid hS
  have hK9 : K ≤ 16575 := by omega
  clear hb0 hb hm ha hst h00 hS hF hM hcb hcm hwa hN hn hmm hlN hlm hb40 hm40 hf hK
  go_enter Tryz.func15, Tryz.ntmps15
  go_upto_region 1 with fail
  generalize (w.alloc (.cells #[.int .i64 args.length, .int .i64 N, .slice A1 bs.length k1, .int .i64 args.length, .int .i64 n, .int .i64 m, .slice A2 ms.length k2, .slice A3 il k3] 30)) = W0 at *
  have HRW := Lib.hid HG.out.row
  have c0 := HRW.out.cell 0; have c1 := HRW.out.cell 1; have c2 := HRW.out.cell 2
  simp only [List.getElem?_toArray, List.getElem?_cons_zero, List.getElem?_cons_succ] at c0 c1 c2
  go_wp2_with fail
  refine (C1.out _ HG.out).mono ?_
  rintro e W1 ⟨RA, rc, SA, sc, TA, tc, rfl, hv, hb⟩
  have hba := (Below.refl W1.heap.size W1).alloc (Nat.le_refl _) (.cells #[.int .i64 r.st, .int .i64 (r.blk : Int), .int .i64 (r.pos : Int), .int .i64 r.val, .slice RA r.regs.length rc, .slice SA 0 sc, .slice TA r.trace.length tc, .int .i64 (r.steps : Int)] 83)
  have HG2 := Lib.hid ((HG.out.next hb).next hba)
  have HR2 := Lib.hid (Row.new W1 83 #[.int .i64 r.st, .int .i64 (r.blk : Int), .int .i64 (r.pos : Int), .int .i64 r.val, .slice RA r.regs.length rc, .slice SA 0 sc, .slice TA r.trace.length tc, .int .i64 (r.steps : Int)])
  have HV2 := Lib.hid (hv.below hba)
  clear hb hv hba HG C1 HRW c0 c1 c2
  go_upto_region 2 with fail
  generalize (W1.alloc (.cells #[.int .i64 r.st, .int .i64 (r.blk : Int), .int .i64 (r.pos : Int), .int .i64 r.val, .slice RA r.regs.length rc, .slice SA 0 sc, .slice TA r.trace.length tc, .int .i64 (r.steps : Int)] 83)) = W2 at *
  generalize W1.heap.size = z1 at *
  have s7 := HR2.out.cell 7
  simp only [List.getElem?_toArray, List.getElem?_cons_zero, List.getElem?_cons_succ] at s7
  go_upto_region 3 with fail
  clear s7
  have HRW := Lib.hid HG2.out.row
  have c3 := HRW.out.cell 3; have c4 := HRW.out.cell 4; have c5 := HRW.out.cell 5; have c6 := HRW.out.cell 6
  simp only [List.getElem?_toArray, List.getElem?_cons_zero, List.getElem?_cons_succ] at c3 c4 c5 c6
  go_wp2_with fail
  refine (C2.out _ HG2.out).mono ?_
  rintro e W3 ⟨XA, xc, YA, yc, UA, uc, rfl, hv, hb⟩
  have hba := (Below.refl W3.heap.size W3).alloc (Nat.le_refl _) (.cells #[.int .i64 x.st, .int .i64 (x.blk : Int), .int .i64 (x.pos : Int), .int .i64 x.val, .slice XA x.regs.length xc, .slice YA x.slots.length yc, .slice UA x.trace.length uc, .int .i64 (x.steps : Int)] 83)
  have HG4 := Lib.hid ((HG2.out.next hb).next hba)
  have HR4 := Lib.hid ((HR2.out.below hb HR2.out.lt).below hba (Nat.lt_of_lt_of_le HR2.out.lt hb.size))
  have HV4 := Lib.hid ((HV2.out.below hb).below hba)
  have HX4 := Lib.hid (Row.new W3 83 #[.int .i64 x.st, .int .i64 (x.blk : Int), .int .i64 (x.pos : Int), .int .i64 x.val, .slice XA x.regs.length xc, .slice YA x.slots.length yc, .slice UA x.trace.length uc, .int .i64 (x.steps : Int)])
  have HY4 := Lib.hid (hv.below hba)
  clear hb hv hba HG2 C2 HRW c3 c4 c5 c6 HR2 HV2
  go_upto_region 4 with fail
  generalize (W3.alloc (.cells #[.int .i64 x.st, .int .i64 (x.blk : Int), .int .i64 (x.pos : Int), .int .i64 x.val, .slice XA x.regs.length xc, .slice YA x.slots.length yc, .slice UA x.trace.length uc, .int .i64 (x.steps : Int)] 83)) = W4 at *
  generalize W3.heap.size = z2 at *
  have hRA := Lib.hid HV4.out.str
  have hXA := Lib.hid HY4.out.sts
  have hrl := own_len HV4.out.trace
  have hxl := own_len HY4.out.trace
  have HM1 : Hid (r.trace.length ≤ maxLen) := Nat.le_trans hrl.1 hrl.2
  have HM2 : Hid (x.trace.length ≤ maxLen) := Nat.le_trans hxl.1 hxl.2
  have HM3 := Lib.hid hxl
  clear hrl hxl
  have s0 := HR4.out.cell 0; have s3 := HR4.out.cell 3; have s6 := HR4.out.cell 6; have s7 := HR4.out.cell 7
  simp only [List.getElem?_toArray, List.getElem?_cons_zero, List.getElem?_cons_succ] at s0 s3 s6 s7
  have t0 := HX4.out.cell 0; have t3 := HX4.out.cell 3; have t6 := HX4.out.cell 6; have t7 := HX4.out.cell 7
  simp only [List.getElem?_toArray, List.getElem?_cons_zero, List.getElem?_cons_succ] at t0 t3 t6 t7
  rcases HS.out with h2 | ⟨h1, h3, h4, h5, h6⟩ | ⟨h1, l, h5⟩
  · have e2 : (r.st == 2) = true := by simp [h2]
    clear h2
    go_wp2
    go_ret
    exact ⟨rfl, HG4.out.blw⟩
  · have e2 : (r.st == 2) = false := by simp [h1]
    have e1 : (r.st == 1) = true := by simp [h1]
    have e3 : (x.st == 1) = true := by simp [h3]
    have e4 : (x.val == r.val) = true := by simp [h4]
    have e6 : decide (x.steps ≤ K) = true := by simp [h6]
    have C3 := Lib.hid (vals_any W4.heap.size UA TA x.trace r.trace uc tc W4 hXA.out hRA.out HM2.out HM1.out)
    rw [sameI_yes h5] at C3
    clear h1 h3 h4 h5 h6
    go_wp2_with fail
    refine C3.out.mono ?_
    rintro e W5 ⟨rfl, q, rfl⟩
    have HB5 := Lib.hid (HG4.out.next (Grew.drewN (Grew.refl W4) q).below).blw
    have t7' : (W4.drewN q).cell? ⟨z2, 7, none⟩ = some (.int .i64 (x.steps : Int)) := t7
    go_wp2
    go_ret
    exact ⟨rfl, HB5.out⟩
  · have e2 : (r.st == 2) = false := by simp [h1]
    have e1 : (r.st == 1) = false := by simp [h1]
    have hXA' := hXA.out
    rw [h5] at hXA'
    have C3 := Lib.hid (prefix_any W4.heap.size TA UA r.trace l _ _ tc uc W4 hRA.out hXA' rfl (congrArg List.length h5.symm) HM2.out HM3.out.1 HM3.out.2)
    clear h1 h5 hXA'
    go_wp2_with fail
    refine C3.out.mono ?_
    rintro e W5 ⟨rfl, q, rfl⟩
    have HB5 := Lib.hid (HG4.out.next (Grew.drewN (Grew.refl W4) q).below).blw
    go_wp2
    go_ret
    exact ⟨rfl, HB5.out⟩
end Go.Proofs.YtapdheabblgbaaaGreat
