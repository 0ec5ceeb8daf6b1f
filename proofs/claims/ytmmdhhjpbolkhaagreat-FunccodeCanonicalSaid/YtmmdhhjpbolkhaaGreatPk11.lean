import Derived.Test.YtmmdhhjpbolkhaaGreatIcProg
import Derived.Test.YtmmdhhjpbolkhaaGreatPk8
import Derived.Deep.LoopGhost

/-
  The program of layer 18: putNumbers, putBlock of instructions, PutFunc (made by wip/lab/genfcpu.py).
-/
namespace Go.Proofs.YtmmdhhjpbolkhaaGreat
open Go.RowKit
set_option linter.unusedVariables false
set_option linter.unusedSimpArgs false

theorem putiE {w : World} {q hi : Nat} {v : Value} {l : List Nat} (h : Wri w q hi v l) (hm : l.length + 100 ≤ 70368744177664) (hhi : hi ≤ w.heap.size) {x : In} (hx : (1 ≤ x.op ∧ x.op ≤ 17) ∧ PI (inM x)) :
    Calls Tryz.prog 33 #[.pointer (some ⟨q, 0, none⟩), .agg #[.int .i64 x.op, .int .i64 x.d, .int .i64 x.a, .int .i64 x.b, .int .i64 x.imm]] w (WroteK w q (l ++ encM (inM x))) := by
  obtain ⟨ho, hp, hi2, hd, ha, hb, _, _⟩ := hx
  have h18 : ((inM x).op == 18) = false := beq_eq_false_iff_ne.2 (by show x.op ≠ 18; omega)
  have e1 : ∀ x, encO false x = [] := fun _ => rfl
  have e2 : encM (inM x) = x.op.toNat :: (encO (uD x.op) x.d ++ (encO (uA x.op) x.a ++ (encO (uB x.op) x.b ++ encO (uI x.op) (zz x.imm)))) := by
    unfold encM
    rw [h18, e1, e1, uI_eq, List.append_nil, List.append_nil]
    rfl
  rw [e2]
  exact putiK h hm hhi ⟨ho.1, by omega⟩ hi2 hd ha hb

theorem puttE {w : World} {q hi : Nat} {v : Value} {l : List Nat} (h : Wri w q hi v l) (hm : l.length + 100 ≤ 70368744177664) (hhi : hi ≤ w.heap.size) {t : Tm} (hk : 1 ≤ t.kind ∧ t.kind ≤ 3) (ht : PT t) :
    Calls Tryz.prog 58 #[.pointer (some ⟨q, 0, none⟩), .agg #[.int .i64 t.kind, .int .i64 t.a, .int .i64 t.to, .int .i64 t.el]] w (WroteK w q (l ++ encT t)) := by
  obtain ⟨_, ha, hto, hel⟩ := ht
  have e1 : kA t.kind = (t.kind != 1) := by rw [Bool.eq_iff_iff]; simp [kA]; omega
  have e2 : kT t.kind = (t.kind != 3) := by rw [Bool.eq_iff_iff]; simp [kT]; omega
  have e3 : kE t.kind = (t.kind == 2) := by rw [Bool.eq_iff_iff]; simp [kE]
  have := puttK h hm hhi hk (by rw [e1]; exact ha) (by rw [e2]; exact hto) (by rw [e3]; exact hel)
  rw [e1, e2, e3] at this
  exact this

def encNs (xs : List Int) : List Nat := xs.flatMap fun x => putS x.toNat

theorem encNs_snoc (xs : List Int) (k : Nat) (h : k < xs.length) : encNs (xs.take (k + 1)) = encNs (xs.take k) ++ putS xs[k].toNat := by
  unfold encNs
  rw [List.take_succ_eq_append_getElem h, List.flatMap_append, List.flatMap_cons, List.flatMap_nil, List.append_nil]

theorem encNs_le (xs : List Int) : (encNs xs).length ≤ 10 * xs.length := by
  induction xs with
  | nil => exact Nat.le_refl _
  | cons x r ih =>
    have := putS_le x.toNat
    unfold encNs at *
    rw [List.flatMap_cons, List.length_append, List.length_cons]
    omega

set_option maxRecDepth 100000 in
set_option maxHeartbeats 2000000 in
theorem putnums_any {w : World} {q hi : Nat} {v : Value} {l : List Nat} (h : Wri w q hi v l) (hhi : hi ≤ w.heap.size) {k c : Nat} (xs : List Int) {cs : Array Value} (hcs : cs = (xs.map fun x => Value.int .i64 x).toArray) (hr : Row w k 3 cs) (hx : ∀ x ∈ xs, 0 ≤ x ∧ x ≤ 9223372036854775807) (n : Nat) (hn : xs.length = n) (hm : l.length + 100 ≤ 70368744177664) (hn8 : n ≤ 8) :
    Calls Tryz.prog 31 #[.pointer (some ⟨q, 0, none⟩), .slice (some ⟨k, 0, none⟩) n c] w (WroteK w q (l ++ encNs xs)) := by
  have HG : Hid (GPS w q l w) := GPS.new h hhi
  have HR := Lib.hid hr
  have HX := Lib.hid hx
  have HN := Lib.hid hn
  have HCS := Lib.hid hcs
  clear h hhi hr hx hn hcs
  go_enter Tryz.func31, Tryz.ntmps31
  go_wp2
  go_loopg [8] n (fun g v8 wr => ∃ (j : Nat), j + g = n ∧ v8 = .int .i64 j ∧ Hid (GPS w q (l ++ encNs (xs.take j)) wr))
  case atStart => exact ⟨0, by omega, rfl, by rw [List.take_zero]; show GPS w q (l ++ []) w; rw [List.append_nil]; exact HG.out⟩
  case round =>
    clear HG
    obtain ⟨j, hj, rfl, HG⟩ := hrel
    cases gk with
    | zero =>
      have hlt : ¬ (j : Int) < (n : Int) := by omega
      have HJ : Hid (encNs (xs.take j) = encNs xs) := by show _ = _; rw [List.take_of_length_le (by rw [HN.out]; omega)]
      go_wp2
      go_end0
      exact HG.out.done (by rw [HJ.out])
    | succ g =>
      have hlt : (j : Int) < (n : Int) := by omega
      have hjl : j < xs.length := by rw [HN.out]; omega
      obtain ⟨x, hxe⟩ : ∃ x, xs[j] = x := ⟨_, rfl⟩
      have hxx := HX.out xs[j] (List.getElem_mem hjl)
      rw [hxe] at hxx
      have hc : wr.cell? ⟨k, 0 + j, none⟩ = some (.int .i64 x) := by
        rw [(HG.out.kp _ _ _ HR.out (by decide) (by decide)).cell, HCS.out, Nat.zero_add, ← hxe]
        simp [hjl]
      rw [Nat.zero_add] at hc
      have HE : Hid (l ++ encNs (xs.take (j + 1)) = l ++ encNs (xs.take j) ++ putS x.toNat) := by show _ = _; rw [encNs_snoc xs j hjl, hxe, List.append_assoc]
      obtain ⟨v, hv⟩ := HG.out.wr
      have hle : (encNs (xs.take j)).length ≤ 10 * n := Nat.le_trans (encNs_le _) (by rw [List.length_take]; omega)
      have C := Lib.hid (wuintK hv x hxx.1 (by omega) (by rw [List.length_append]; omega) (Nat.le_refl _))
      clear hxe hle hv hjl
      go_wp2_with fail
      refine C.out.mono ?_
      rintro e W1 ⟨⟨rfl, hw, hmm⟩, hk⟩
      have HG2 := Lib.hid (HG.out.next hw hmm hk)
      clear hw hmm hk C HG hc hxx
      rw [← HE.out] at HG2
      go_wp2
      go_roundg g
      case measure => omega
      case rel => exact ⟨j + 1, by omega, by go_num, HG2⟩

theorem encC_leP (xs : List In) : (encC xs).length ≤ 61 * xs.length := fm_len18 (fun x => encM (inM x)) 61 (fun x => encM_len18 _) xs

theorem encC_snocP (xs : List In) (k : Nat) (h : k < xs.length) : encC (xs.take (k + 1)) = encC (xs.take k) ++ encM (inM xs[k]) := by
  unfold encC
  rw [List.take_succ_eq_append_getElem h, List.flatMap_append, List.flatMap_cons, List.flatMap_nil, List.append_nil]

set_option maxRecDepth 100000 in
set_option maxHeartbeats 4000000 in
theorem putblki_any {w : World} {q hi : Nat} {v : Value} {l : List Nat} (h : Wri w q hi v l) (hhi : hi ≤ w.heap.size) {A : Option Addr} {c n : Nat} {xs : List In} {t : Tm} (hs : InsAt w q A xs) (hv : VB ⟨xs, t⟩) (hn : xs.length = n) (hc : n ≤ c) (hn2 : n ≤ 1048576) (hm : l.length + 61 * n + 200 ≤ 70368744177664) :
    Calls Tryz.prog 32 #[.pointer (some ⟨q, 0, none⟩), .slice A n c, .func (.func 33) #[] #[], .agg #[.int .i64 t.kind, .int .i64 t.a, .int .i64 t.to, .int .i64 t.el]] w (WroteK w q (l ++ encB ⟨xs, t⟩)) := by
  have hmf : ∀ (fn : Fn) (first cap : Array Value) (w : World), (Instr.makeFunc fn first cap).run Tryz.prog w = .ok (.func fn first cap) w := fun _ _ _ _ => rfl
  have HV := Lib.hid hv
  have HN := Lib.hid hn
  have HS := Lib.hid hs
  have HQ : Hid (∀ W, Mods (From q) w W → Below q w W) := fun W hm => hm.below (Nat.le_of_lt h.row.lt) fun k hk => hk
  have HG : Hid (GPS w q l (w.alloc (.cells #[.int .i64 t.kind, .int .i64 t.a, .int .i64 t.to, .int .i64 t.el] 57))) := (GPS.new h hhi).below ((Below.refl _ _).alloc (Nat.le_refl _) _)
  have HB := Lib.hid (Row.new w 57 #[.int .i64 t.kind, .int .i64 t.a, .int .i64 t.to, .int .i64 t.el])
  clear h hhi hs hv hn
  go_enter Tryz.func32, Tryz.ntmps32
  go_upto_region 1 with fail
  generalize (w.alloc (.cells #[.int .i64 t.kind, .int .i64 t.a, .int .i64 t.to, .int .i64 t.el] 57)) = W0 at *
  generalize w.heap.size = bx at *
  have HG0 : Hid (GPS w q l (W0.alloc (.cells #[.int .i64 (n : Int)] 3))) := HG.out.below ((Below.refl _ _).alloc (Nat.le_refl _) _)
  have HB0 := Lib.hid (HB.out.alloc (.cells #[.int .i64 (n : Int)] 3))
  obtain ⟨v0, hv0⟩ := HG0.out.wr
  have C1 := Lib.hid (putnums_any hv0 (Nat.le_refl _) (k := W0.heap.size) (c := 1) [(n : Int)] (cs := #[.int .i64 (n : Int)]) rfl (Row.new W0 3 _) (by intro x hx; rw [List.mem_singleton.1 hx]; omega) 1 rfl (by omega) (by omega))
  clear hv0
  go_wp2_with fail
  refine C1.out.mono ?_
  rintro e W1 ⟨⟨rfl, hw, hmm⟩, hk⟩
  have HG1 := Lib.hid (HG0.out.next hw hmm hk)
  have HB1 := Lib.hid (hk _ _ _ HB0.out (by decide) (by decide))
  have HE1 : Hid (l ++ encNs [(n : Int)] = l ++ putS n) := by show _ = _; unfold encNs; simp
  rw [HE1.out] at HG1
  clear hw hmm hk C1 HG HB HG0 HB0 HE1
  go_wp2
  go_loopg [17] n (fun g v17 wr => ∃ (j : Nat), j + g = n ∧ v17 = .int .i64 j ∧ Hid (GPS w q (l ++ putS n ++ encC (xs.take j)) wr) ∧ Hid (Row wr bx 57 #[.int .i64 t.kind, .int .i64 t.a, .int .i64 t.to, .int .i64 t.el]))
  case atStart => exact ⟨0, by omega, rfl, by rw [List.take_zero]; show GPS w q (l ++ putS n ++ []) W1; rw [List.append_nil]; exact HG1.out, HB1.out⟩
  case round =>
    clear HG1 HB1
    obtain ⟨j, hj, rfl, HG, HB⟩ := hrel
    cases gk with
    | zero =>
      have hlt : ¬ (j : Int) < (n : Int) := by omega
      have HJ : Hid (xs.take j = xs) := by show _ = _; rw [List.take_of_length_le (by rw [HN.out]; omega)]
      rw [HJ.out] at HG
      have hle := encC_leP xs
      rw [HN.out] at hle
      have hp := putS_le n
      obtain ⟨v1, hv1⟩ := HG.out.wr
      have C := Lib.hid (puttE hv1 (by simp only [List.length_append]; omega) (Nat.le_refl _) HV.out.2.1 HV.out.2.2)
      have b0 := HB.out.cell 0; have b1 := HB.out.cell 1; have b2 := HB.out.cell 2; have b3 := HB.out.cell 3
      simp only [List.getElem?_toArray, List.getElem?_cons_zero, List.getElem?_cons_succ] at b0 b1 b2 b3
      clear hle hp hv1
      go_wp2_with fail
      refine C.out.mono ?_
      rintro e W2 ⟨⟨rfl, hw, hmm⟩, hk⟩
      have HG2 := Lib.hid (HG.out.next hw hmm hk)
      clear hw hmm hk C b0 b1 b2 b3
      go_wp2
      go_end0
      exact HG2.out.done (by show _ = l ++ (putS xs.length ++ (encC xs ++ encT t)); rw [HN.out]; simp only [List.append_assoc])
    | succ g =>
      have hlt : (j : Int) < (n : Int) := by omega
      have hjl : j < xs.length := by rw [HN.out]; omega
      obtain ⟨x, hxe⟩ : ∃ x, xs[j] = x := ⟨_, rfl⟩
      have hxv := HV.out.1 xs[j] (List.getElem_mem hjl)
      rw [hxe] at hxv
      have hsw : InsAt wr q A xs := HS.out.below (HQ.out _ HG.out.md)
      obtain ⟨b, o, rfl, hb, hat⟩ := hsw.at_ hjl
      rw [hxe] at hat
      have hc0 := hat.c0; have hc1 := hat.c1; have hc2 := hat.c2; have hc3 := hat.c3; have hc4 := hat.c4
      have HE : Hid (l ++ putS n ++ encC (xs.take (j + 1)) = l ++ putS n ++ encC (xs.take j) ++ encM (inM x)) := by show _ = _; rw [encC_snocP xs j hjl, hxe, List.append_assoc (l ++ putS n)]
      have hle : (encC (xs.take j)).length ≤ 61 * j := Nat.le_trans (encC_leP _) (by rw [List.length_take]; omega)
      have hp := putS_le n
      have HGA : Hid (GPS w q (l ++ putS n ++ encC (xs.take j)) (wr.alloc (.cells #[.int .i64 x.op, .int .i64 x.d, .int .i64 x.a, .int .i64 x.b, .int .i64 x.imm] 66))) := HG.out.below ((Below.refl _ _).alloc (Nat.le_refl _) _)
      have HBA := Lib.hid (HB.out.alloc (.cells #[.int .i64 x.op, .int .i64 x.d, .int .i64 x.a, .int .i64 x.b, .int .i64 x.imm] 66))
      have hxr := Row.new wr 66 #[.int .i64 x.op, .int .i64 x.d, .int .i64 x.a, .int .i64 x.b, .int .i64 x.imm]
      obtain ⟨v1, hv1⟩ := HGA.out.wr
      have C := Lib.hid (putiE hv1 (by simp only [List.length_append]; omega) (Nat.le_refl _) hxv)
      clear hxe hle hp hv1 hjl hsw hxv HG HB hat
      go_upto_region 5 with fail
      generalize (wr.alloc (.cells #[.int .i64 x.op, .int .i64 x.d, .int .i64 x.a, .int .i64 x.b, .int .i64 x.imm] 66)) = W1 at *
      have x0 := hxr.cell 0
      have x1 := hxr.cell 1
      have x2 := hxr.cell 2
      have x3 := hxr.cell 3
      have x4 := hxr.cell 4
      simp only [List.getElem?_toArray, List.getElem?_cons_zero, List.getElem?_cons_succ] at x0 x1 x2 x3 x4
      clear hxr
      go_wp2_with fail
      refine C.out.mono ?_
      rintro e W2 ⟨⟨rfl, hw, hmm⟩, hk⟩
      have HG2 := Lib.hid (HGA.out.next hw hmm hk)
      have HB2 := Lib.hid (hk _ _ _ HBA.out (by decide) (by decide))
      clear hw hmm hk C HGA HBA
      rw [← HE.out] at HG2
      go_wp2
      go_roundg g
      case measure => omega
      case rel => exact ⟨j + 1, by omega, by go_num, HG2, HB2⟩

theorem encBs_snocP (bs : List Blk) (k : Nat) (h : k < bs.length) : encBs (bs.take (k + 1)) = encBs (bs.take k) ++ encB bs[k] := by
  unfold encBs
  rw [List.take_succ_eq_append_getElem h, List.flatMap_append, List.flatMap_cons, List.flatMap_nil, List.append_nil]

theorem encBs_leP {bs : List Blk} {j n : Nat} (h : bs.length ≤ n) : (encBs (bs.take j)).length ≤ 61 * codeN bs + 41 * n := by
  have h1 := encBs_len18 bs
  have h2 : (encBs (bs.take j)).length ≤ (encBs bs).length := by
    have : encBs bs = encBs (bs.take j) ++ encBs (bs.drop j) := by
      unfold encBs
      rw [← List.flatMap_append, List.take_append_drop]
    rw [this, List.length_append]
    omega
  omega

set_option maxRecDepth 100000 in
set_option maxHeartbeats 4000000 in
theorem pputf_K {w : World} {q hi : Nat} {v : Value} {l : List Nat} (h : Wri w q hi v l) (hm : l.length + 200000000 ≤ 70368744177664) (hhi : hi ≤ w.heap.size) {f : Fd} (hf : VF f) {A : Option Addr} {c : Nat} (hs : BlksAt w q A f.bs) (hc : f.bs.length ≤ c) :
    Calls Tryz.prog 10 #[.pointer (some ⟨q, 0, none⟩), .agg #[.int .i64 f.args, .int .i64 f.regs, .slice A f.bs.length c]] w (WroteK w q (l ++ encF' f)) := by
  have hmf : ∀ (fn : Fn) (first cap : Array Value) (w : World), (Instr.makeFunc fn first cap).run Tryz.prog w = .ok (.func fn first cap) w := fun _ _ _ _ => rfl
  obtain ⟨n, hn⟩ : ∃ n, f.bs.length = n := ⟨_, rfl⟩
  rw [hn] at hc ⊢
  have HV := Lib.hid hf
  have HN := Lib.hid hn
  have HS := Lib.hid hs
  have hn2 : n ≤ 1048576 := by have := hf.n; omega
  have HQ : Hid (∀ W, Mods (From q) w W → Below q w W) := fun W hm => hm.below (Nat.le_of_lt h.row.lt) fun k hk => hk
  have HG : Hid (GPS w q l (w.alloc (.cells #[.int .i64 f.args, .int .i64 f.regs, .slice A n c] 24))) := (GPS.new h hhi).below ((Below.refl _ _).alloc (Nat.le_refl _) _)
  have HB := Lib.hid (Row.new w 24 #[.int .i64 f.args, .int .i64 f.regs, .slice A n c])
  have HX : Hid (∀ x ∈ [f.args, f.regs, (n : Int)], 0 ≤ x ∧ x ≤ 9223372036854775807) := fun x hx => by
    have ha := hf.a; have hr := hf.r
    simp only [List.mem_cons, List.not_mem_nil, or_false] at hx
    rcases hx with rfl | rfl | rfl <;> omega
  clear h hhi hs hn hf
  go_enter Tryz.func10, Tryz.ntmps10
  go_upto_region 1 with fail
  generalize (w.alloc (.cells #[.int .i64 f.args, .int .i64 f.regs, .slice A n c] 24)) = W0 at *
  generalize w.heap.size = bx at *
  have b0 := HB.out.cell 0
  have b1 := HB.out.cell 1
  have b2 := HB.out.cell 2
  simp only [List.getElem?_toArray, List.getElem?_cons_zero, List.getElem?_cons_succ] at b0 b1 b2
  have HG0 : Hid (GPS w q l (W0.alloc (.cells #[.int .i64 f.args, .int .i64 f.regs, .int .i64 (n : Int)] 3))) := HG.out.below ((Below.refl _ _).alloc (Nat.le_refl _) _)
  have HB0 := Lib.hid (HB.out.alloc (.cells #[.int .i64 f.args, .int .i64 f.regs, .int .i64 (n : Int)] 3))
  obtain ⟨v0, hv0⟩ := HG0.out.wr
  have C1 := Lib.hid (putnums_any hv0 (Nat.le_refl _) (k := W0.heap.size) (c := 3) [f.args, f.regs, (n : Int)] (cs := #[.int .i64 f.args, .int .i64 f.regs, .int .i64 (n : Int)]) rfl (Row.new W0 3 _) HX.out 3 rfl (by omega) (by omega))
  clear hv0
  go_wp2_with fail
  refine C1.out.mono ?_
  rintro e W1 ⟨⟨rfl, hw, hmm⟩, hk⟩
  have HG1 := Lib.hid (HG0.out.next hw hmm hk)
  have HB1 := Lib.hid (hk _ _ _ HB0.out (by decide) (by decide))
  obtain ⟨pre, hpre⟩ : ∃ y, l ++ encNs [f.args, f.regs, (n : Int)] = y := ⟨_, rfl⟩
  rw [hpre] at HG1
  have HPL : Hid (pre.length ≤ l.length + 30) := by show _ ≤ _; rw [← hpre, List.length_append]; have := encNs_le [f.args, f.regs, (n : Int)]; simp only [List.length_cons, List.length_nil] at this; omega
  have HPE : Hid (l ++ encF' f = pre ++ encBs f.bs) := by
    show _ = _
    rw [← hpre]
    unfold encF' encNs
    rw [HN.out]
    simp [List.append_assoc]
  clear hw hmm hk C1 HG HB HG0 HB0 hpre b0 b1 b2
  have b2 := HB1.out.cell 2
  simp only [List.getElem?_toArray, List.getElem?_cons_zero, List.getElem?_cons_succ] at b2
  go_upto_region 3 with fail
  clear b2 HB1
  go_wp2
  go_loopg [19] n (fun g v19 wr => ∃ (j : Nat), j + g = n ∧ v19 = .int .i64 j ∧ Hid (GPS w q (pre ++ encBs (f.bs.take j)) wr))
  case atStart => exact ⟨0, by omega, rfl, by rw [List.take_zero]; show GPS w q (pre ++ []) W1; rw [List.append_nil]; exact HG1.out⟩
  case round =>
    clear HG1
    obtain ⟨j, hj, rfl, HG⟩ := hrel
    cases gk with
    | zero =>
      have hlt : ¬ (j : Int) < (n : Int) := by omega
      have HJ : Hid (f.bs.take j = f.bs) := by show _ = _; rw [List.take_of_length_le (by rw [HN.out]; omega)]
      rw [HJ.out] at HG
      go_wp2
      go_end0
      exact HG.out.done HPE.out.symm
    | succ g =>
      have hlt : (j : Int) < (n : Int) := by omega
      have hjl : j < f.bs.length := by rw [HN.out]; omega
      obtain ⟨b, hbe⟩ : ∃ b, f.bs[j] = b := ⟨_, rfl⟩
      have hbv := HV.out.v f.bs[j] (List.getElem_mem hjl)
      have hbc := codeN_mem18 (List.getElem_mem hjl)
      have hcc := HV.out.c
      rw [hbe] at hbv hbc
      have hsw : BlksAt wr q A f.bs := HS.out.below (HQ.out _ HG.out.md)
      obtain ⟨k, o, rfl, hb, hat⟩ := hsw (by intro e; rw [e] at hjl; cases hjl)
      have hat := hat j _ (List.getElem?_eq_getElem hjl)
      rw [hbe] at hat
      obtain ⟨Ac, cc, h0, hcl, hcx, hca⟩ := hat.code
      have h1 := hat.t0; have h2 := hat.t1; have h3 := hat.t2; have h4 := hat.t3
      have HE : Hid (pre ++ encBs (f.bs.take (j + 1)) = pre ++ encBs (f.bs.take j) ++ encB b) := by show _ = _; rw [encBs_snocP f.bs j hjl, hbe, List.append_assoc]
      have hle : (encBs (f.bs.take j)).length ≤ 61 * codeN f.bs + 41 * n := encBs_leP (by rw [HN.out]; omega)
      have hpl := HPL.out
      have HGA : Hid (GPS w q (pre ++ encBs (f.bs.take j)) (wr.alloc (.cells #[.slice Ac b.code.length cc, .int .i64 b.term.kind, .int .i64 b.term.a, .int .i64 b.term.to, .int .i64 b.term.el] 60))) := HG.out.below ((Below.refl _ _).alloc (Nat.le_refl _) _)
      have hxr := Row.new wr 60 #[.slice Ac b.code.length cc, .int .i64 b.term.kind, .int .i64 b.term.a, .int .i64 b.term.to, .int .i64 b.term.el]
      have HCA : Hid (InsAt (wr.alloc (.cells #[.slice Ac b.code.length cc, .int .i64 b.term.kind, .int .i64 b.term.a, .int .i64 b.term.to, .int .i64 b.term.el] 60)) q Ac b.code) := InsAt.below hca ((Below.refl _ _).alloc (by have hq := (HG.out.wr); obtain ⟨_, hq⟩ := hq; have := hq.row.lt; omega) _)
      obtain ⟨v1, hv1⟩ := HGA.out.wr
      have C := Lib.hid (putblki_any hv1 (Nat.le_refl _) HCA.out hbv rfl hcl (by omega) (by simp only [List.length_append]; omega))
      clear hbe hle hpl hv1 hjl hsw hbv hbc hcc HG hat hca hcx
      go_upto_region 5 with fail
      generalize (wr.alloc (.cells #[.slice Ac b.code.length cc, .int .i64 b.term.kind, .int .i64 b.term.a, .int .i64 b.term.to, .int .i64 b.term.el] 60)) = W2 at *
      have x0 := hxr.cell 0
      have x1 := hxr.cell 1
      have x2 := hxr.cell 2
      have x3 := hxr.cell 3
      have x4 := hxr.cell 4
      simp only [List.getElem?_toArray, List.getElem?_cons_zero, List.getElem?_cons_succ] at x0 x1 x2 x3 x4
      clear hxr
      go_wp2_with fail
      refine C.out.mono ?_
      rintro e W3 ⟨⟨rfl, hw, hmm⟩, hk⟩
      have HG2 := Lib.hid (HGA.out.next hw hmm hk)
      clear hw hmm hk C HGA HCA h0 h1 h2 h3 h4
      rw [← HE.out] at HG2
      go_wp2
      go_roundg g
      case measure => omega
      case rel => exact ⟨j + 1, by omega, by go_num, HG2⟩

end Go.Proofs.YtmmdhhjpbolkhaaGreat

/-
  The program of layer 18: putBlock of an allocated function, PutMFunc (made by wip/lab/genfcpu.py).
-/
namespace Go.Proofs.YtmmdhhjpbolkhaaGreat
open Go.RowKit
set_option linter.unusedVariables false
set_option linter.unusedSimpArgs false

theorem encK_leP (xs : List Mi) : (encK xs).length ≤ 61 * xs.length := fm_len18 encM 61 (fun x => encM_len18 _) xs

theorem encK_snocP (xs : List Mi) (k : Nat) (h : k < xs.length) : encK (xs.take (k + 1)) = encK (xs.take k) ++ encM xs[k] := by
  unfold encK
  rw [List.take_succ_eq_append_getElem h, List.flatMap_append, List.flatMap_cons, List.flatMap_nil, List.append_nil]

theorem putmE {w : World} {q hi : Nat} {v : Value} {l : List Nat} (h : Wri w q hi v l) (hm : l.length + 100 ≤ 70368744177664) (hhi : hi ≤ w.heap.size) {x : Mi} (hx : (1 ≤ x.op ∧ x.op ≤ 18) ∧ PI x) :
    Calls Tryz.prog 35 #[.pointer (some ⟨q, 0, none⟩), .agg #[.int .i64 x.op, .int .i64 x.d, .int .i64 x.a, .int .i64 x.b, .int .i64 x.imm, .int .i64 x.dst, .int .i64 x.src]] w (WroteK w q (l ++ encM x)) := by
  obtain ⟨ho, hp, hi2, hd, ha, hb, h5, h6⟩ := hx
  have e2 : encM x = x.op.toNat :: (encO (uD x.op) x.d ++ (encO (uA x.op) x.a ++ (encO (uB x.op) x.b ++ (encO (uI x.op) (zz x.imm) ++ (encO (x.op == 18) x.dst ++ encO (x.op == 18) x.src))))) := by
    unfold encM
    rw [uI_eq]
  rw [e2]
  exact putmK h hm hhi ho hi2 hd ha hb h5 h6

set_option maxRecDepth 100000 in
set_option maxHeartbeats 4000000 in
theorem putblkm_any {w : World} {q hi : Nat} {v : Value} {l : List Nat} (h : Wri w q hi v l) (hhi : hi ≤ w.heap.size) {A : Option Addr} {c n : Nat} {xs : List Mi} {t : Tm} (hs : MisAt w q A xs) (hv : VMB ⟨xs, t⟩) (hn : xs.length = n) (hc : n ≤ c) (hn2 : n ≤ 1048576) (hm : l.length + 61 * n + 200 ≤ 70368744177664) :
    Calls Tryz.prog 34 #[.pointer (some ⟨q, 0, none⟩), .slice A n c, .func (.func 35) #[] #[], .agg #[.int .i64 t.kind, .int .i64 t.a, .int .i64 t.to, .int .i64 t.el]] w (WroteK w q (l ++ encMB ⟨xs, t⟩)) := by
  have hmf : ∀ (fn : Fn) (first cap : Array Value) (w : World), (Instr.makeFunc fn first cap).run Tryz.prog w = .ok (.func fn first cap) w := fun _ _ _ _ => rfl
  have HV := Lib.hid hv
  have HN := Lib.hid hn
  have HS := Lib.hid hs
  have HQ : Hid (∀ W, Mods (From q) w W → Below q w W) := fun W hm => hm.below (Nat.le_of_lt h.row.lt) fun k hk => hk
  have HG : Hid (GPS w q l (w.alloc (.cells #[.int .i64 t.kind, .int .i64 t.a, .int .i64 t.to, .int .i64 t.el] 57))) := (GPS.new h hhi).below ((Below.refl _ _).alloc (Nat.le_refl _) _)
  have HB := Lib.hid (Row.new w 57 #[.int .i64 t.kind, .int .i64 t.a, .int .i64 t.to, .int .i64 t.el])
  clear h hhi hs hv hn
  go_enter Tryz.func34, Tryz.ntmps34
  go_upto_region 1 with fail
  generalize (w.alloc (.cells #[.int .i64 t.kind, .int .i64 t.a, .int .i64 t.to, .int .i64 t.el] 57)) = W0 at *
  generalize w.heap.size = bx at *
  have HG0 : Hid (GPS w q l (W0.alloc (.cells #[.int .i64 (n : Int)] 3))) := HG.out.below ((Below.refl _ _).alloc (Nat.le_refl _) _)
  have HB0 := Lib.hid (HB.out.alloc (.cells #[.int .i64 (n : Int)] 3))
  obtain ⟨v0, hv0⟩ := HG0.out.wr
  have C1 := Lib.hid (putnums_any hv0 (Nat.le_refl _) (k := W0.heap.size) (c := 1) [(n : Int)] (cs := #[.int .i64 (n : Int)]) rfl (Row.new W0 3 _) (by intro x hx; rw [List.mem_singleton.1 hx]; omega) 1 rfl (by omega) (by omega))
  clear hv0
  go_wp2_with fail
  refine C1.out.mono ?_
  rintro e W1 ⟨⟨rfl, hw, hmm⟩, hk⟩
  have HG1 := Lib.hid (HG0.out.next hw hmm hk)
  have HB1 := Lib.hid (hk _ _ _ HB0.out (by decide) (by decide))
  have HE1 : Hid (l ++ encNs [(n : Int)] = l ++ putS n) := by show _ = _; unfold encNs; simp
  rw [HE1.out] at HG1
  clear hw hmm hk C1 HG HB HG0 HB0 HE1
  go_wp2
  go_loopg [17] n (fun g v17 wr => ∃ (j : Nat), j + g = n ∧ v17 = .int .i64 j ∧ Hid (GPS w q (l ++ putS n ++ encK (xs.take j)) wr) ∧ Hid (Row wr bx 57 #[.int .i64 t.kind, .int .i64 t.a, .int .i64 t.to, .int .i64 t.el]))
  case atStart => exact ⟨0, by omega, rfl, by rw [List.take_zero]; show GPS w q (l ++ putS n ++ []) W1; rw [List.append_nil]; exact HG1.out, HB1.out⟩
  case round =>
    clear HG1 HB1
    obtain ⟨j, hj, rfl, HG, HB⟩ := hrel
    cases gk with
    | zero =>
      have hlt : ¬ (j : Int) < (n : Int) := by omega
      have HJ : Hid (xs.take j = xs) := by show _ = _; rw [List.take_of_length_le (by rw [HN.out]; omega)]
      rw [HJ.out] at HG
      have hle := encK_leP xs
      rw [HN.out] at hle
      have hp := putS_le n
      obtain ⟨v1, hv1⟩ := HG.out.wr
      have C := Lib.hid (puttE hv1 (by simp only [List.length_append]; omega) (Nat.le_refl _) HV.out.2.1 HV.out.2.2)
      have b0 := HB.out.cell 0; have b1 := HB.out.cell 1; have b2 := HB.out.cell 2; have b3 := HB.out.cell 3
      simp only [List.getElem?_toArray, List.getElem?_cons_zero, List.getElem?_cons_succ] at b0 b1 b2 b3
      clear hle hp hv1
      go_wp2_with fail
      refine C.out.mono ?_
      rintro e W2 ⟨⟨rfl, hw, hmm⟩, hk⟩
      have HG2 := Lib.hid (HG.out.next hw hmm hk)
      clear hw hmm hk C b0 b1 b2 b3
      go_wp2
      go_end0
      exact HG2.out.done (by show _ = l ++ (putS xs.length ++ (encK xs ++ encT t)); rw [HN.out]; simp only [List.append_assoc])
    | succ g =>
      have hlt : (j : Int) < (n : Int) := by omega
      have hjl : j < xs.length := by rw [HN.out]; omega
      obtain ⟨x, hxe⟩ : ∃ x, xs[j] = x := ⟨_, rfl⟩
      have hxv := HV.out.1 xs[j] (List.getElem_mem hjl)
      rw [hxe] at hxv
      have hsw : MisAt wr q A xs := HS.out.below (HQ.out _ HG.out.md)
      obtain ⟨b, o, rfl, hb, hat⟩ := hsw.at_ hjl
      rw [hxe] at hat
      have hc0 := hat.c0; have hc1 := hat.c1; have hc2 := hat.c2; have hc3 := hat.c3; have hc4 := hat.c4; have hc5 := hat.c5; have hc6 := hat.c6
      have HE : Hid (l ++ putS n ++ encK (xs.take (j + 1)) = l ++ putS n ++ encK (xs.take j) ++ encM x) := by show _ = _; rw [encK_snocP xs j hjl, hxe, List.append_assoc (l ++ putS n)]
      have hle : (encK (xs.take j)).length ≤ 61 * j := Nat.le_trans (encK_leP _) (by rw [List.length_take]; omega)
      have hp := putS_le n
      have HGA : Hid (GPS w q (l ++ putS n ++ encK (xs.take j)) (wr.alloc (.cells #[.int .i64 x.op, .int .i64 x.d, .int .i64 x.a, .int .i64 x.b, .int .i64 x.imm, .int .i64 x.dst, .int .i64 x.src] 71))) := HG.out.below ((Below.refl _ _).alloc (Nat.le_refl _) _)
      have HBA := Lib.hid (HB.out.alloc (.cells #[.int .i64 x.op, .int .i64 x.d, .int .i64 x.a, .int .i64 x.b, .int .i64 x.imm, .int .i64 x.dst, .int .i64 x.src] 71))
      have hxr := Row.new wr 71 #[.int .i64 x.op, .int .i64 x.d, .int .i64 x.a, .int .i64 x.b, .int .i64 x.imm, .int .i64 x.dst, .int .i64 x.src]
      obtain ⟨v1, hv1⟩ := HGA.out.wr
      have C := Lib.hid (putmE hv1 (by simp only [List.length_append]; omega) (Nat.le_refl _) hxv)
      clear hxe hle hp hv1 hjl hsw hxv HG HB hat
      go_upto_region 5 with fail
      generalize (wr.alloc (.cells #[.int .i64 x.op, .int .i64 x.d, .int .i64 x.a, .int .i64 x.b, .int .i64 x.imm, .int .i64 x.dst, .int .i64 x.src] 71)) = W1 at *
      have x0 := hxr.cell 0
      have x1 := hxr.cell 1
      have x2 := hxr.cell 2
      have x3 := hxr.cell 3
      have x4 := hxr.cell 4
      have x5 := hxr.cell 5
      have x6 := hxr.cell 6
      simp only [List.getElem?_toArray, List.getElem?_cons_zero, List.getElem?_cons_succ] at x0 x1 x2 x3 x4 x5 x6
      clear hxr
      go_wp2_with fail
      refine C.out.mono ?_
      rintro e W2 ⟨⟨rfl, hw, hmm⟩, hk⟩
      have HG2 := Lib.hid (HGA.out.next hw hmm hk)
      have HB2 := Lib.hid (hk _ _ _ HBA.out (by decide) (by decide))
      clear hw hmm hk C HGA HBA
      rw [← HE.out] at HG2
      go_wp2
      go_roundg g
      case measure => omega
      case rel => exact ⟨j + 1, by omega, by go_num, HG2, HB2⟩

theorem encMBs_snocP (bs : List MBlk) (k : Nat) (h : k < bs.length) : encMBs (bs.take (k + 1)) = encMBs (bs.take k) ++ encMB bs[k] := by
  unfold encMBs
  rw [List.take_succ_eq_append_getElem h, List.flatMap_append, List.flatMap_cons, List.flatMap_nil, List.append_nil]

theorem encMBs_leP {bs : List MBlk} {j n : Nat} (h : bs.length ≤ n) : (encMBs (bs.take j)).length ≤ 61 * mcodeN bs + 41 * n := by
  have h1 := encMBs_len18 bs
  have h2 : (encMBs (bs.take j)).length ≤ (encMBs bs).length := by
    have : encMBs bs = encMBs (bs.take j) ++ encMBs (bs.drop j) := by
      unfold encMBs
      rw [← List.flatMap_append, List.take_append_drop]
    rw [this, List.length_append]
    omega
  omega

set_option maxRecDepth 100000 in
set_option maxHeartbeats 4000000 in
theorem pputmf_K {w : World} {q hi : Nat} {v : Value} {l : List Nat} (h : Wri w q hi v l) (hm : l.length + 200000000 ≤ 70368744177664) (hhi : hi ≤ w.heap.size) {f : Gd} (hf : VG f) {A : Option Addr} {c : Nat} (hs : MBlksAt w q A f.ms) (hc : f.ms.length ≤ c) :
    Calls Tryz.prog 11 #[.pointer (some ⟨q, 0, none⟩), .agg #[.int .i64 f.args, .int .i64 f.regs, .int .i64 f.slots, .slice A f.ms.length c]] w (WroteK w q (l ++ encG f)) := by
  have hmf : ∀ (fn : Fn) (first cap : Array Value) (w : World), (Instr.makeFunc fn first cap).run Tryz.prog w = .ok (.func fn first cap) w := fun _ _ _ _ => rfl
  obtain ⟨n, hn⟩ : ∃ n, f.ms.length = n := ⟨_, rfl⟩
  rw [hn] at hc ⊢
  have HV := Lib.hid hf
  have HN := Lib.hid hn
  have HS := Lib.hid hs
  have hn2 : n ≤ 1048576 := by have := hf.n; omega
  have HQ : Hid (∀ W, Mods (From q) w W → Below q w W) := fun W hm => hm.below (Nat.le_of_lt h.row.lt) fun k hk => hk
  have HG : Hid (GPS w q l (w.alloc (.cells #[.int .i64 f.args, .int .i64 f.regs, .int .i64 f.slots, .slice A n c] 27))) := (GPS.new h hhi).below ((Below.refl _ _).alloc (Nat.le_refl _) _)
  have HB := Lib.hid (Row.new w 27 #[.int .i64 f.args, .int .i64 f.regs, .int .i64 f.slots, .slice A n c])
  have HX : Hid (∀ x ∈ [f.args, f.regs, f.slots, (n : Int)], 0 ≤ x ∧ x ≤ 9223372036854775807) := fun x hx => by
    have ha := hf.a; have hr := hf.r; have hsl := hf.s
    simp only [List.mem_cons, List.not_mem_nil, or_false] at hx
    rcases hx with rfl | rfl | rfl | rfl <;> omega
  clear h hhi hs hn hf
  go_enter Tryz.func11, Tryz.ntmps11
  go_upto_region 1 with fail
  generalize (w.alloc (.cells #[.int .i64 f.args, .int .i64 f.regs, .int .i64 f.slots, .slice A n c] 27)) = W0 at *
  generalize w.heap.size = bx at *
  have b0 := HB.out.cell 0
  have b1 := HB.out.cell 1
  have b2 := HB.out.cell 2
  have b3 := HB.out.cell 3
  simp only [List.getElem?_toArray, List.getElem?_cons_zero, List.getElem?_cons_succ] at b0 b1 b2 b3
  have HG0 : Hid (GPS w q l (W0.alloc (.cells #[.int .i64 f.args, .int .i64 f.regs, .int .i64 f.slots, .int .i64 (n : Int)] 3))) := HG.out.below ((Below.refl _ _).alloc (Nat.le_refl _) _)
  have HB0 := Lib.hid (HB.out.alloc (.cells #[.int .i64 f.args, .int .i64 f.regs, .int .i64 f.slots, .int .i64 (n : Int)] 3))
  obtain ⟨v0, hv0⟩ := HG0.out.wr
  have C1 := Lib.hid (putnums_any hv0 (Nat.le_refl _) (k := W0.heap.size) (c := 4) [f.args, f.regs, f.slots, (n : Int)] (cs := #[.int .i64 f.args, .int .i64 f.regs, .int .i64 f.slots, .int .i64 (n : Int)]) rfl (Row.new W0 3 _) HX.out 4 rfl (by omega) (by omega))
  clear hv0
  go_wp2_with fail
  refine C1.out.mono ?_
  rintro e W1 ⟨⟨rfl, hw, hmm⟩, hk⟩
  have HG1 := Lib.hid (HG0.out.next hw hmm hk)
  have HB1 := Lib.hid (hk _ _ _ HB0.out (by decide) (by decide))
  obtain ⟨pre, hpre⟩ : ∃ y, l ++ encNs [f.args, f.regs, f.slots, (n : Int)] = y := ⟨_, rfl⟩
  rw [hpre] at HG1
  have HPL : Hid (pre.length ≤ l.length + 40) := by show _ ≤ _; rw [← hpre, List.length_append]; have := encNs_le [f.args, f.regs, f.slots, (n : Int)]; simp only [List.length_cons, List.length_nil] at this; omega
  have HPE : Hid (l ++ encG f = pre ++ encMBs f.ms) := by
    show _ = _
    rw [← hpre]
    unfold encG encNs
    rw [HN.out]
    simp [List.append_assoc]
  clear hw hmm hk C1 HG HB HG0 HB0 hpre b0 b1 b2 b3
  have b3 := HB1.out.cell 3
  simp only [List.getElem?_toArray, List.getElem?_cons_zero, List.getElem?_cons_succ] at b3
  go_upto_region 3 with fail
  clear b3 HB1
  go_wp2
  go_loopg [21] n (fun g v19 wr => ∃ (j : Nat), j + g = n ∧ v19 = .int .i64 j ∧ Hid (GPS w q (pre ++ encMBs (f.ms.take j)) wr))
  case atStart => exact ⟨0, by omega, rfl, by rw [List.take_zero]; show GPS w q (pre ++ []) W1; rw [List.append_nil]; exact HG1.out⟩
  case round =>
    clear HG1
    obtain ⟨j, hj, rfl, HG⟩ := hrel
    cases gk with
    | zero =>
      have hlt : ¬ (j : Int) < (n : Int) := by omega
      have HJ : Hid (f.ms.take j = f.ms) := by show _ = _; rw [List.take_of_length_le (by rw [HN.out]; omega)]
      rw [HJ.out] at HG
      go_wp2
      go_end0
      exact HG.out.done HPE.out.symm
    | succ g =>
      have hlt : (j : Int) < (n : Int) := by omega
      have hjl : j < f.ms.length := by rw [HN.out]; omega
      obtain ⟨b, hbe⟩ : ∃ b, f.ms[j] = b := ⟨_, rfl⟩
      have hbv := HV.out.v f.ms[j] (List.getElem_mem hjl)
      have hbc := mcodeN_mem18 (List.getElem_mem hjl)
      have hcc := HV.out.c
      rw [hbe] at hbv hbc
      have hsw : MBlksAt wr q A f.ms := HS.out.below (HQ.out _ HG.out.md)
      obtain ⟨k, o, rfl, hb, hat⟩ := hsw (by intro e; rw [e] at hjl; cases hjl)
      have hat := hat j _ (List.getElem?_eq_getElem hjl)
      rw [hbe] at hat
      obtain ⟨Ac, cc, h0, hcl, hcx, hca⟩ := hat.code
      have h1 := hat.t0; have h2 := hat.t1; have h3 := hat.t2; have h4 := hat.t3
      have HE : Hid (pre ++ encMBs (f.ms.take (j + 1)) = pre ++ encMBs (f.ms.take j) ++ encMB b) := by show _ = _; rw [encMBs_snocP f.ms j hjl, hbe, List.append_assoc]
      have hle : (encMBs (f.ms.take j)).length ≤ 61 * mcodeN f.ms + 41 * n := encMBs_leP (by rw [HN.out]; omega)
      have hpl := HPL.out
      have HGA : Hid (GPS w q (pre ++ encMBs (f.ms.take j)) (wr.alloc (.cells #[.slice Ac b.code.length cc, .int .i64 b.term.kind, .int .i64 b.term.a, .int .i64 b.term.to, .int .i64 b.term.el] 63))) := HG.out.below ((Below.refl _ _).alloc (Nat.le_refl _) _)
      have hxr := Row.new wr 63 #[.slice Ac b.code.length cc, .int .i64 b.term.kind, .int .i64 b.term.a, .int .i64 b.term.to, .int .i64 b.term.el]
      have HCA : Hid (MisAt (wr.alloc (.cells #[.slice Ac b.code.length cc, .int .i64 b.term.kind, .int .i64 b.term.a, .int .i64 b.term.to, .int .i64 b.term.el] 63)) q Ac b.code) := MisAt.below hca ((Below.refl _ _).alloc (by have hq := (HG.out.wr); obtain ⟨_, hq⟩ := hq; have := hq.row.lt; omega) _)
      obtain ⟨v1, hv1⟩ := HGA.out.wr
      have C := Lib.hid (putblkm_any hv1 (Nat.le_refl _) HCA.out hbv rfl hcl (by omega) (by simp only [List.length_append]; omega))
      clear hbe hle hpl hv1 hjl hsw hbv hbc hcc HG hat hca hcx
      go_upto_region 5 with fail
      generalize (wr.alloc (.cells #[.slice Ac b.code.length cc, .int .i64 b.term.kind, .int .i64 b.term.a, .int .i64 b.term.to, .int .i64 b.term.el] 63)) = W2 at *
      have x0 := hxr.cell 0
      have x1 := hxr.cell 1
      have x2 := hxr.cell 2
      have x3 := hxr.cell 3
      have x4 := hxr.cell 4
      simp only [List.getElem?_toArray, List.getElem?_cons_zero, List.getElem?_cons_succ] at x0 x1 x2 x3 x4
      clear hxr
      go_wp2_with fail
      refine C.out.mono ?_
      rintro e W3 ⟨⟨rfl, hw, hmm⟩, hk⟩
      have HG2 := Lib.hid (HGA.out.next hw hmm hk)
      clear hw hmm hk C HGA HCA h0 h1 h2 h3 h4
      rw [← HE.out] at HG2
      go_wp2
      go_roundg g
      case measure => omega
      case rel => exact ⟨j + 1, by omega, by go_num, HG2⟩

end Go.Proofs.YtmmdhhjpbolkhaaGreat
