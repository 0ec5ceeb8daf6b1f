/-
  The walk of the statement on the reference.
-/
import Derived.Test.YtcoehkphdfejjaaSaHead
import Derived.Test.YtcoehkphdfejjaaSaRc
import Derived.Test.YtcoehkphdfejjaaSmCd
import Derived.Test.YtcoehkphdfejjaaPk2
namespace Go.Proofs.Ytcoehkphdfejjaa
open Go.RowKit Go.Deep
set_option linter.unusedVariables false
set_option linter.unusedSimpArgs false

/-- What holds of the certificates that come out, in sizes. -/
theorem spR_few {a r : Int} {bs : List Blk} (hf : FewF r bs) : ((spR a r bs).1.bs.length ≤ 1000000 ∧ codeN (spR a r bs).1.bs ≤ 1000000) ∧ ((spR a r bs).1.ms.length ≤ 1000000 ∧ mcodeN (spR a r bs).1.ms ≤ 1000000) ∧ (spR a r bs).1.inv.length ≤ 1000000 := by
  obtain ⟨f1, f2, f3⟩ := hf
  have hm := spBs_len bs
  unfold spR
  split
  · exact ⟨⟨Nat.zero_le _, Nat.zero_le _⟩, ⟨Nat.zero_le _, Nat.zero_le _⟩, Nat.zero_le _⟩
  · split
    · exact ⟨⟨Nat.zero_le _, Nat.zero_le _⟩, ⟨Nat.zero_le _, Nat.zero_le _⟩, Nat.zero_le _⟩
    · refine ⟨⟨?_, ?_⟩, ⟨?_, ?_⟩, ?_⟩
      · show bs.length ≤ _; omega
      · show codeN bs ≤ _; omega
      · show (bs.map spB).length ≤ _; rw [List.length_map]; omega
      · show mcodeN (bs.map spB) ≤ _; omega
      · show (bs.map fun _ => invN r.toNat).length ≤ _; rw [List.length_map]; omega

set_option maxRecDepth 100000 in
set_option maxHeartbeats 8000000 in
theorem SpillallMatchesReference_walk (a0 : Array Value) (w : World) (w0 : IsFn w a0) :
    Calls Try.prog 3 #[.agg a0] w fun e w' => e = .returned (.bool true) ∧ Below w.heap.size w w' := by
  have mixed : Try.prog.follows .mixedOrders = true := by kernel_rfl
  obtain ⟨a, r, A, bs, c, rfl, _, _, hlc, hcm, hbs, hwf⟩ := w0
  have HZ : Hid (FZ w a r A bs c (w.alloc (.cells #[.int .i64 a, .int .i64 r, .slice A bs.length c] 24))) := FZ.start hbs
  have hml : bs.length ≤ maxLen := Nat.le_trans hlc hcm
  clear hbs hwf hlc hcm
  go_enter Try.func3, Try.ntmps3
  go_upto_region 1 with fail
  generalize (w.alloc (.cells #[.int .i64 a, .int .i64 r, .slice A bs.length c] 24)) = W0 at *
  obtain ⟨xb, hxb⟩ : ∃ z, w.heap.size = z := ⟨_, rfl⟩
  rw [hxb]
  go_wp2_with fail
  refine (awake22_any _).mono ?_
  rintro e W1 ⟨rfl, hb⟩
  have HZ1 := Lib.hid (HZ.out.next hb)
  clear hb HZ
  have x0 := HZ1.out.row.k0; have x1 := HZ1.out.row.k1; have x2 := HZ1.out.row.k2
  rw [hxb] at x0 x1 x2
  have C1 := Lib.hid (rfew_any _ A bs c a r W1 HZ1.out.at_ (Nat.le_refl _) hml)
  go_wp2_with fail
  refine C1.out.mono ?_
  rintro e W2 ⟨⟨b, rfl, hF⟩, hb⟩
  have HZ2 := Lib.hid (HZ1.out.next hb)
  clear hb HZ1 C1 x0 x1 x2
  cases b
  · go_wp2_with fail
    refine (awake22_any _).mono ?_
    rintro e W3 ⟨rfl, hb⟩
    have HZ3 := Lib.hid (HZ2.out.next hb)
    clear hb HZ2
    go_wp2
    go_ret
    exact ⟨rfl, HZ3.out.blw⟩
  · have hf := hF rfl
    obtain ⟨f1, f2, f3⟩ := id hf
    have HF := Lib.hid hf
    have HFW := Lib.hid (spR_few (a := a) hf)
    have hok := spR_ok (a := a) (bs := bs) (show r ≤ 1000000 by omega)
    have C2 : Hid (∀ W, FZ w a r A bs c W → Calls Try.prog 8 #[.agg #[.int .i64 a, .int .i64 r, .slice A bs.length c]] W (SaP W (spR a r bs))) := fun W h => cert22 A bs c a r W h.at_ HF.out
    have C3 : Hid (∀ W, FZ w a r A bs c W → Calls Try.prog 9 #[.agg #[.int .i64 a, .int .i64 r, .slice A bs.length c]] W (SaP W (spR a r bs))) := fun W h => rcert22 A bs c a r W h.at_ HF.out
    have C4 : Hid (∀ W, FZ w a r A bs c W → Calls Try.prog 11 #[.agg #[.int .i64 a, .int .i64 r, .slice A bs.length c]] W fun e w' => e = .returned (.int .i64 (eF a r bs)) ∧ Below W.heap.size W w') := fun W h => rcheck_any _ A bs c a r W h.at_ (Nat.le_refl _) (by omega) (by omega)
    obtain ⟨er, her⟩ : ∃ z, eF a r bs = z := ⟨_, rfl⟩
    rw [her] at C4
    have HER := Lib.hid her
    clear her hF hf
    generalize spR a r bs = q at *
    obtain ⟨qc, qe⟩ := q
    dsimp only at HFW hok
    have HOK := Lib.hid hok
    clear hok
    have x0 := HZ2.out.row.k0; have x1 := HZ2.out.row.k1; have x2 := HZ2.out.row.k2
    rw [hxb] at x0 x1 x2
    go_wp2_with fail
    refine (C2.out _ HZ2.out).mono ?_
    rintro e W3 ⟨A1, c1, A2, c2, A3, c3, rfl, n1, n2, n3⟩
    have HZ3 := Lib.hid (HZ2.out.next n1.blw)
    have HS3 := Lib.hid (SaP.see n1 n2 n3 HOK.out)
    clear HZ2 x0 x1 x2 n1 n2 n3 C2
    go_upto_region 4 with fail
    have hb4 : Below W3.heap.size W3 (W3.alloc (.cells #[.int .i64 qc.sa, .int .i64 qc.sr, .slice A1 qc.bs.length c1, .int .i64 qc.ta, .int .i64 qc.tr, .int .i64 qc.ts, .slice A2 qc.ms.length c2, .slice A3 qc.inv.length c3] 32)) := (Below.refl _ _).alloc (Nat.le_refl _) _
    have HZ4 := Lib.hid (HZ3.out.next hb4)
    have HR4 := Lib.hid (Row.new W3 32 #[.int .i64 qc.sa, .int .i64 qc.sr, .slice A1 qc.bs.length c1, .int .i64 qc.ta, .int .i64 qc.tr, .int .i64 qc.ts, .slice A2 qc.ms.length c2, .slice A3 qc.inv.length c3])
    have HS4 := Lib.hid ((HS3.out.below hb4).more hb4.size)
    clear HZ3 HS3 hb4
    generalize (W3.alloc (.cells #[.int .i64 qc.sa, .int .i64 qc.sr, .slice A1 qc.bs.length c1, .int .i64 qc.ta, .int .i64 qc.tr, .int .i64 qc.ts, .slice A2 qc.ms.length c2, .slice A3 qc.inv.length c3] 32)) = W4 at *
    generalize W3.heap.size = cb at *
    have x0 := HZ4.out.row.k0; have x1 := HZ4.out.row.k1; have x2 := HZ4.out.row.k2
    rw [hxb] at x0 x1 x2
    go_wp2_with fail
    refine (C3.out _ HZ4.out).mono ?_
    rintro e W5 ⟨B1, k1, B2, k2, B3, k3, rfl, n1, n2, n3⟩
    have HZ5 := Lib.hid (HZ4.out.next n1.blw)
    have HR5 := Lib.hid (HR4.out.below n1.blw HR4.out.lt)
    have HS5 := Lib.hid ((HS4.out.below n1.blw).more n1.blw.size)
    have HT5 := Lib.hid (SaP.see n1 n2 n3 HOK.out)
    clear HZ4 HR4 HS4 x0 x1 x2 n1 n2 n3 C3 HOK
    go_upto_region 5 with fail
    have hb4 : Below W5.heap.size W5 (W5.alloc (.cells #[.int .i64 qc.sa, .int .i64 qc.sr, .slice B1 qc.bs.length k1, .int .i64 qc.ta, .int .i64 qc.tr, .int .i64 qc.ts, .slice B2 qc.ms.length k2, .slice B3 qc.inv.length k3] 32)) := (Below.refl _ _).alloc (Nat.le_refl _) _
    have HZ6 := Lib.hid (HZ5.out.next hb4)
    have HR6 := Lib.hid (HR5.out.below hb4 HR5.out.lt)
    have HS6 := Lib.hid ((HS5.out.below hb4).more hb4.size)
    have HT6 := Lib.hid ((HT5.out.below hb4).more hb4.size)
    have HU6 := Lib.hid (Row.new W5 32 #[.int .i64 qc.sa, .int .i64 qc.sr, .slice B1 qc.bs.length k1, .int .i64 qc.ta, .int .i64 qc.tr, .int .i64 qc.ts, .slice B2 qc.ms.length k2, .slice B3 qc.inv.length k3])
    clear HZ5 HR5 HS5 HT5 hb4
    generalize (W5.alloc (.cells #[.int .i64 qc.sa, .int .i64 qc.sr, .slice B1 qc.bs.length k1, .int .i64 qc.ta, .int .i64 qc.tr, .int .i64 qc.ts, .slice B2 qc.ms.length k2, .slice B3 qc.inv.length k3] 32)) = W6 at *
    generalize W5.heap.size = db at *
    have C6 := Lib.hid (rsame16_all W6 HS6.out HT6.out ⟨HFW.out.1.1, HFW.out.1.1⟩ ⟨HFW.out.1.2, HFW.out.1.2⟩ ⟨HFW.out.2.1.1, HFW.out.2.1.1⟩ ⟨HFW.out.2.1.2, HFW.out.2.1.2⟩ ⟨HFW.out.2.2, HFW.out.2.2⟩ true (by simp))
    have p0 := HR6.out.k0; have p1 := HR6.out.k1; have p2 := HR6.out.k2; have p3 := HR6.out.k3; have p4 := HR6.out.k4; have p5 := HR6.out.k5; have p6 := HR6.out.k6; have p7 := HR6.out.k7
    have q0 := HU6.out.k0; have q1 := HU6.out.k1; have q2 := HU6.out.k2; have q3 := HU6.out.k3; have q4 := HU6.out.k4; have q5 := HU6.out.k5; have q6 := HU6.out.k6; have q7 := HU6.out.k7
    have hqe : (qe != qe) = false := by simp
    go_wp2_with fail
    refine C6.out.mono ?_
    rintro e W7 ⟨rfl, hb⟩
    have HZ7 := Lib.hid (HZ6.out.next hb)
    clear hb C6 HZ6 HR6 HS6 HT6 HU6 p0 q0 p1 q1 p2 q2 p3 q3 p4 q4 p5 q5 p6 q6 p7 q7
    have x0 := HZ7.out.row.k0; have x1 := HZ7.out.row.k1; have x2 := HZ7.out.row.k2
    rw [hxb] at x0 x1 x2
    go_wp2_with fail
    refine (C4.out _ HZ7.out).mono ?_
    rintro e W8 ⟨rfl, hb⟩
    have HZ8 := Lib.hid (HZ7.out.next hb)
    clear hb HZ7 x0 x1 x2 C4
    by_cases hz : er = 0
    · have e1 : (er != 0) = false := by simp [hz]
      have her := HER.out
      rw [hz] at her
      obtain ⟨_, _, _, _, _, _, h7⟩ := eF_of her
      have HI22 : Hid (∀ b ∈ bs, (∀ i ∈ b.code, In22 i) ∧ Tm22 b.term) := fun b hb => ⟨fun i hi => in22_of ((h7 b hb).1 i hi) (by omega), tm22_of (h7 b hb).2 (by omega)⟩
      clear her h7 hz HER
      go_upto_region 10 with fail
      go_loopg [7] bs.length (fun g v7 wr => ∃ i : Nat, i + g = bs.length ∧ v7 = .int .i64 (i : Int) ∧ Hid (FZ w a r A bs c wr))
      case atStart => exact ⟨0, by omega, by go_num, HZ8.out⟩
      case round =>
        obtain ⟨i, hg, rfl, HZ9⟩ := hrel
        have x2 := HZ9.out.row.k2
        rw [hxb] at x2
        by_cases hlt : i < bs.length
        · obtain ⟨b', o, rfl, hb, hy⟩ := HZ9.out.see.at_ hlt
          obtain ⟨hyin, hytm⟩ := HI22.out _ (List.getElem_mem hlt)
          have hyl : bs[i].code.length ≤ 300 := Nat.le_trans (codeN_mem bs i hlt) f3
          generalize bs[i] = y at *
          obtain ⟨A4, c4, f0, hc1, hc2, hins⟩ := hy.code
          have f1' := hy.t0; have f2' := hy.t1; have f3' := hy.t2; have f4' := hy.t3
          clear hy
          have hkz : (i : Int) < (bs.length : Int) := by omega
          have hwz := HZ9.out.blw.size
          have CP : Hid (∀ W, Below wr.heap.size wr W → Calls Try.prog 12 #[.agg #[.slice A4 y.code.length c4, .int .i64 y.term.kind, .int .i64 y.term.a, .int .i64 y.term.to, .int .i64 y.term.el]] W fun e w' => e = .returned (.int .i64 (mvs (spB y).code : Nat)) ∧ Below wr.heap.size wr w' ∧ Below W.heap.size W w') := fun W h => (spmoves22 A4 y c4 W ((hins.below (h.mono hwz)).more (Nat.le_trans hwz h.size)) (by omega) hytm hyin).mono fun e w' ⟨he, hb⟩ => ⟨he, h.trans (hb.mono h.size), hb⟩
          have CR : Hid (∀ W, Below wr.heap.size wr W → Calls Try.prog 14 #[.agg #[.slice A4 y.code.length c4, .int .i64 y.term.kind, .int .i64 y.term.a, .int .i64 y.term.to, .int .i64 y.term.el]] W fun e w' => ∃ A5 c5, e = .returned (.agg #[.slice A5 (spB y).code.length c5, .int .i64 y.term.kind, .int .i64 0, .int .i64 y.term.to, .int .i64 y.term.el]) ∧ MisAt w' w'.heap.size A5 (spB y).code ∧ Below wr.heap.size wr w') := fun W h => (rblock22 A4 y c4 W ((hins.below (h.mono hwz)).more (Nat.le_trans hwz h.size)) (by omega) hytm hyin).mono fun e w' ⟨A5, c5, he, ho, hb⟩ => ⟨A5, c5, he, MisAt.of_own ho (sp_locok hyin hytm), h.trans (hb.mono h.size)⟩
          have hspl := spB_len y
          have hfd : ∀ (v0 v1 v2 v3 v4 : Value) w, (Instr.field 49 (.agg #[v0, v1, v2, v3, v4]) 0).run Try.prog w = .ok v0 w := by intros; kernel_rfl
          have HCF : Hid (∀ W, Below wr.heap.size wr W → W.cell? ⟨xb, 2, none⟩ = some (.slice (some ⟨b', o, none⟩) bs.length c) ∧ W.cell? ⟨b', o + i * 5, none⟩ = some (.slice A4 y.code.length c4) ∧ W.cell? ⟨b', o + i * 5 + 1, none⟩ = some (.int .i64 y.term.kind) ∧ W.cell? ⟨b', o + i * 5 + 2, none⟩ = some (.int .i64 y.term.a) ∧ W.cell? ⟨b', o + i * 5 + 3, none⟩ = some (.int .i64 y.term.to) ∧ W.cell? ⟨b', o + i * 5 + 4, none⟩ = some (.int .i64 y.term.el)) := fun W h =>
            ⟨(h.cell (p := ⟨xb, 2, none⟩) (by have := HZ9.out.row.lt; show xb < _; omega)).trans x2, (h.cell (p := ⟨b', _, none⟩) (by show b' < _; omega)).trans f0, (h.cell (p := ⟨b', _, none⟩) (by show b' < _; omega)).trans f1', (h.cell (p := ⟨b', _, none⟩) (by show b' < _; omega)).trans f2', (h.cell (p := ⟨b', _, none⟩) (by show b' < _; omega)).trans f3', (h.cell (p := ⟨b', _, none⟩) (by show b' < _; omega)).trans f4'⟩
          generalize (spB y).code = ys at *
          clear f0 f1' f2' f3' f4' hins hyin hytm
          obtain ⟨q, hq⟩ : ∃ q, mvs ys = q := ⟨_, rfl⟩
          have CM : Hid (∀ W A5 c5, MisAt W W.heap.size A5 ys → Calls Try.prog 13 #[.slice A5 ys.length c5] W fun e w' => e = .returned (.int .i64 (q : Int)) ∧ W = w') := fun W A5 c5 h => by
            have := rmoves_any _ A5 ys c5 W h (by omega)
            rw [hq] at this
            exact this
          rw [hq] at CP
          clear hq hspl
          have hqq : ((q : Int) != (q : Int)) = false := by simp
          have hG := Below.refl wr.heap.size wr
          go_upto_region 12 with fail
          go_wp2_with fail
          go_region_held3 (fun W => W.cell? ⟨xb, 2, none⟩ = some (.slice (some ⟨b', o, none⟩) bs.length c) ∧ W.cell? ⟨b', o + i * 5, none⟩ = some (.slice A4 y.code.length c4) ∧ W.cell? ⟨b', o + i * 5 + 1, none⟩ = some (.int .i64 y.term.kind) ∧ W.cell? ⟨b', o + i * 5 + 2, none⟩ = some (.int .i64 y.term.a) ∧ W.cell? ⟨b', o + i * 5 + 3, none⟩ = some (.int .i64 y.term.to) ∧ W.cell? ⟨b', o + i * 5 + 4, none⟩ = some (.int .i64 y.term.el)) (first | exact HCF.out _ hG | exact HCF.out _ (hG.trans (blw_drew _ 1)) | exact HCF.out _ (hG.trans (blw_drew _ _))) (first
            | (go_at_call 12; go_must ((refine (CP.out _ (by first | exact hG | exact hG.trans (blw_drew _ 1))).mono ?_); rintro e V ⟨rfl, hG, hbv⟩; (try replace hms := (hms.below hbv).more hbv.size)))
            | (go_at_call 14; go_must ((refine (CR.out _ (by first | exact hG | exact hG.trans (blw_drew _ 1))).mono ?_); rintro e V ⟨A5, c5, rfl, hms, hG⟩))
            | (go_at_call 13; go_must ((refine (CM.out _ _ _ hms).mono ?_); rintro e V ⟨rfl, rfl⟩)))
          have HZN := Lib.hid (HZ9.out.next hG)
          clear HZ9 x2 HCF CP CR CM hms hG
          go_wp2
          go_roundg (bs.length - (i + 1))
          case measure => omega
          case rel => exact ⟨i + 1, by omega, by go_num, HZN.out⟩
        · have hkz : ¬ (i : Int) < (bs.length : Int) := by omega
          go_wp2
          go_ret
          exact ⟨rfl, hxb ▸ HZ9.out.blw⟩
    · have e1 : (er != 0) = true := by simp [hz]
      go_wp2
      go_ret
      exact ⟨rfl, HZ8.out.blw⟩

end Go.Proofs.Ytcoehkphdfejjaa
