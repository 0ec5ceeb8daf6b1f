/-
  The reference's counting of the blocks and instructions of a function (made by wip/lab/gendcfn.py).
-/
import Derived.Test.YtkapmfopfddmbaaDcMath
import Derived.Test.YtkapmfopfddmbaaPk4
import Derived.Test.YtkapmfopfddmbaaIcMach
import Derived.Test.YtkapmfopfddmbaaIcTerm
import Derived.Deep.LoopGhost
import Derived.Deep.Cut
import Derived.Deep.CutRange
namespace Go.Proofs.Ytkapmfopfddmbaa
open Go.RowKit
set_option linter.unusedVariables false
set_option linter.unusedSimpArgs false

/-- An input in a box of one's own. -/
structure FB21 (w : World) (B : Nat) (A : Option Addr) (c : Nat) (t : Ip) (W : World) : Prop where
  blw : Below w.heap.size w W
  ip : IpV W B A c t
  bx : Row W w.heap.size 55 #[.slice A t.rest.length c, .int .i64 t.err]

section
variable {w W W' : World} {B : Nat} {A A' : Option Addr} {c c' : Nat} {t t' : Ip}

theorem FB21.start (h : IpV w B A c t) (hB : B ≤ w.heap.size) : FB21 w B A c t (w.alloc (.cells #[.slice A t.rest.length c, .int .i64 t.err] 55)) := by
  have hb := (Below.refl w.heap.size w).alloc (Nat.le_refl _) (.cells #[.slice A t.rest.length c, .int .i64 t.err] 55)
  exact ⟨hb, h.below (hb.mono hB), Row.new w _ _⟩

theorem FB21.next (h : FB21 w B A c t W) (hb : Below W.heap.size W W') (hB : B ≤ w.heap.size) : FB21 w B A c t W' :=
  ⟨h.blw.trans (hb.mono h.blw.size), h.ip.below (hb.mono (Nat.le_trans hB h.blw.size)), h.bx.below hb h.bx.lt⟩

theorem FB21.inpt (h : FB21 w B A c t W) (hI : IpV W' B A' c' t') (hb : Below W.heap.size W W') (hB : B ≤ w.heap.size) : FB21 w B A' c' t' ((W'.setCell ⟨w.heap.size, 0, none⟩ (.slice A' t'.rest.length c')).setCell ⟨w.heap.size, 1, none⟩ (.int .i64 t'.err)) := by
  have h' := h.next hb hB
  have hm : Mods (Is w.heap.size) W' ((W'.setCell ⟨w.heap.size, 0, none⟩ (.slice A' t'.rest.length c')).setCell ⟨w.heap.size, 1, none⟩ (.int .i64 t'.err)) := ((Mods.refl _ _).put 0 _).put 1 _
  have hbm : Below w.heap.size W' _ := hm.below h'.blw.size fun k hk => by unfold Is at hk; omega
  have r0 : Row _ w.heap.size 55 #[.slice A' t'.rest.length c', .int .i64 t.err] := h'.bx.put 0 _
  exact ⟨h'.blw.trans hbm, hI.below (hbm.mono hB), r0.put 1 _⟩

theorem FB21.aside (h : FB21 w B A c t W) {y : Nat} (hy : w.heap.size < y) (hm : Mods (Is y) W W') (hB : B ≤ w.heap.size) : FB21 w B A c t W' := by
  have hbm : Below w.heap.size W W' := hm.below h.blw.size fun k hk => by unfold Is at hk; omega
  exact ⟨h.blw.trans hbm, h.ip.below (hbm.mono hB), h.bx.mods hm (by unfold Is; omega)⟩

end

theorem blkI_F {regs tot : Int} {t : Ip} : (insE regs (cntE 2 t).1.toNat (codeE tot t).2).2 = (blkI regs tot t).2 := by
  unfold blkI codeE
  split
  · rw [insE_err (failE_err (by decide)), insE_err (failE_err (by decide))]
  · rfl

theorem mblkI_F {regs slots tot : Int} {t : Ip} : (miE regs slots (cntE 2 t).1.toNat 0 (codeE tot t).2).2 = (mblkI regs slots tot t).2 := by
  unfold mblkI codeE
  split
  · rw [miE_err (failE_err (by decide)), miE_err (failE_err (by decide))]
  · rfl

set_option maxRecDepth 100000 in
set_option maxHeartbeats 8000000 in
theorem rfunS_any {w : World} {B : Nat} {A : Option Addr} {c : Nat} {s : Ip} (h : IpV w B A c s) (hB : B ≤ w.heap.size) (regs slots : Int) (hr : 0 ≤ regs ∧ regs ≤ 1000000000) (hsl : slots < 0) :
    Calls Try.prog 30 #[.agg #[.slice A s.rest.length c, .int .i64 s.err], .int .i64 regs, .int .i64 slots] w fun e w' => e = .returned (.tuple #[.int .i64 (cntE 3 s).1, .int .i64 (cI regs (cntE 3 s).1 (cntE 3 s).1.toNat 0 (cntE 3 s).2)]) ∧ Below w.heap.size w w' := by
  have hnr := cntE_rng (k := 3) (s := s)
  obtain ⟨⟨n, s1⟩, hn⟩ : ∃ y, cntE 3 s = y := ⟨_, rfl⟩
  rw [hn] at hnr ⊢
  dsimp only at hnr ⊢
  obtain ⟨T, hT⟩ : ∃ T, cI regs n n.toNat 0 s1 = T := ⟨_, rfl⟩
  rw [hT]
  have HT := Lib.hid hT
  have HBB := Lib.hid hB
  have HF0 := Lib.hid (FB21.start h hB)
  have C1 : Hid (∀ W, IpV W B A c s → w.heap.size ≤ W.heap.size → Calls Try.prog 33 #[.agg #[.slice A s.rest.length c, .int .i64 s.err], .int .i64 3] W (RQ W B n s1)) := fun W hi hw => by
    have := rcnt18_any 3 (by omega) hi (Nat.le_trans hB hw)
    rw [hn] at this
    exact this
  clear h hB hT hn
  go_enter Try.func30, Try.ntmps30
  go_upto_region 3 with fail
  generalize (w.alloc (.cells #[.slice A s.rest.length c, .int .i64 s.err] 55)) = W0 at *
  have p0 := HF0.out.bx.k0; have p1 := HF0.out.bx.k1
  have pf0 := HF0.out.bx.frozen 0; have pf1 := HF0.out.bx.frozen 1
  go_wp2_with fail
  refine (C1.out W0 HF0.out.ip HF0.out.blw.size).mono ?_
  rintro e W1 ⟨A1, c1, rfl, hI, hb⟩
  have HF1 := Lib.hid (HF0.out.inpt hI hb HBB.out)
  have HFn := Lib.hid (HF0.out.next hb HBB.out)
  clear C1 HF0 hI hb p0 p1 pf0 pf1
  have p0 := HFn.out.bx.k0; have p1 := HFn.out.bx.k1
  have pf0 := HFn.out.bx.frozen 0; have pf1 := HFn.out.bx.frozen 1
  go_upto_region 4 with fail
  clear p0 p1 pf0 pf1 HFn
  generalize ((W1.setCell ⟨w.heap.size, 0, none⟩ (.slice A1 s1.rest.length c1)).setCell ⟨w.heap.size, 1, none⟩ (.int .i64 s1.err)) = W2 at *
  go_wp2
  go_loopg [9, 10, 11] n.toNat (fun g v9 v10 v11 wr => ∃ (i : Nat) (tot : Int) (A : Option Addr) (c : Nat) (t : Ip), i + g = n.toNat ∧ v9 = .int .i64 tot ∧ v10 = .int .i64 tot ∧ v11 = .int .i64 i ∧ 0 ≤ tot ∧ tot ≤ 2097152 ∧ Hid (t.err = 0 → tot ≤ 1048576) ∧ Hid (T = tot + cI regs n g tot t) ∧ Hid (FB21 w B A c t wr))
  case atStart => exact ⟨0, 0, A1, c1, s1, by omega, rfl, rfl, rfl, by omega, by omega, (fun _ => by decide), (by show T = 0 + _; rw [HT.out]; omega), HF1⟩
  case round =>
    clear HF1 HT
    obtain ⟨i, tot, A, c, t, hig, rfl, rfl, rfl, ht0, ht1, htl, HT, HF⟩ := hrel
    have p0 := HF.out.bx.k0; have p1 := HF.out.bx.k1
    have pf0 := HF.out.bx.frozen 0; have pf1 := HF.out.bx.frozen 1
    cases gk with
    | zero =>
      have hin : ¬ (i : Int) < n := by omega
      have HE : Hid (T = tot) := by show T = tot; rw [HT.out]; exact Int.add_zero _
      clear HT
      go_wp2
      go_ret2
      exact ⟨by rw [HE.out]; rfl, HF.out.blw⟩
    | succ g =>
      have hin : (i : Int) < n := by omega
      by_cases he : t.err = 0
      case neg =>
        have HE : Hid (T = tot) := by show T = tot; rw [HT.out, cI_err he]; exact Int.add_zero _
        have d0 : (t.err == 0) = false := by simp [he]
        clear HT he
        go_wp2
        go_ret2
        exact ⟨by rw [HE.out]; rfl, HF.out.blw⟩
      have d0 : (t.err == 0) = true := by simp [he]
      have htm := htl.out he
      have hkr := cntE_rng (k := 2) (s := t)
      have HT2 : Hid (T = tot + ((cntE 2 t).1 + cI regs n g (tot + (cntE 2 t).1) (blkT regs n tot t).2)) := by
        show T = _
        rw [HT.out]
        show tot + (if t.err ≠ 0 then 0 else _) = _
        rw [if_neg (fun hh => hh he)]
      obtain ⟨u, hu⟩ : ∃ u, (codeE tot t).2 = u := ⟨_, rfl⟩
      have HU : Hid ((if 1048576 < tot + (cntE 2 t).1 then failE 6 (cntE 2 t).2 else (cntE 2 t).2) = u) := by
        show _ = _
        rw [← hu]
        unfold codeE
        split <;> rfl
      have HBT : Hid ((blkT regs n tot t).2 = (termE regs n (insE regs (cntE 2 t).1.toNat u).2).2) := by
        show _ = _
        rw [← hu, blkI_F]
        rfl
      obtain ⟨⟨kk, s2⟩, hk⟩ : ∃ y, cntE 2 t = y := ⟨_, rfl⟩
      have C2 : Hid (∀ W, IpV W B A c t → w.heap.size ≤ W.heap.size → Calls Try.prog 33 #[.agg #[.slice A t.rest.length c, .int .i64 t.err], .int .i64 2] W (RQ W B kk s2)) := fun W hi hw => by
        have := rcnt18_any 2 (by omega) hi (Nat.le_trans HBB.out hw)
        rw [hk] at this
        exact this
      rw [hk] at hkr HT2 HU HBT
      dsimp only at hkr HT2 HU HBT
      have HEL : Hid (1048576 < tot + kk → u.err ≠ 0) := fun h9 => by rw [← HU.out, if_pos h9]; exact failE_err (by decide)
      clear HT he hk hu htl
      go_wp2_with fail
      refine (C2.out _ HF.out.ip HF.out.blw.size).mono ?_
      rintro e W3 ⟨A3, c3, rfl, hI, hb⟩
      have HF3 := Lib.hid (HF.out.inpt hI hb HBB.out)
      have HFn := Lib.hid (HF.out.next hb HBB.out)
      clear C2 HF hI hb p0 p1 pf0 pf1
      have p0 := HFn.out.bx.k0; have p1 := HFn.out.bx.k1
      have pf0 := HFn.out.bx.frozen 0; have pf1 := HFn.out.bx.frozen 1
      go_upto_region 10 with fail
      clear p0 p1 pf0 pf1 HFn
      generalize ((W3.setCell ⟨w.heap.size, 0, none⟩ (.slice A3 s2.rest.length c3)).setCell ⟨w.heap.size, 1, none⟩ (.int .i64 s2.err)) = W4 at *
      go_upto_if 43 with fail
      obtain ⟨W5, hW5⟩ : ∃ z, z = W4 := ⟨_, rfl⟩
      subst hW5
      have p0 := HF3.out.bx.k0; have p1 := HF3.out.bx.k1
      have pf0 := HF3.out.bx.frozen 0; have pf1 := HF3.out.bx.frozen 1
      go_cut [] from 21 to 86 (fun wx => ∃ A c, Hid (FB21 w B A c u wx))
      case first =>
        by_cases hlim : 1048576 < tot + kk
        · have HU2 : Hid (failE 6 s2 = u) := by show _ = _; rw [← HU.out, if_pos hlim]
          have C3 := Lib.hid (rfail18_any 6 HF3.out.ip (Nat.le_trans HBB.out HF3.out.blw.size))
          rw [HU2.out] at C3
          go_wp2_with fail
          refine C3.out.mono ?_
          rintro e W6 ⟨A6, c6, rfl, hI, hb⟩
          have HF6 := Lib.hid (HF3.out.inpt hI hb HBB.out)
          have HFn := Lib.hid (HF3.out.next hb HBB.out)
          clear hI hb p0 p1 pf0 pf1
          have p0 := HFn.out.bx.k0; have p1 := HFn.out.bx.k1
          have pf0 := HFn.out.bx.frozen 0; have pf1 := HFn.out.bx.frozen 1
          go_wp2_with fail
          go_meet
          case rel => exact ⟨A6, c6, HF6⟩
        · have HU2 : Hid (s2 = u) := by show _ = _; rw [← HU.out, if_neg hlim]
          go_wp2_with fail
          go_meet
          case rel => exact ⟨A3, c3, by rw [← HU2.out]; exact HF3⟩
      case rest =>
        clear HF3 HU p0 p1 pf0 pf1
        obtain ⟨A7, c7, HF7⟩ := hcut
        obtain ⟨F, hF⟩ : ∃ F, (insE regs kk.toNat u).2 = F := ⟨_, rfl⟩
        rw [hF] at HBT
        have HFF := Lib.hid hF
        have HFI := Lib.hid hF.symm
        clear hF
        go_wp2
        go_loopg [13, 14] kk.toNat (fun g2 v13 v14 wr => ∃ (j : Nat) (A : Option Addr) (c : Nat) (x : Ip), j + g2 = kk.toNat ∧ v14 = .int .i64 j ∧ Hid (F = (insE regs g2 x).2) ∧ Hid (FB21 w B A c x wr))
        case atStart => exact ⟨0, A7, c7, u, by omega, rfl, HFF.out.symm, HF7⟩
        case round =>
          clear HF7 HFF
          obtain ⟨j, A9, c9, x, hjg, rfl, HX, HG⟩ := hrel
          have p0 := HG.out.bx.k0; have p1 := HG.out.bx.k1
          have pf0 := HG.out.bx.frozen 0; have pf1 := HG.out.bx.frozen 1
          cases gk with
          | zero =>
            have hjn : ¬ (j : Int) < kk := by omega
            have HE2 : Hid (F = x) := by show F = x; rw [HX.out]; rfl
            clear HX
            have C4 := Lib.hid (rterm17_any regs n HG.out.ip (Nat.le_trans HBB.out HG.out.blw.size) ⟨hr.1, by omega⟩ ⟨hnr.1, by omega⟩)
            rw [← HE2.out] at C4
            go_wp2_with fail
            rw [← HE2.out]
            refine C4.out.mono ?_
            rintro e W8 ⟨A8, c8, rfl, hI, hb⟩
            have HF8 := Lib.hid (HG.out.inpt hI hb HBB.out)
            have HFn := Lib.hid (HG.out.next hb HBB.out)
            clear C4 HG hI hb p0 p1 pf0 pf1
            have p0 := HFn.out.bx.k0; have p1 := HFn.out.bx.k1
            have pf0 := HFn.out.bx.frozen 0; have pf1 := HFn.out.bx.frozen 1
            go_wp2_with fail
            go_roundg g
            case measure => omega
            case rel => exact ⟨i + 1, tot + kk, A8, c8, (blkT regs n tot t).2, by omega, by go_num, by go_num, by go_num, by omega, by omega, (fun h9 => by
              by_cases hl : 1048576 < tot + kk
              · exfalso
                have hx := HEL.out hl
                rw [HBT.out] at h9
                have e9 : F = u := by rw [HFI.out]; exact congrArg Prod.snd (insE_err hx)
                rw [e9, termE_err hx] at h9
                exact hx h9
              · omega), (by show T = _; rw [HT2.out]; omega), by rw [HBT.out]; exact HF8⟩
          | succ q =>
            have hjn : (j : Int) < kk := by omega
            by_cases he : x.err = 0
            case neg =>
              have HE2 : Hid (F = x) := by show F = x; rw [HX.out, insE_err he]
              have d1 : (x.err == 0) = false := by simp [he]
              clear HX he
              have C4 := Lib.hid (rterm17_any regs n HG.out.ip (Nat.le_trans HBB.out HG.out.blw.size) ⟨hr.1, by omega⟩ ⟨hnr.1, by omega⟩)
              rw [← HE2.out] at C4
              go_wp2_with fail
              rw [← HE2.out]
              refine C4.out.mono ?_
              rintro e W8 ⟨A8, c8, rfl, hI, hb⟩
              have HF8 := Lib.hid (HG.out.inpt hI hb HBB.out)
              have HFn := Lib.hid (HG.out.next hb HBB.out)
              clear C4 HG hI hb p0 p1 pf0 pf1
              have p0 := HFn.out.bx.k0; have p1 := HFn.out.bx.k1
              have pf0 := HFn.out.bx.frozen 0; have pf1 := HFn.out.bx.frozen 1
              go_wp2_with fail
              go_roundg g
              case measure => omega
              case rel => exact ⟨i + 1, tot + kk, A8, c8, (blkT regs n tot t).2, by omega, by go_num, by go_num, by go_num, by omega, by omega, (fun h9 => by
                by_cases hl : 1048576 < tot + kk
                · exfalso
                  have hx := HEL.out hl
                  rw [HBT.out] at h9
                  have e9 : F = u := by rw [HFI.out]; exact congrArg Prod.snd (insE_err hx)
                  rw [e9, termE_err hx] at h9
                  exact hx h9
                · omega), (by show T = _; rw [HT2.out]; omega), by rw [HBT.out]; exact HF8⟩
            have d1 : (x.err == 0) = true := by simp [he]
            have HX2 : Hid (F = (insE regs q (instrE regs x).2).2) := by
              show F = _
              rw [HX.out]
              show (if x.err ≠ 0 then _ else _ : List In × Ip).2 = _
              rw [if_neg (fun hh => hh he)]
            have C5 := Lib.hid (rinstr17_any regs HG.out.ip (Nat.le_trans HBB.out HG.out.blw.size) ⟨hr.1, by omega⟩)
            clear HX he
            go_wp2_with fail
            refine C5.out.mono ?_
            rintro e W9 ⟨A10, c10, rfl, hI, hb⟩
            have HG2 := Lib.hid (HG.out.inpt hI hb HBB.out)
            have HFn := Lib.hid (HG.out.next hb HBB.out)
            clear C5 HG hI hb p0 p1 pf0 pf1
            have p0 := HFn.out.bx.k0; have p1 := HFn.out.bx.k1
            have pf0 := HFn.out.bx.frozen 0; have pf1 := HFn.out.bx.frozen 1
            go_wp2_with fail
            go_roundg q
            case measure => omega
            case rel => exact ⟨j + 1, A10, c10, (instrE regs x).2, by omega, by go_num, HX2, HG2⟩


set_option maxRecDepth 100000 in
set_option maxHeartbeats 8000000 in
theorem rfunM_any {w : World} {B : Nat} {A : Option Addr} {c : Nat} {s : Ip} (h : IpV w B A c s) (hB : B ≤ w.heap.size) (regs slots : Int) (hr : 0 ≤ regs ∧ regs ≤ 1000000000) (hsl : 0 ≤ slots ∧ slots ≤ 1000000000) :
    Calls Try.prog 30 #[.agg #[.slice A s.rest.length c, .int .i64 s.err], .int .i64 regs, .int .i64 slots] w fun e w' => e = .returned (.tuple #[.int .i64 (cntE 3 s).1, .int .i64 (cM regs slots (cntE 3 s).1 (cntE 3 s).1.toNat 0 (cntE 3 s).2)]) ∧ Below w.heap.size w w' := by
  have hnr := cntE_rng (k := 3) (s := s)
  obtain ⟨⟨n, s1⟩, hn⟩ : ∃ y, cntE 3 s = y := ⟨_, rfl⟩
  rw [hn] at hnr ⊢
  dsimp only at hnr ⊢
  obtain ⟨T, hT⟩ : ∃ T, cM regs slots n n.toNat 0 s1 = T := ⟨_, rfl⟩
  rw [hT]
  have HT := Lib.hid hT
  have HBB := Lib.hid hB
  have HF0 := Lib.hid (FB21.start h hB)
  have C1 : Hid (∀ W, IpV W B A c s → w.heap.size ≤ W.heap.size → Calls Try.prog 33 #[.agg #[.slice A s.rest.length c, .int .i64 s.err], .int .i64 3] W (RQ W B n s1)) := fun W hi hw => by
    have := rcnt18_any 3 (by omega) hi (Nat.le_trans hB hw)
    rw [hn] at this
    exact this
  clear h hB hT hn
  go_enter Try.func30, Try.ntmps30
  go_upto_region 3 with fail
  generalize (w.alloc (.cells #[.slice A s.rest.length c, .int .i64 s.err] 55)) = W0 at *
  have p0 := HF0.out.bx.k0; have p1 := HF0.out.bx.k1
  have pf0 := HF0.out.bx.frozen 0; have pf1 := HF0.out.bx.frozen 1
  go_wp2_with fail
  refine (C1.out W0 HF0.out.ip HF0.out.blw.size).mono ?_
  rintro e W1 ⟨A1, c1, rfl, hI, hb⟩
  have HF1 := Lib.hid (HF0.out.inpt hI hb HBB.out)
  have HFn := Lib.hid (HF0.out.next hb HBB.out)
  clear C1 HF0 hI hb p0 p1 pf0 pf1
  have p0 := HFn.out.bx.k0; have p1 := HFn.out.bx.k1
  have pf0 := HFn.out.bx.frozen 0; have pf1 := HFn.out.bx.frozen 1
  go_upto_region 4 with fail
  clear p0 p1 pf0 pf1 HFn
  generalize ((W1.setCell ⟨w.heap.size, 0, none⟩ (.slice A1 s1.rest.length c1)).setCell ⟨w.heap.size, 1, none⟩ (.int .i64 s1.err)) = W2 at *
  go_wp2
  go_loopg [9, 10, 11] n.toNat (fun g v9 v10 v11 wr => ∃ (i : Nat) (tot : Int) (A : Option Addr) (c : Nat) (t : Ip), i + g = n.toNat ∧ v9 = .int .i64 tot ∧ v10 = .int .i64 tot ∧ v11 = .int .i64 i ∧ 0 ≤ tot ∧ tot ≤ 2097152 ∧ Hid (t.err = 0 → tot ≤ 1048576) ∧ Hid (T = tot + cM regs slots n g tot t) ∧ Hid (FB21 w B A c t wr))
  case atStart => exact ⟨0, 0, A1, c1, s1, by omega, rfl, rfl, rfl, by omega, by omega, (fun _ => by decide), (by show T = 0 + _; rw [HT.out]; omega), HF1⟩
  case round =>
    clear HF1 HT
    obtain ⟨i, tot, A, c, t, hig, rfl, rfl, rfl, ht0, ht1, htl, HT, HF⟩ := hrel
    have p0 := HF.out.bx.k0; have p1 := HF.out.bx.k1
    have pf0 := HF.out.bx.frozen 0; have pf1 := HF.out.bx.frozen 1
    cases gk with
    | zero =>
      have hin : ¬ (i : Int) < n := by omega
      have HE : Hid (T = tot) := by show T = tot; rw [HT.out]; exact Int.add_zero _
      clear HT
      go_wp2
      go_ret2
      exact ⟨by rw [HE.out]; rfl, HF.out.blw⟩
    | succ g =>
      have hin : (i : Int) < n := by omega
      by_cases he : t.err = 0
      case neg =>
        have HE : Hid (T = tot) := by show T = tot; rw [HT.out, cM_err he]; exact Int.add_zero _
        have d0 : (t.err == 0) = false := by simp [he]
        clear HT he
        go_wp2
        go_ret2
        exact ⟨by rw [HE.out]; rfl, HF.out.blw⟩
      have d0 : (t.err == 0) = true := by simp [he]
      have htm := htl.out he
      have hkr := cntE_rng (k := 2) (s := t)
      have HT2 : Hid (T = tot + ((cntE 2 t).1 + cM regs slots n g (tot + (cntE 2 t).1) (mblkT regs slots n tot t).2)) := by
        show T = _
        rw [HT.out]
        show tot + (if t.err ≠ 0 then 0 else _) = _
        rw [if_neg (fun hh => hh he)]
      obtain ⟨u, hu⟩ : ∃ u, (codeE tot t).2 = u := ⟨_, rfl⟩
      have HU : Hid ((if 1048576 < tot + (cntE 2 t).1 then failE 6 (cntE 2 t).2 else (cntE 2 t).2) = u) := by
        show _ = _
        rw [← hu]
        unfold codeE
        split <;> rfl
      have HBT : Hid ((mblkT regs slots n tot t).2 = (termE regs n (miE regs slots (cntE 2 t).1.toNat 0 u).2).2) := by
        show _ = _
        rw [← hu, mblkI_F]
        rfl
      obtain ⟨⟨kk, s2⟩, hk⟩ : ∃ y, cntE 2 t = y := ⟨_, rfl⟩
      have C2 : Hid (∀ W, IpV W B A c t → w.heap.size ≤ W.heap.size → Calls Try.prog 33 #[.agg #[.slice A t.rest.length c, .int .i64 t.err], .int .i64 2] W (RQ W B kk s2)) := fun W hi hw => by
        have := rcnt18_any 2 (by omega) hi (Nat.le_trans HBB.out hw)
        rw [hk] at this
        exact this
      rw [hk] at hkr HT2 HU HBT
      dsimp only at hkr HT2 HU HBT
      have HEL : Hid (1048576 < tot + kk → u.err ≠ 0) := fun h9 => by rw [← HU.out, if_pos h9]; exact failE_err (by decide)
      clear HT he hk hu htl
      go_wp2_with fail
      refine (C2.out _ HF.out.ip HF.out.blw.size).mono ?_
      rintro e W3 ⟨A3, c3, rfl, hI, hb⟩
      have HF3 := Lib.hid (HF.out.inpt hI hb HBB.out)
      have HFn := Lib.hid (HF.out.next hb HBB.out)
      clear C2 HF hI hb p0 p1 pf0 pf1
      have p0 := HFn.out.bx.k0; have p1 := HFn.out.bx.k1
      have pf0 := HFn.out.bx.frozen 0; have pf1 := HFn.out.bx.frozen 1
      go_upto_region 10 with fail
      clear p0 p1 pf0 pf1 HFn
      generalize ((W3.setCell ⟨w.heap.size, 0, none⟩ (.slice A3 s2.rest.length c3)).setCell ⟨w.heap.size, 1, none⟩ (.int .i64 s2.err)) = W4 at *
      go_upto_if 43 with fail
      obtain ⟨W5, hW5⟩ : ∃ z, z = W4 := ⟨_, rfl⟩
      subst hW5
      have p0 := HF3.out.bx.k0; have p1 := HF3.out.bx.k1
      have pf0 := HF3.out.bx.frozen 0; have pf1 := HF3.out.bx.frozen 1
      go_cut [] from 21 to 86 (fun wx => ∃ A c, Hid (FB21 w B A c u wx))
      case first =>
        by_cases hlim : 1048576 < tot + kk
        · have HU2 : Hid (failE 6 s2 = u) := by show _ = _; rw [← HU.out, if_pos hlim]
          have C3 := Lib.hid (rfail18_any 6 HF3.out.ip (Nat.le_trans HBB.out HF3.out.blw.size))
          rw [HU2.out] at C3
          go_wp2_with fail
          refine C3.out.mono ?_
          rintro e W6 ⟨A6, c6, rfl, hI, hb⟩
          have HF6 := Lib.hid (HF3.out.inpt hI hb HBB.out)
          have HFn := Lib.hid (HF3.out.next hb HBB.out)
          clear hI hb p0 p1 pf0 pf1
          have p0 := HFn.out.bx.k0; have p1 := HFn.out.bx.k1
          have pf0 := HFn.out.bx.frozen 0; have pf1 := HFn.out.bx.frozen 1
          go_wp2_with fail
          go_meet
          case rel => exact ⟨A6, c6, HF6⟩
        · have HU2 : Hid (s2 = u) := by show _ = _; rw [← HU.out, if_neg hlim]
          go_wp2_with fail
          go_meet
          case rel => exact ⟨A3, c3, by rw [← HU2.out]; exact HF3⟩
      case rest =>
        clear HF3 HU p0 p1 pf0 pf1
        obtain ⟨A7, c7, HF7⟩ := hcut
        obtain ⟨F, hF⟩ : ∃ F, (miE regs slots kk.toNat 0 u).2 = F := ⟨_, rfl⟩
        rw [hF] at HBT
        have HFF := Lib.hid hF
        have HFI := Lib.hid hF.symm
        clear hF
        go_wp2
        go_loopg [13, 14] kk.toNat (fun g2 v13 v14 wr => ∃ (j run : Nat) (A : Option Addr) (c : Nat) (x : Ip), j + g2 = kk.toNat ∧ v13 = .int .i64 run ∧ v14 = .int .i64 j ∧ run ≤ j ∧ Hid (F = (miE regs slots g2 run x).2) ∧ Hid (FB21 w B A c x wr))
        case atStart => exact ⟨0, 0, A7, c7, u, by omega, rfl, rfl, by omega, HFF.out.symm, HF7⟩
        case round =>
          clear HF7 HFF
          obtain ⟨j, run, A9, c9, x, hjg, rfl, rfl, hrj, HX, HG⟩ := hrel
          have p0 := HG.out.bx.k0; have p1 := HG.out.bx.k1
          have pf0 := HG.out.bx.frozen 0; have pf1 := HG.out.bx.frozen 1
          cases gk with
          | zero =>
            have hjn : ¬ (j : Int) < kk := by omega
            have HE2 : Hid (F = x) := by show F = x; rw [HX.out]; rfl
            clear HX
            have C4 := Lib.hid (rterm17_any regs n HG.out.ip (Nat.le_trans HBB.out HG.out.blw.size) ⟨hr.1, by omega⟩ ⟨hnr.1, by omega⟩)
            rw [← HE2.out] at C4
            go_wp2_with fail
            rw [← HE2.out]
            refine C4.out.mono ?_
            rintro e W8 ⟨A8, c8, rfl, hI, hb⟩
            have HF8 := Lib.hid (HG.out.inpt hI hb HBB.out)
            have HFn := Lib.hid (HG.out.next hb HBB.out)
            clear C4 HG hI hb p0 p1 pf0 pf1
            have p0 := HFn.out.bx.k0; have p1 := HFn.out.bx.k1
            have pf0 := HFn.out.bx.frozen 0; have pf1 := HFn.out.bx.frozen 1
            go_wp2_with fail
            go_roundg g
            case measure => omega
            case rel => exact ⟨i + 1, tot + kk, A8, c8, (mblkT regs slots n tot t).2, by omega, by go_num, by go_num, by go_num, by omega, by omega, (fun h9 => by
              by_cases hl : 1048576 < tot + kk
              · exfalso
                have hx := HEL.out hl
                rw [HBT.out] at h9
                have e9 : F = u := by rw [HFI.out]; exact congrArg Prod.snd (miE_err hx)
                rw [e9, termE_err hx] at h9
                exact hx h9
              · omega), (by show T = _; rw [HT2.out]; omega), by rw [HBT.out]; exact HF8⟩
          | succ q =>
            have hjn : (j : Int) < kk := by omega
            by_cases he : x.err = 0
            case neg =>
              have HE2 : Hid (F = x) := by show F = x; rw [HX.out, miE_err he]
              have d1 : (x.err == 0) = false := by simp [he]
              clear HX he
              have C4 := Lib.hid (rterm17_any regs n HG.out.ip (Nat.le_trans HBB.out HG.out.blw.size) ⟨hr.1, by omega⟩ ⟨hnr.1, by omega⟩)
              rw [← HE2.out] at C4
              go_wp2_with fail
              rw [← HE2.out]
              refine C4.out.mono ?_
              rintro e W8 ⟨A8, c8, rfl, hI, hb⟩
              have HF8 := Lib.hid (HG.out.inpt hI hb HBB.out)
              have HFn := Lib.hid (HG.out.next hb HBB.out)
              clear C4 HG hI hb p0 p1 pf0 pf1
              have p0 := HFn.out.bx.k0; have p1 := HFn.out.bx.k1
              have pf0 := HFn.out.bx.frozen 0; have pf1 := HFn.out.bx.frozen 1
              go_wp2_with fail
              go_roundg g
              case measure => omega
              case rel => exact ⟨i + 1, tot + kk, A8, c8, (mblkT regs slots n tot t).2, by omega, by go_num, by go_num, by go_num, by omega, by omega, (fun h9 => by
                by_cases hl : 1048576 < tot + kk
                · exfalso
                  have hx := HEL.out hl
                  rw [HBT.out] at h9
                  have e9 : F = u := by rw [HFI.out]; exact congrArg Prod.snd (miE_err hx)
                  rw [e9, termE_err hx] at h9
                  exact hx h9
                · omega), (by show T = _; rw [HT2.out]; omega), by rw [HBT.out]; exact HF8⟩
            have d1 : (x.err == 0) = true := by simp [he]
            obtain ⟨⟨y, x2⟩, hy⟩ : ∃ z, machE regs slots x = z := ⟨_, rfl⟩
            obtain ⟨ex, hex⟩ : ∃ ex, ext run y = ex := ⟨_, rfl⟩
            obtain ⟨z, hz⟩ : ∃ z, mvE run y x2 = z := ⟨_, rfl⟩
            have HX2 : Hid (F = (miE regs slots q ex z).2) := by
              show F = _
              rw [HX.out]
              show (if x.err ≠ 0 then _ else _ : List Mi × Ip).2 = _
              rw [if_neg (fun hh => hh he), hy]
              dsimp only
              rw [hex, hz]
            have HE1 : Hid (y.op = 18 → ex = run + 1) := fun h9 => by rw [← hex]; unfold ext Mi.mv; rw [h9]; rfl
            have HE2 : Hid (y.op ≠ 18 → ex = 0) := fun h9 => by rw [← hex]; unfold ext Mi.mv; simp [h9]
            have HZ : Hid ((if 64 < ex then failE 15 x2 else x2) = z) := by show _ = _; rw [← hz]; unfold mvE; rw [hex]
            have C5 : Hid (∀ W, IpV W B A9 c9 x → w.heap.size ≤ W.heap.size → Calls Try.prog 50 #[.agg #[.slice A9 x.rest.length c9, .int .i64 x.err], .int .i64 regs, .int .i64 slots] W (RQM W B y x2)) := fun W hi hw => by
              have := rmach17_any regs slots hi (Nat.le_trans HBB.out hw) ⟨hr.1, by omega⟩
              rw [hy] at this
              exact this
            have d3 : decide (slots < 0) = false := by simp; omega
            have hexj : ex ≤ j + 1 := by rw [← hex]; unfold ext; split <;> omega
            clear HX he hy hex hz
            go_upto_region 21 with fail
            clear p0 p1 pf0 pf1
            have HG8 := Lib.hid (HG.out.next ((Below.refl wr.heap.size wr).alloc (Nat.le_refl _) (.cells #[.int .i64 0, .int .i64 0, .int .i64 0, .int .i64 0, .int .i64 0, .int .i64 0, .int .i64 0] 97)) HBB.out)
            have HY8 := Lib.hid (Row.new wr 97 #[.int .i64 0, .int .i64 0, .int .i64 0, .int .i64 0, .int .i64 0, .int .i64 0, .int .i64 0])
            have hyw : w.heap.size < wr.heap.size := HG.out.bx.lt
            clear HG
            generalize (wr.alloc (.cells #[.int .i64 0, .int .i64 0, .int .i64 0, .int .i64 0, .int .i64 0, .int .i64 0, .int .i64 0] 97)) = W8 at *
            obtain ⟨yb, hyb⟩ : ∃ yb, wr.heap.size = yb := ⟨_, rfl⟩
            rw [hyb] at HY8 hyw ⊢
            clear hyb
            have p0 := HG8.out.bx.k0; have p1 := HG8.out.bx.k1
            have pf0 := HG8.out.bx.frozen 0; have pf1 := HG8.out.bx.frozen 1
            go_wp2_with fail
            refine (C5.out _ HG8.out.ip HG8.out.blw.size).mono ?_
            rintro e W9 ⟨A10, c10, rfl, hI, hb⟩
            have HG9 := Lib.hid (HG8.out.next hb HBB.out)
            have HY9 := Lib.hid (HY8.out.below hb HY8.out.lt)
            have HM : Hid (Mods (Is yb) W9 (((((((W9.setCell ⟨yb, 0, none⟩ (.int .i64 y.op)).setCell ⟨yb, 1, none⟩ (.int .i64 y.d)).setCell ⟨yb, 2, none⟩ (.int .i64 y.a)).setCell ⟨yb, 3, none⟩ (.int .i64 y.b)).setCell ⟨yb, 4, none⟩ (.int .i64 y.imm)).setCell ⟨yb, 5, none⟩ (.int .i64 y.dst)).setCell ⟨yb, 6, none⟩ (.int .i64 y.src))) := ((((((((Mods.refl _ W9).put 0 _).put 1 _).put 2 _).put 3 _).put 4 _).put 5 _).put 6 _)
            have HRW : Hid (Row (((((((W9.setCell ⟨yb, 0, none⟩ (.int .i64 y.op)).setCell ⟨yb, 1, none⟩ (.int .i64 y.d)).setCell ⟨yb, 2, none⟩ (.int .i64 y.a)).setCell ⟨yb, 3, none⟩ (.int .i64 y.b)).setCell ⟨yb, 4, none⟩ (.int .i64 y.imm)).setCell ⟨yb, 5, none⟩ (.int .i64 y.dst)).setCell ⟨yb, 6, none⟩ (.int .i64 y.src)) yb 97 #[.int .i64 y.op, .int .i64 y.d, .int .i64 y.a, .int .i64 y.b, .int .i64 y.imm, .int .i64 y.dst, .int .i64 y.src]) := by
              have r0 : Row _ yb 97 #[.int .i64 y.op, .int .i64 0, .int .i64 0, .int .i64 0, .int .i64 0, .int .i64 0, .int .i64 0] := HY9.out.put 0 _
              have r1 : Row _ yb 97 #[.int .i64 y.op, .int .i64 y.d, .int .i64 0, .int .i64 0, .int .i64 0, .int .i64 0, .int .i64 0] := r0.put 1 _
              have r2 : Row _ yb 97 #[.int .i64 y.op, .int .i64 y.d, .int .i64 y.a, .int .i64 0, .int .i64 0, .int .i64 0, .int .i64 0] := r1.put 2 _
              have r3 : Row _ yb 97 #[.int .i64 y.op, .int .i64 y.d, .int .i64 y.a, .int .i64 y.b, .int .i64 0, .int .i64 0, .int .i64 0] := r2.put 3 _
              have r4 : Row _ yb 97 #[.int .i64 y.op, .int .i64 y.d, .int .i64 y.a, .int .i64 y.b, .int .i64 y.imm, .int .i64 0, .int .i64 0] := r3.put 4 _
              have r5 : Row _ yb 97 #[.int .i64 y.op, .int .i64 y.d, .int .i64 y.a, .int .i64 y.b, .int .i64 y.imm, .int .i64 y.dst, .int .i64 0] := r4.put 5 _
              exact r5.put 6 _
            have HA : Hid (FB21 w B A9 c9 x (((((((W9.setCell ⟨yb, 0, none⟩ (.int .i64 y.op)).setCell ⟨yb, 1, none⟩ (.int .i64 y.d)).setCell ⟨yb, 2, none⟩ (.int .i64 y.a)).setCell ⟨yb, 3, none⟩ (.int .i64 y.b)).setCell ⟨yb, 4, none⟩ (.int .i64 y.imm)).setCell ⟨yb, 5, none⟩ (.int .i64 y.dst)).setCell ⟨yb, 6, none⟩ (.int .i64 y.src))) := HG9.out.aside hyw HM.out HBB.out
            have HIA : Hid (IpV (((((((W9.setCell ⟨yb, 0, none⟩ (.int .i64 y.op)).setCell ⟨yb, 1, none⟩ (.int .i64 y.d)).setCell ⟨yb, 2, none⟩ (.int .i64 y.a)).setCell ⟨yb, 3, none⟩ (.int .i64 y.b)).setCell ⟨yb, 4, none⟩ (.int .i64 y.imm)).setCell ⟨yb, 5, none⟩ (.int .i64 y.dst)).setCell ⟨yb, 6, none⟩ (.int .i64 y.src)) B A10 c10 x2) := hI.below (HM.out.below (Nat.le_trans HBB.out HG9.out.blw.size) fun k hk => by have := HBB.out; unfold Is at hk; omega)
            have HG11 := Lib.hid (HA.out.inpt HIA.out (Below.refl _ _) HBB.out)
            have hyw2 : ¬ yb = w.heap.size := by omega
            have hyw3 : ¬ w.heap.size = yb := by omega
            have HR11 : Hid (Row (((((((((W9.setCell ⟨yb, 0, none⟩ (.int .i64 y.op)).setCell ⟨yb, 1, none⟩ (.int .i64 y.d)).setCell ⟨yb, 2, none⟩ (.int .i64 y.a)).setCell ⟨yb, 3, none⟩ (.int .i64 y.b)).setCell ⟨yb, 4, none⟩ (.int .i64 y.imm)).setCell ⟨yb, 5, none⟩ (.int .i64 y.dst)).setCell ⟨yb, 6, none⟩ (.int .i64 y.src)).setCell ⟨w.heap.size, 0, none⟩ (.slice A10 x2.rest.length c10)).setCell ⟨w.heap.size, 1, none⟩ (.int .i64 x2.err)) yb 97 #[.int .i64 y.op, .int .i64 y.d, .int .i64 y.a, .int .i64 y.b, .int .i64 y.imm, .int .i64 y.dst, .int .i64 y.src]) := HRW.out.mods (((Mods.refl _ _).put 0 _).put 1 _ : Mods (Is w.heap.size) (((((((W9.setCell ⟨yb, 0, none⟩ (.int .i64 y.op)).setCell ⟨yb, 1, none⟩ (.int .i64 y.d)).setCell ⟨yb, 2, none⟩ (.int .i64 y.a)).setCell ⟨yb, 3, none⟩ (.int .i64 y.b)).setCell ⟨yb, 4, none⟩ (.int .i64 y.imm)).setCell ⟨yb, 5, none⟩ (.int .i64 y.dst)).setCell ⟨yb, 6, none⟩ (.int .i64 y.src)) (((((((((W9.setCell ⟨yb, 0, none⟩ (.int .i64 y.op)).setCell ⟨yb, 1, none⟩ (.int .i64 y.d)).setCell ⟨yb, 2, none⟩ (.int .i64 y.a)).setCell ⟨yb, 3, none⟩ (.int .i64 y.b)).setCell ⟨yb, 4, none⟩ (.int .i64 y.imm)).setCell ⟨yb, 5, none⟩ (.int .i64 y.dst)).setCell ⟨yb, 6, none⟩ (.int .i64 y.src)).setCell ⟨w.heap.size, 0, none⟩ (.slice A10 x2.rest.length c10)).setCell ⟨w.heap.size, 1, none⟩ (.int .i64 x2.err))) (by unfold Is; omega)
            clear C5 HG8 HY8 hI hb p0 p1 pf0 pf1 HM HRW HA HIA
            have p0 := HG9.out.bx.k0; have p1 := HG9.out.bx.k1
            have pf0 := HG9.out.bx.frozen 0; have pf1 := HG9.out.bx.frozen 1
            have y0 := HY9.out.k0; have y1 := HY9.out.k1; have y2 := HY9.out.k2; have y3 := HY9.out.k3; have y4 := HY9.out.k4; have y5 := HY9.out.k5; have y6 := HY9.out.k6
            have f0 := HY9.out.frozen 0; have f1 := HY9.out.frozen 1; have f2 := HY9.out.frozen 2; have f3 := HY9.out.frozen 3; have f4 := HY9.out.frozen 4; have f5 := HY9.out.frozen 5; have f6 := HY9.out.frozen 6
            go_upto_region 22 with fail
            clear p0 p1 pf0 pf1 y0 y1 y2 y3 y4 y5 y6 f0 f1 f2 f3 f4 f5 f6 HG9 HY9
            generalize (((((((((W9.setCell ⟨yb, 0, none⟩ (.int .i64 y.op)).setCell ⟨yb, 1, none⟩ (.int .i64 y.d)).setCell ⟨yb, 2, none⟩ (.int .i64 y.a)).setCell ⟨yb, 3, none⟩ (.int .i64 y.b)).setCell ⟨yb, 4, none⟩ (.int .i64 y.imm)).setCell ⟨yb, 5, none⟩ (.int .i64 y.dst)).setCell ⟨yb, 6, none⟩ (.int .i64 y.src)).setCell ⟨w.heap.size, 0, none⟩ (.slice A10 x2.rest.length c10)).setCell ⟨w.heap.size, 1, none⟩ (.int .i64 x2.err)) = W11 at *
            have y0 := HR11.out.k0
            go_upto_if 75 with fail
            obtain ⟨W12, hW12⟩ : ∃ z, z = W11 := ⟨_, rfl⟩
            subst hW12
            go_cut [13] from 46 to 79 (fun s13 wx => s13 = .int .i64 ex ∧ wx = W12)
            case first =>
              by_cases hop : y.op = 18
              · have d4 : (y.op != 18) = false := by simp [hop]
                have HEE := Lib.hid (HE1.out hop)
                clear hop
                go_wp2_with fail
                go_meet
                case rel => exact ⟨by rw [HEE.out]; go_num, rfl⟩
              · have d4 : (y.op != 18) = true := by simp [hop]
                have HEE := Lib.hid (HE2.out hop)
                clear hop
                go_wp2_with fail
                go_meet
                case rel => exact ⟨by rw [HEE.out]; rfl, rfl⟩
            case rest =>
              obtain ⟨hs13, hwc⟩ := hcut
              subst hs13 hwc
              clear HE1 HE2 HR11 y0
              go_upto_if 77 with fail
              obtain ⟨W13, hW13⟩ : ∃ z, z = wc := ⟨_, rfl⟩
              subst hW13
              have p0 := HG11.out.bx.k0; have p1 := HG11.out.bx.k1
              have pf0 := HG11.out.bx.frozen 0; have pf1 := HG11.out.bx.frozen 1
              by_cases h64 : 64 < ex
              · have HZ2 : Hid (failE 15 x2 = z) := by show _ = _; rw [← HZ.out, if_pos h64]
                have C6 := Lib.hid (rfail18_any 15 HG11.out.ip (Nat.le_trans HBB.out HG11.out.blw.size))
                rw [HZ2.out] at C6
                go_wp2_with fail
                refine C6.out.mono ?_
                rintro e W14 ⟨A14, c14, rfl, hI, hb⟩
                have HF14 := Lib.hid (HG11.out.inpt hI hb HBB.out)
                have HFn := Lib.hid (HG11.out.next hb HBB.out)
                clear hI hb p0 p1 pf0 pf1
                have p0 := HFn.out.bx.k0; have p1 := HFn.out.bx.k1
                have pf0 := HFn.out.bx.frozen 0; have pf1 := HFn.out.bx.frozen 1
                go_wp2_with fail
                go_roundg q
                case measure => omega
                case rel => exact ⟨j + 1, ex, A14, c14, z, by omega, by go_num, by go_num, hexj, HX2, HF14⟩
              · have HZ2 : Hid (x2 = z) := by show _ = _; rw [← HZ.out, if_neg h64]
                go_wp2_with fail
                go_roundg q
                case measure => omega
                case rel => exact ⟨j + 1, ex, A10, c10, z, by omega, by go_num, by go_num, hexj, HX2, by rw [← HZ2.out]; exact HG11⟩


end Go.Proofs.Ytkapmfopfddmbaa
