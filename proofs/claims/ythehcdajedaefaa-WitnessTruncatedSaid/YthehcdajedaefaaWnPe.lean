/-
  The program of layer 19: putInvariant, Put.
-/
import Derived.Test.YthehcdajedaefaaWnPb
import Derived.Test.YthehcdajedaefaaWnPut
import Derived.Test.YthehcdajedaefaaIcProg
import Derived.Deep.LoopGhost
import Derived.Deep.Cut
import Derived.Deep.CutRange
import Derived.Deep.RegionHeld3
namespace Go.Proofs.Ythehcdajedaefaa
open Go.RowKit
set_option linter.unusedVariables false
set_option linter.unusedSimpArgs false

/-- A box of one's own has turned beside a writer. -/
theorem GPS.box {w W W' : World} {q : Nat} {l : List Nat} (h : GPS w q l W) {bx : Nat} {T : TypeId} {cs : Array Value} (hr : Row W bx T cs) (h1 : T ≠ 5) (h2 : T ≠ 42) (hw : w.heap.size ≤ bx) (hq : q < w.heap.size) (hm : Mods (Is bx) W W') : GPS w q l W' := by
  obtain ⟨v, hv⟩ := h.wr
  obtain ⟨a1, a2⟩ := hv.apart hr h1 h2
  refine ⟨h.md.then hm fun k hk => .inl (by unfold Is at hk; unfold From; omega), ⟨v, ?_⟩, fun B T' cs' hB t1 t2 => ?_⟩
  · have hx : Wri W' q W.heap.size v l := ⟨hv.row.mods hm fun e => by unfold Is at e; exact a2 e.symm, hm.own hv.own fun k hk hs => by unfold Is at hs; exact a1 (by rw [hk, hs]), hv.blk, hv.qhi⟩
    exact hx.more hm.size
  · have := hB.lt
    exact (h.kp B T' cs' hB t1 t2).mods hm fun e => by unfold Is at e; omega

/-- Within a round: the writer, the pair before, the pair. -/
structure PV19 (w : World) (q : Nat) (l : List Nat) (b1 b2 : Nat) (q1 q2 p1 p2 : Int) (W : World) : Prop where
  g : GPS w q l W
  x : Row W b1 52 #[.int .i64 q1, .int .i64 q2]
  y : Row W b2 52 #[.int .i64 p1, .int .i64 p2]

section
variable {w W W' : World} {q : Nat} {l l' : List Nat} {b1 b2 : Nat} {q1 q2 p1 p2 : Int}

theorem PV19.below (h : PV19 w q l b1 b2 q1 q2 p1 p2 W) (hb : Below W.heap.size W W') : PV19 w q l b1 b2 q1 q2 p1 p2 W' := ⟨h.g.below hb, h.x.below hb h.x.lt, h.y.below hb h.y.lt⟩

theorem PV19.drewN (h : PV19 w q l b1 b2 q1 q2 p1 p2 W) (k : Nat) : PV19 w q l b1 b2 q1 q2 p1 p2 (W.drewN k) := h.below (let b := Below.refl W.heap.size W; ⟨b.os, b.tape, b.output, b.size, b.block⟩)

theorem PV19.drew (h : PV19 w q l b1 b2 q1 q2 p1 p2 W) : PV19 w q l b1 b2 q1 q2 p1 p2 W.drew := h.below (let b := Below.refl W.heap.size W; ⟨b.os, b.tape, b.output, b.size, b.block⟩)

theorem PV19.cells (h : PV19 w q l b1 b2 q1 q2 p1 p2 W) : W.cell? ⟨b2, 1, none⟩ = some (.int .i64 p2) ∧ W.cell? ⟨b1, 0, none⟩ = some (.int .i64 q1) ∧ W.cell? ⟨b1, 1, none⟩ = some (.int .i64 q2) := by
  have x0 := h.x.cell 0; have x1 := h.x.cell 1; have y1 := h.y.cell 1
  simp only [List.getElem?_toArray, List.getElem?_cons_zero, List.getElem?_cons_succ] at x0 x1 y1
  exact ⟨y1, x0, x1⟩

end

theorem pnum19 {f : Bool} {q : Pr} {d p2 : Int} : p2 - ll19 (bf19 f q) d = if f = false ∧ d = 0 then p2 - q.2 - 1 else p2 := by
  unfold ll19 bf19
  by_cases h0 : d = 0
  · cases f
    · simp only [h0, and_self, if_true, Bool.false_eq_true, if_false]; omega
    · simp only [h0, Bool.true_eq_false, false_and, if_false, if_true]; omega
  · rw [if_neg h0, if_neg (by omega)]; omega

set_option maxRecDepth 100000 in
set_option maxHeartbeats 8000000 in
theorem pinv19_K {w : World} {q hi : Nat} {v : Value} {L : List Nat} (h : Wri w q hi v L) (hm : L.length + 30000 ≤ 70368744177664) (hhi : hi ≤ w.heap.size) {x : List Pr} {A : Option Addr} {c : Nat} (hs : Sees w q A (prs x)) (hx : x.length ≤ 1000) (hc : x.length ≤ c) (hcm : c ≤ maxLen) (hp : PP19 true (0, 0) x) :
    Calls Try.prog 31 #[.pointer (some ⟨q, 0, none⟩), .slice A x.length c] w (WroteK w q (L ++ encIv x)) := by
  have HG0 : Hid (GPS w q L w) := GPS.new h hhi
  have hqw : q < w.heap.size := h.row.lt
  have HSE : Hid (∀ W, Mods (From q) w W → Sees W q A (prs x)) := fun W hm => hs.below (hm.below (Nat.le_of_lt hqw) fun k hk => hk)
  have HPK := Lib.hid hp
  have HLM := Lib.hid hm
  have HIV : Hid (L ++ encIv x = L ++ putS x.length ++ encPs19 true (0, 0) x) := by show _ = _; unfold encIv; rw [List.append_assoc]
  have C1 := Lib.hid (wuintK h x.length (by omega) (by omega) (by omega) hhi)
  rw [Int.toNat_natCast] at C1
  clear h hhi hs hp
  unfold maxLen at hcm
  go_enter Try.func31, Try.ntmps31
  go_wp2_with fail
  refine C1.out.mono ?_
  rintro e W1 ⟨⟨rfl, hw, hmm⟩, hkp⟩
  have HG1 := Lib.hid (HG0.out.next hw hmm hkp)
  clear hw hmm hkp C1 HG0
  have C2 := Lib.hid (bfirst19_any W1)
  go_wp2_with fail
  refine C2.out.mono ?_
  rintro e W2 ⟨rfl, hb2⟩
  have HG2 := Lib.hid (HG1.out.below hb2)
  clear hb2 C2 HG1
  go_upto_region 2 with fail
  have HG3 := Lib.hid (HG2.out.below ((Below.refl W2.heap.size W2).alloc (Nat.le_refl _) (.cells #[.int .i64 0, .int .i64 (-1)] 52)))
  have HX3 := Lib.hid (Row.new W2 52 #[.int .i64 0, .int .i64 (-1)])
  have HZ3 := Lib.hid HG2.out.md.size
  clear HG2
  generalize (W2.alloc (.cells #[.int .i64 0, .int .i64 (-1)] 52)) = W3 at *
  generalize W2.heap.size = b1 at *
  go_wp2
  go_loopg [16] x.length (fun g v16 wx => ∃ m : Nat, m + g = x.length ∧ v16 = .int .i64 m ∧ Hid (GPS w q (L ++ putS x.length ++ encPs19 true (0, 0) (x.take m)) wx) ∧ Hid (Row wx b1 52 #[.int .i64 (prvP x (0, 0) m).1, .int .i64 (bf19 (flP true m) (prvP x (0, 0) m))]))
  case atStart => exact ⟨0, by omega, rfl, by rw [List.take_zero]; show GPS w q (L ++ putS x.length ++ []) W3; rw [List.append_nil]; exact HG3.out, HX3.out⟩
  case round =>
    clear HG3 HX3
    obtain ⟨m, hmg, rfl, HG, HX⟩ := hrel
    cases gk with
    | zero =>
      have hlt2 : ¬ (m : Int) < (x.length : Int) := by omega
      have HN : Hid (GPS w q (L ++ encIv x) wr) := by
        show GPS _ _ _ _
        rw [HIV.out]
        have := HG.out
        rw [List.take_of_length_le (by omega)] at this
        exact this
      go_wp2
      go_end0
      exact HN.out.done rfl
    | succ g2 =>
      have hm2 : m < x.length := by omega
      have hlt2 : (m : Int) < (x.length : Int) := by omega
      obtain ⟨bp, op, rfl, hbp, hp1, hp2⟩ := sees_pair (HSE.out _ HG.out.md) hm2
      obtain ⟨r1, r2, r3⟩ := pp_at19 x true (0, 0) HPK.out m hm2
      have HSN : Hid (L ++ putS x.length ++ encPs19 true (0, 0) (x.take (m + 1)) = L ++ putS x.length ++ encPs19 true (0, 0) (x.take m) ++ encP19 (flP true m) (prvP x (0, 0) m) x[m]) := by show _ = _; rw [encPs_snoc19 x true (0, 0) m hm2, List.append_assoc (L ++ putS x.length)]
      have HLN : Hid ((L ++ putS x.length ++ encPs19 true (0, 0) (x.take m)).length ≤ 70368744177600) := by
        show _ ≤ _
        have h1 := (encPs_len19 (x.take m) true (0, 0)).2
        have h2 := HLM.out
        have h3 := putS_le x.length
        simp only [List.length_append, List.length_take] at h1 ⊢
        omega
      have HNX : Hid ((prvP x (0, 0) (m + 1)).1 = x[m].1 ∧ bf19 (flP true (m + 1)) (prvP x (0, 0) (m + 1)) = x[m].2) := by
        have e : prvP x (0, 0) (m + 1) = x[m] := by
          unfold prvP
          rw [if_neg (by omega), Nat.add_sub_cancel, List.getD_eq_getElem?_getD, List.getElem?_eq_getElem hm2]
          rfl
        rw [e]
        exact ⟨rfl, rfl⟩
      have hqi : InI (prvP x (0, 0) m).2 := by
        unfold prvP
        by_cases h9 : m = 0
        · rw [if_pos h9]; unfold InI; decide
        · rw [if_neg h9, List.getD_eq_getElem?_getD, List.getElem?_eq_getElem (by omega)]
          exact (pp_at19 x true (0, 0) HPK.out (m - 1) (by omega)).2.2.2
      generalize L ++ putS x.length ++ encPs19 true (0, 0) (x.take m) = LL at *
      generalize x[m] = pr at *
      obtain ⟨p1, p2⟩ := pr
      generalize prvP x (0, 0) m = qq at *
      generalize flP true m = fl at *
      dsimp only at r1 r2 r3 hp1 hp2 HX
      obtain ⟨d, hd⟩ : ∃ z, z = p1 - qq.1 := ⟨_, rfl⟩
      have HYY := pnum19 (f := fl) (q := qq) (d := d) (p2 := p2)
      rw [← hd, ← HYY] at r2
      rw [← hd] at r1
      obtain ⟨least, hle⟩ : ∃ z, z = ll19 (bf19 fl qq) d := ⟨_, rfl⟩
      rw [← hle] at r2 HYY
      have HSN2 : Hid (L ++ putS x.length ++ encPs19 true (0, 0) (x.take (m + 1)) = LL ++ putS d.toNat ++ putS (p2 - least).toNat) := by
        show _ = _
        rw [HSN.out, HYY, hd, List.append_assoc]
        rfl
      have hov : d = 0 → -9223372036854775808 ≤ bf19 fl qq + 1 ∧ bf19 fl qq + 1 ≤ 9223372036854775807 := fun h9 => by
        have e1 : least = bf19 fl qq + 1 := by rw [hle]; exact if_pos h9
        have h8 := r3.2
        have h7 : -9223372036854775808 ≤ bf19 fl qq := by unfold bf19; unfold InI at hqi; split <;> omega
        unfold InI at h8
        omega
      have C4 := Lib.hid fun (l' : List Nat) (b2 : Nat) (W : World) (h : PV19 w q l' b1 b2 qq.1 (bf19 fl qq) p1 p2 W) => (least19_any W qq.1 (bf19 fl qq) d hov).mono (R' := fun e w' => e = .returned (.int .i64 least) ∧ PV19 w q l' b1 b2 qq.1 (bf19 fl qq) p1 p2 w') (by
        rintro e W' ⟨rfl, hm⟩
        exact ⟨by rw [hle], h.below hm⟩)
      obtain ⟨q1, qz⟩ := qq
      dsimp only at *
      generalize bf19 fl (q1, qz) = q2 at *
      have hd' := hd.symm
      have hsub : IntKind.i64.wrap (p2 - least) = p2 - least := by rw [IntKind.wrap_i64]; omega
      clear hd HSN HYY hle hov hqi
      go_upto_region 5 with fail
      have HG3 := Lib.hid (HG.out.below ((Below.refl wr.heap.size wr).alloc (Nat.le_refl _) (.cells #[.int .i64 p1, .int .i64 p2] 52)))
      have HX3 := Lib.hid (HX.out.alloc (.cells #[.int .i64 p1, .int .i64 p2] 52))
      have HY3 := Lib.hid (Row.new wr 52 #[.int .i64 p1, .int .i64 p2])
      clear HG HX hp1 hp2
      generalize (wr.alloc (.cells #[.int .i64 p1, .int .i64 p2] 52)) = W3 at *
      generalize wr.heap.size = b2 at *
      have x0 := HX3.out.cell 0; have x1 := HX3.out.cell 1
      have y0 := HY3.out.cell 0; have y1 := HY3.out.cell 1
      simp only [List.getElem?_toArray, List.getElem?_cons_zero, List.getElem?_cons_succ] at x0 x1 y0 y1
      obtain ⟨v3, hv3⟩ := HG3.out.wr
      have C2 := Lib.hid (wuintK hv3 d (by omega) (by omega) (by have := HLN.out; omega) (Nat.le_refl _))
      clear hv3
      go_wp2_with fail
      refine C2.out.mono ?_
      rintro e W4 ⟨⟨rfl, hw, hmm⟩, hkp⟩
      have HV4 : Hid (PV19 w q (LL ++ putS d.toNat) b1 b2 q1 q2 p1 p2 W4) := ⟨HG3.out.next hw hmm hkp, hkp _ _ _ HX3.out (by decide) (by decide), hkp _ _ _ HY3.out (by decide) (by decide)⟩
      clear hw hmm hkp C2 HG3 HX3 HY3 x0 x1 y0 y1
      go_upto_region 7 with fail
      go_cut [] from 17 (fun wx => ∃ W5, W5 = wx ∧ Hid (PV19 w q (LL ++ putS d.toNat ++ putS (p2 - least).toNat) b1 b2 q1 q2 p1 p2 W5))
      case first =>
        have C5 : Hid (∀ W, PV19 w q (LL ++ putS d.toNat) b1 b2 q1 q2 p1 p2 W → Calls Try.prog 42 #[.pointer (some ⟨q, 0, none⟩), .int .u64 (p2 - least)] W fun e w' => e = .returned (.tuple #[]) ∧ PV19 w q (LL ++ putS d.toNat ++ putS (p2 - least).toNat) b1 b2 q1 q2 p1 p2 w') := fun W h => by
          obtain ⟨v5, hv5⟩ := h.g.wr
          refine (wuintK hv5 (p2 - least) (by omega) (by omega) (by have := HLN.out; have := putS_le d.toNat; rw [List.length_append]; omega) (Nat.le_refl _)).mono ?_
          rintro e W' ⟨⟨rfl, hw, hmm⟩, hkp⟩
          exact ⟨rfl, h.g.next hw hmm hkp, hkp _ _ _ h.x (by decide) (by decide), hkp _ _ _ h.y (by decide) (by decide)⟩
        have hG := HV4.out
        obtain ⟨y1, x0, x1⟩ := hG.cells
        clear HV4
        have hu : IntKind.u64.wrap (p2 - least) = p2 - least := u64_id (by omega)
        go_region_held3 (fun w' => w'.cell? ⟨b2, 1, none⟩ = some (.int .i64 p2) ∧ w'.cell? ⟨b1, 0, none⟩ = some (.int .i64 q1) ∧ w'.cell? ⟨b1, 1, none⟩ = some (.int .i64 q2)) (first | exact hG.cells | exact hG.drew.cells | exact (hG.drewN _).cells) (first
          | (go_at_call 38; go_must ((with_reducible refine (C4.out _ _ _ (by first | exact hG | exact hG.drew | exact hG.drewN _)).mono ?_); rintro e Wa ⟨rfl, hG⟩))
          | (go_at_call 42; go_must ((with_reducible refine (C5.out _ (by first | exact hG | exact hG.drew | exact hG.drewN _)).mono ?_); rintro e Wa ⟨rfl, hG⟩)))
        all_goals
          go_wp2_with fail
          go_meet
          case rel => exact ⟨_, rfl, by first | exact hG | exact hG.drew | exact hG.drewN _⟩
      case rest =>
        obtain ⟨W5, hW5, HV5⟩ := hcut
        subst hW5
        have x0 := HV5.out.x.cell 0; have x1 := HV5.out.x.cell 1
        have xf0 := HV5.out.x.frozen 0; have xf1 := HV5.out.x.frozen 1
        have y0 := HV5.out.y.cell 0; have y1 := HV5.out.y.cell 1
        simp only [List.getElem?_toArray, List.getElem?_cons_zero, List.getElem?_cons_succ] at x0 x1 y0 y1
        go_upto_region 9 with fail
        have hmx : Mods (Is b1) W5 ((W5.setCell ⟨b1, 0, none⟩ (.int .i64 p1)).setCell ⟨b1, 1, none⟩ (.int .i64 p2)) := ((Mods.refl _ _).put 0 _).put 1 _
        have HG6 := Lib.hid (HV5.out.g.box HV5.out.x (by decide) (by decide) HZ3.out hqw hmx)
        have HX6 : Hid (Row ((W5.setCell ⟨b1, 0, none⟩ (.int .i64 p1)).setCell ⟨b1, 1, none⟩ (.int .i64 p2)) b1 52 #[.int .i64 p1, .int .i64 p2]) := (HV5.out.x.put 0 _).put 1 _
        rw [← HSN2.out] at HG6
        clear hmx x0 x1 y0 y1 xf0 xf1 HV4 HV5
        generalize ((W5.setCell ⟨b1, 0, none⟩ (.int .i64 p1)).setCell ⟨b1, 1, none⟩ (.int .i64 p2)) = W6 at *
        go_wp2
        go_roundg g2
        case measure => omega
        case rel => exact ⟨m + 1, by omega, by go_num, HG6, by rw [HNX.out.1, HNX.out.2]; exact HX6.out⟩

set_option maxRecDepth 100000 in
set_option maxHeartbeats 8000000 in
theorem pput19_K {w : World} {q hi : Nat} {v : Value} {l : List Nat} (h : Wri w q hi v l) (hm : l.length + 200000000 ≤ 70368744177664) (hhi : hi ≤ w.heap.size) {xs : List (List Pr)} {A : Option Addr} {c : Nat} (hs : SeesPP w q A xs) (hx : xs.length ≤ 1000) (hl : ∀ x ∈ xs, x.length ≤ 1000) (hp : ∀ x ∈ xs, PP19 true (0, 0) x) :
    Calls Try.prog 16 #[.pointer (some ⟨q, 0, none⟩), .slice A xs.length c] w (WroteK w q (l ++ encW19 xs)) := by
  have HG : Hid (GPS w q l w) := GPS.new h hhi
  have hqw : q < w.heap.size := h.row.lt
  have HS := Lib.hid hs
  have HL := Lib.hid hl
  have HP := Lib.hid hp
  have HQ : Hid (∀ W, Mods (From q) w W → Below q w W) := fun W hm => hm.below (Nat.le_of_lt hqw) fun k hk => hk
  have HT : Hid (∀ k, (encW19 (xs.take k)).length ≤ 100000000) := fun k => by
    have h1 := (encW_len19 (xs.take k)).2
    have h2 := totP_le (w := xs.take k) (m := 1000) fun l h => HL.out l (List.mem_of_mem_take h)
    rw [List.length_take] at h1 h2
    have h3 : min k xs.length * 1000 ≤ 1000 * 1000 := Nat.mul_le_mul_right _ (by omega)
    omega
  clear h hhi hs hl hp
  go_enter Try.func16, Try.ntmps16
  go_wp2
  go_loopg [8] xs.length (fun g v8 wr => ∃ k : Nat, k + g = xs.length ∧ v8 = .int .i64 k ∧ Hid (GPS w q (l ++ encW19 (xs.take k)) wr))
  case atStart => exact ⟨0, by omega, rfl, by rw [List.take_zero]; show GPS w q (l ++ []) w; rw [List.append_nil]; exact HG.out⟩
  case round =>
    clear HG
    obtain ⟨k, hkg, rfl, HG⟩ := hrel
    cases gk with
    | zero =>
      have hlt : ¬ (k : Int) < (xs.length : Int) := by omega
      have HJ : Hid (encW19 (xs.take k) = encW19 xs) := by show _ = _; rw [List.take_of_length_le (by omega)]
      go_wp2
      go_end0
      exact HG.out.done (by rw [HJ.out])
    | succ g =>
      have hk : k < xs.length := by omega
      have hlt : (k : Int) < (xs.length : Int) := by omega
      have HSK : ∃ b o Ai ci, A = some ⟨b, o, none⟩ ∧ b < q ∧ xs[k].length ≤ ci ∧ ci ≤ maxLen ∧ Hid (∀ W, Mods (From q) w W → W.cell? ⟨b, o + k, none⟩ = some (.slice Ai xs[k].length ci) ∧ Sees W q Ai (prs xs[k])) := by
        obtain ⟨b, o, Ai, ci, e, h0, h1, h2, h3, h4⟩ := HS.out.at_ hk
        exact ⟨b, o, Ai, ci, e, h0, h2, h3, fun W h => ⟨((HQ.out _ h).cell (p := ⟨b, o + k, none⟩) h0).trans h1, h4.below (HQ.out _ h)⟩⟩
      have HLK : Hid (xs[k].length ≤ 1000) := HL.out _ (List.getElem_mem hk)
      have HPK : Hid (PP19 true (0, 0) xs[k]) := HP.out _ (List.getElem_mem hk)
      have HSU : Hid (l ++ encW19 (xs.take (k + 1)) = l ++ encW19 (xs.take k) ++ encIv xs[k]) := by
        show _ = _
        have h9 : encW19 (xs.take (k + 1)) = encW19 (xs.take k) ++ encIv xs[k] := fm_take_succ encIv xs k hk
        rw [h9, List.append_assoc]
      have HTK : Hid ((l ++ encW19 (xs.take k)).length + 30000 ≤ 70368744177664) := by show _ ≤ _; rw [List.length_append]; have := HT.out k; omega
      generalize xs[k] = x at *
      generalize l ++ encW19 (xs.take k) = L at *
      obtain ⟨b, o, Ai, ci, rfl, hbB, hci, hcm, HSE⟩ := HSK
      obtain ⟨hcell, hsee⟩ := HSE.out _ HG.out.md
      obtain ⟨v0, hv0⟩ := HG.out.wr
      have C1 := Lib.hid (pinv19_K hv0 HTK.out (Nat.le_refl _) hsee HLK.out hci hcm HPK.out)
      rw [← HSU.out] at C1
      clear hsee hv0
      unfold maxLen at hcm
      go_wp2_with fail
      refine C1.out.mono ?_
      rintro e W1 ⟨⟨rfl, hw, hmm⟩, hkp⟩
      have HG1 := Lib.hid (HG.out.next hw hmm hkp)
      clear hw hmm hkp C1 HG hcell
      go_wp2
      go_roundg g
      case measure => omega
      case rel => exact ⟨k + 1, by omega, by go_num, HG1.out⟩

end Go.Proofs.Ythehcdajedaefaa
