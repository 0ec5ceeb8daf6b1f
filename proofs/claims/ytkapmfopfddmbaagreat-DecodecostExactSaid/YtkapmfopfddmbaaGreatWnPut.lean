/-
  The reference of layer 19: Put.
-/
import Derived.Test.YtkapmfopfddmbaaGreatPk21
import Derived.Test.YtkapmfopfddmbaaGreatPk8
import Derived.Test.YtkapmfopfddmbaaGreatPk15
import Derived.Deep.LoopGhost
import Derived.Deep.Cut
import Derived.Deep.CutRange
import Derived.Deep.RegionHeld3
import Derived.Deep.DeepMust
namespace Go.Proofs.YtkapmfopfddmbaaGreat
open Go.RowKit
set_option linter.unusedVariables false
set_option linter.unusedSimpArgs false

/-- What stands ahead of position m. -/
def prvP (l : List Pr) (q : Pr) (m : Nat) : Pr := if m = 0 then q else l.getD (m - 1) (0, 0)

def flP (f : Bool) (m : Nat) : Bool := if m = 0 then f else false

theorem prvP_cons (p : Pr) (l : List Pr) (q : Pr) (m : Nat) : prvP (p :: l) q (m + 1) = prvP l p m := by
  cases m <;> simp [prvP]

theorem flP_false (m : Nat) : flP false m = false := by unfold flP; split <;> rfl

theorem flP_succ (f : Bool) (m : Nat) : flP f (m + 1) = false := rfl

theorem encPs_snoc19 : ∀ (l : List Pr) (f : Bool) (q : Pr) (m : Nat) (h : m < l.length), encPs19 f q (l.take (m + 1)) = encPs19 f q (l.take m) ++ encP19 (flP f m) (prvP l q m) l[m]
  | p :: l, f, q, 0, _ => by
    show encP19 f q p ++ encPs19 false p (l.take 0) = [] ++ encP19 f q p
    rw [List.take_zero]
    show encP19 f q p ++ [] = [] ++ encP19 f q p
    rw [List.append_nil, List.nil_append]
  | p :: l, f, q, m + 1, h => by
    have hm : m < l.length := by simpa using h
    have ih := encPs_snoc19 l false p m hm
    rw [List.take_succ_cons, List.take_succ_cons, prvP_cons, flP_succ, ← flP_false m]
    show encP19 f q p ++ encPs19 false p (l.take (m + 1)) = (encP19 f q p ++ encPs19 false p (l.take m)) ++ _
    rw [ih, List.append_assoc]
    rfl

theorem pp_at19 : ∀ (l : List Pr) (f : Bool) (q : Pr), PP19 f q l → ∀ (m : Nat) (h : m < l.length),
    (0 ≤ l[m].1 - (prvP l q m).1 ∧ l[m].1 - (prvP l q m).1 ≤ 1000000000) ∧ (0 ≤ (if flP f m = false ∧ l[m].1 - (prvP l q m).1 = 0 then l[m].2 - (prvP l q m).2 - 1 else l[m].2) ∧ (if flP f m = false ∧ l[m].1 - (prvP l q m).1 = 0 then l[m].2 - (prvP l q m).2 - 1 else l[m].2) ≤ 4000000000) ∧ (InI l[m].1 ∧ InI l[m].2)
  | p :: l, f, q, hp, 0, _ => ⟨hp.1, hp.2.1, hp.2.2.1⟩
  | p :: l, f, q, hp, m + 1, h => by
    have hm : m < l.length := by simpa using h
    have := pp_at19 l false p hp.2.2.2 m hm
    rw [flP_false] at this
    rw [prvP_cons, flP_succ]
    exact this

set_option maxRecDepth 100000 in
set_option maxHeartbeats 2000000 in
theorem rput19_any {w0 W : World} {v : Value} {l : List Nat} (h : BL w0 v l W) (x : Int) (h0 : 0 ≤ x) (h1 : x ≤ 9223372036854775807) (hl : l.length ≤ 1000000000000) :
    Calls Tryz.prog 39 #[v, .int .i64 x] W fun e W' => ∃ v', e = .returned v' ∧ BL w0 v' (l ++ putS x.toNat) W' ∧ KT W W' := by
  obtain ⟨i0, hi, hz0, hz1, hz2⟩ := info_parts Tryz.infoU8c
  have C1 := Lib.hid (rput_any x W h0 (by omega))
  have HL := Lib.hid h
  have hp := putS_le x.toNat
  clear h
  go_enter Tryz.func39, Tryz.ntmps39
  go_wp2_with fail
  refine C1.out.mono ?_
  rintro e W1 ⟨g, c, rfl, ho, hb⟩
  have HL1 := Lib.hid (HL.out.next hb)
  have HK1 := Lib.hid (KT.of_below hb)
  have hsee := Sees.of_own ho
  have hlo : w0.heap.size ≤ W1.heap.size := HL1.out.blw.size
  have HLS : Hid (lenS x.toNat = (putS x.toNat).length) := rfl
  clear ho hb C1 HL
  have hown := HL1.out.own
  go_wp2_with (at_builtin; refine wpList_append_sees _ rfl (.tmp 5) (.tmp 8) 33 rfl w0.heap.size 5 i0 (.int .u8 0) 1 Tryz.underlying33 hi hz0 hz1 hz2 rfl v l.length (bts l) rfl hown W1.heap.size _ _ _ (bts (putS x.toNat)) rfl hsee (bts_length _) (bts_one _) ?c1 ?c2 ?c3 ?_)
  case c1 => have h9 : lenS x.toNat = (putS x.toNat).length := rfl; unfold maxLen; omega
  case c2 => have h9 : lenS x.toNat = (putS x.toNat).length := rfl; omega
  case c3 => exact hlo
  intro v2 W2 ho2 hg2
  have HL2 := Lib.hid (HL1.out.app rfl ho2 hg2)
  have HK2 := Lib.hid (HK1.out.trans (KT.grown hown hg2))
  clear ho2 hg2 hown hsee
  go_wp2
  go_ret
  exact ⟨v2, rfl, HL2.out, HK2.out⟩

/-- Bytes of one's own, and a pair in a box. -/
structure PW (w : World) (v : Value) (l : List Nat) (x : Nat) (p1 p2 : Int) (W : World) : Prop where
  bl : BL w v l W
  row : Row W x 86 #[.int .i64 p1, .int .i64 p2]

theorem PW.app {w : World} {v v' : Value} {l l' : List Nat} {x : Nat} {p1 p2 : Int} {W W' : World} (h : PW w v l x p1 p2 W) (hb : BL w v' l' W') (hk : KT W W') : PW w v' l' x p1 p2 W' := ⟨hb, hk _ _ _ (by decide) h.row⟩

theorem PW.next {w : World} {v : Value} {l : List Nat} {x : Nat} {p1 p2 : Int} {W W' : World} (h : PW w v l x p1 p2 W) (hb : Below W.heap.size W W') : PW w v l x p1 p2 W' := ⟨h.bl.next hb, h.row.below hb h.row.lt⟩

theorem PW.drew {w : World} {v : Value} {l : List Nat} {x : Nat} {p1 p2 : Int} {W : World} (h : PW w v l x p1 p2 W) : PW w v l x p1 p2 W.drew := h.next (let b := Below.refl W.heap.size W; ⟨b.os, b.tape, b.output, b.size, b.block⟩)

theorem PW.drewN {w : World} {v : Value} {l : List Nat} {x : Nat} {p1 p2 : Int} {W : World} (h : PW w v l x p1 p2 W) (n : Nat) : PW w v l x p1 p2 (W.drewN n) := h.next (let b := Below.refl W.heap.size W; ⟨b.os, b.tape, b.output, b.size, b.block⟩)

theorem PW.cells {w : World} {v : Value} {l : List Nat} {x : Nat} {p1 p2 : Int} {W : World} (h : PW w v l x p1 p2 W) : W.cell? ⟨x, 0, none⟩ = some (.int .i64 p1) ∧ W.cell? ⟨x, 1, none⟩ = some (.int .i64 p2) := ⟨h.row.cell 0, h.row.cell 1⟩

set_option maxRecDepth 100000 in
set_option maxHeartbeats 4000000 in
theorem rputw_any (B : Nat) (A : Option Addr) (xs : List (List Pr)) (c : Nat) (w : World) (hs : SeesPP w B A xs) (hB : B ≤ w.heap.size) (hf : xs.length ≤ 3000) (hl : ∀ x ∈ xs, x.length ≤ 3000) (hp : ∀ l ∈ xs, PP19 true (0, 0) l) :
    Calls Tryz.prog 16 #[.slice A xs.length c] w (RB w (encW19 xs)) := by
  have HS := Lib.hid hs
  have HL := Lib.hid hl
  have HP := Lib.hid hp
  have HT : Hid (∀ k, (encW19 (xs.take k)).length ≤ 1000000000) := fun k => by
    have h1 := (encW_len19 (xs.take k)).2
    have h2 := totP_le (w := xs.take k) (m := 3000) fun l h => HL.out l (List.mem_of_mem_take h)
    rw [List.length_take] at h1 h2
    have h3 : min k xs.length * 3000 ≤ 3000 * 3000 := Nat.mul_le_mul_right _ (by omega)
    omega
  clear hs hl hp
  go_enter Tryz.func16, Tryz.ntmps16
  go_wp2
  go_loopg [3, 4] xs.length (fun g v3 v4 wr => ∃ k : Nat, k + g = xs.length ∧ v4 = .int .i64 k ∧ Hid (BL w v3 (encW19 (xs.take k)) wr))
  case atStart => exact ⟨0, by omega, rfl, bl_nil w⟩
  case round =>
    obtain ⟨k, hkg, rfl, HBL⟩ := hrel
    cases gk with
    | zero =>
      obtain rfl : k = xs.length := by omega
      rw [List.take_length] at HBL
      go_wp2
      go_ret
      exact RB.of HBL.out (Below.refl _ _)
    | succ g =>
      have hk : k < xs.length := by omega
      have HSK : Hid (∀ W v l, BL w v l W → ∃ b o Ai ci, A = some ⟨b, o, none⟩ ∧ b < B ∧ W.cell? ⟨b, o + k, none⟩ = some (.slice Ai xs[k].length ci) ∧ xs[k].length ≤ ci ∧ ci ≤ maxLen ∧ Sees W B Ai (prs xs[k])) := fun W v l h => by
        obtain ⟨b, o, Ai, ci, e, h0, h1, h2, h3, h4⟩ := (HS.out.below (h.blw.mono hB)).at_ hk
        exact ⟨b, o, Ai, ci, e, h0, h1, h2, h3, h4⟩
      have HLK : Hid (xs[k].length ≤ 3000) := HL.out _ (List.getElem_mem hk)
      have HPK : Hid (PP19 true (0, 0) xs[k]) := HP.out _ (List.getElem_mem hk)
      have HSU : Hid (encW19 (xs.take (k + 1)) = encW19 (xs.take k) ++ (putS xs[k].length ++ encPs19 true (0, 0) xs[k])) := fm_take_succ encIv xs k hk
      have HTK := Lib.hid (HT.out k)
      generalize xs[k] = x at *
      generalize encW19 (xs.take k) = L at *
      obtain ⟨b, o, Ai, ci, rfl, hbB, hcell, hci, hcm, hsee⟩ := HSK.out _ _ _ HBL.out
      have hx := HLK.out
      have C1 := Lib.hid (rput19_any HBL.out x.length (by omega) (by omega) (by have := HTK.out; omega))
      rw [Int.toNat_natCast] at C1
      clear hsee HBL
      unfold maxLen at hcm
      go_wp2_with fail
      refine C1.out.mono ?_
      rintro e W1 ⟨v1, rfl, hbl, hkt⟩
      have HB1 := Lib.hid hbl
      obtain ⟨wo, hwo⟩ : ∃ z, z = wr := ⟨_, rfl⟩
      subst hwo
      clear hbl hkt C1 hcell
      go_wp2
      go_loopg [3, 5] x.length (fun g2 v3 v5 wx => ∃ m : Nat, m + g2 = x.length ∧ v5 = .int .i64 m ∧ Hid (BL w v3 (L ++ putS x.length ++ encPs19 true (0, 0) (x.take m)) wx))
      case atStart => exact ⟨0, by omega, rfl, by rw [List.take_zero]; show BL w v1 (L ++ putS x.length ++ []) W1; rw [List.append_nil]; exact HB1.out⟩
      case round =>
        clear HB1
        obtain ⟨m, hmg, rfl, HBL⟩ := hrel
        obtain ⟨b', o', A2, c2, he, _, hcell, hci2, hcm2, hsee⟩ := HSK.out _ _ _ HBL.out
        injection he with he
        injection he with he1 he2
        subst he1 he2
        unfold maxLen at hcm2
        cases gk with
        | zero =>
          obtain rfl : m = x.length := by omega
          have hlt : ¬ ((x.length : Nat) : Int) < (x.length : Nat) := by omega
          rw [List.take_length] at HBL
          have HN : Hid (BL w u3 (encW19 (xs.take (k + 1))) wr) := by
            show BL _ _ _ _
            rw [HSU.out, ← List.append_assoc]
            exact HBL.out
          clear hsee
          go_wp2_with fail
          go_roundg g
          case measure => omega
          case rel => exact ⟨k + 1, by omega, by go_num, HN.out⟩
        | succ g2 =>
          have hm : m < x.length := by omega
          have hlt : (m : Int) < (x.length : Int) := by omega
          obtain ⟨bp, op, rfl, hbp, hp1, hp2⟩ := sees_pair hsee hm
          obtain ⟨q1, q2, q3⟩ := pp_at19 x true (0, 0) HPK.out m hm
          have HSN : Hid (L ++ putS x.length ++ encPs19 true (0, 0) (x.take (m + 1)) = L ++ putS x.length ++ encPs19 true (0, 0) (x.take m) ++ encP19 (flP true m) (prvP x (0, 0) m) x[m]) := by show _ = _; rw [encPs_snoc19 x true (0, 0) m hm, List.append_assoc (L ++ putS x.length)]
          have HLN : Hid ((L ++ putS x.length ++ encPs19 true (0, 0) (x.take m)).length ≤ 2000000000) := by
            show _ ≤ _
            have h1 := (encPs_len19 (x.take m) true (0, 0)).2
            have h2 := HTK.out
            have h3 := putS_le x.length
            simp only [List.length_append, List.length_take] at h1 ⊢
            omega
          generalize L ++ putS x.length ++ encPs19 true (0, 0) (x.take m) = LL at *
          by_cases h0 : m = 0
          · subst h0
            change 0 ≤ x[0].1 - 0 ∧ x[0].1 - 0 ≤ 1000000000 at q1
            change 0 ≤ (if true = false ∧ x[0].1 - 0 = 0 then x[0].2 - 0 - 1 else x[0].2) ∧ (if true = false ∧ x[0].1 - 0 = 0 then x[0].2 - 0 - 1 else x[0].2) ≤ 4000000000 at q2
            rw [if_neg (fun h => absurd h.1 (by decide))] at q2
            have HEN : Hid (LL ++ encP19 (flP true 0) (prvP x (0, 0) 0) x[0] = LL ++ putS x[0].1.toNat ++ putS x[0].2.toNat) := by
              show LL ++ (putS (x[0].1 - 0).toNat ++ putS (if true = false ∧ x[0].1 - 0 = 0 then x[0].2 - 0 - 1 else x[0].2).toNat) = _
              rw [if_neg (fun h => absurd h.1 (by decide)), Int.sub_zero, List.append_assoc]
            rw [HEN.out] at HSN
            generalize x[0] = p at *
            obtain ⟨p1, p2⟩ := p
            dsimp only at q1 q2 q3 hp1 hp2 HSN
            simp only [Nat.zero_mul, Nat.add_zero] at hp1 hp2
            have hlt0 : (0 : Int) < (x.length : Int) := by omega
            clear hsee HEN hlt
            go_upto_region 10 with fail
            have HW : Hid (PW w u3 LL wr.heap.size p1 p2 (wr.alloc (.cells #[.int .i64 p1, .int .i64 p2] 86))) := ⟨HBL.out.next ((Below.refl _ _).alloc (Nat.le_refl _) _), Row.new _ _ _⟩
            generalize (wr.alloc (.cells #[.int .i64 p1, .int .i64 p2] 86)) = W2 at *
            generalize wr.heap.size = px at *
            have K1 : Hid (∀ W, PW w u3 LL px p1 p2 W → Calls Tryz.prog 39 #[u3, .int .i64 p1] W fun e W' => ∃ v', e = .returned v' ∧ PW w v' (LL ++ putS p1.toNat) px p1 p2 W') := fun W h => (rput19_any h.bl p1 (by omega) (by omega) (by have := HLN.out; omega)).mono (by
              rintro e W' ⟨v', rfl, h1, h2⟩
              exact ⟨v', rfl, h.app h1 h2⟩)
            have K2 : Hid (∀ v W, PW w v (LL ++ putS p1.toNat) px p1 p2 W → Calls Tryz.prog 39 #[v, .int .i64 p2] W fun e W' => ∃ v', e = .returned v' ∧ PW w v' (LL ++ putS p1.toNat ++ putS p2.toNat) px p1 p2 W') := fun v W h => (rput19_any h.bl p2 (by omega) (by omega) (by have := HLN.out; have := putS_le p1.toNat; rw [List.length_append]; omega)).mono (by
              rintro e W' ⟨v', rfl, h1, h2⟩
              exact ⟨v', rfl, h.app h1 h2⟩)
            have hG := HW.out
            obtain ⟨d0, d1⟩ := hG.cells
            clear HW HBL hcell hp1 hp2
            go_upto_region 11 with fail
            go_wp2_with fail
            go_region_held3 (fun w' => w'.cell? ⟨px, 0, none⟩ = some (.int .i64 p1) ∧ w'.cell? ⟨px, 1, none⟩ = some (.int .i64 p2)) (first | exact hG.cells | exact hG.drew.cells | exact (hG.drewN _).cells) (first | (go_at_call 39; go_must (first
              | ((with_reducible refine (K1.out _ (by first | exact hG | exact hG.drew | exact hG.drewN _)).mono ?_); rintro e Wa ⟨va, rfl, hG⟩)
              | ((with_reducible refine (K2.out _ _ (by first | exact hG | exact hG.drew | exact hG.drewN _)).mono ?_); rintro e Wa ⟨vb, rfl, hG⟩))))
            rw [← HSN.out] at hG
            go_wp2
            go_roundg g2
            case measure => omega
            case rel => exact ⟨1, by omega, by go_num, hG.bl⟩
          · obtain ⟨m, rfl⟩ : ∃ m', m = m' + 1 := ⟨m - 1, by omega⟩
            have hm' : m < x.length := by omega
            obtain ⟨bq, oq, he, _, hq1, hq2⟩ := sees_pair hsee hm'
            injection he with he
            injection he with he1 he2
            subst he1 he2
            have epv : prvP x (0, 0) (m + 1) = x[m] := by
              unfold prvP
              rw [if_neg (by omega), Nat.add_sub_cancel, List.getD_eq_getElem?_getD, List.getElem?_eq_getElem hm']
              rfl
            rw [epv, flP_succ] at HSN q2
            rw [epv] at q1
            generalize x[m + 1] = p at *
            generalize x[m] = q at *
            obtain ⟨p1, p2⟩ := p
            obtain ⟨r1, r2⟩ := q
            dsimp only at q1 q2 q3 hp1 hp2 hq1 hq2 HSN
            obtain ⟨q3a, q3b⟩ := q3
            unfold InI at q3a q3b
            have hlt1 : (m : Int) < (x.length : Int) := by omega
            have hlt2 : (m : Int) + 1 < (x.length : Int) := by omega
            clear hsee epv h0
            have hsz := HBL.out.blw.size
            have hb1 : b < wr.heap.size := by omega
            have hb2 : bp < wr.heap.size := by omega
            go_upto_region 13 with fail
            have HBB : Hid (Below wr.heap.size wr ((wr.alloc (.cells #[.int .i64 p1, .int .i64 p2] 86)).alloc (.cells #[.int .i64 r1, .int .i64 r2] 86))) := ((Below.refl _ _).alloc (Nat.le_refl _) _).alloc (by simp) _
            have HW : Hid (PW w u3 LL wr.heap.size p1 p2 ((wr.alloc (.cells #[.int .i64 p1, .int .i64 p2] 86)).alloc (.cells #[.int .i64 r1, .int .i64 r2] 86))) := ⟨HBL.out.next HBB.out, (Row.new _ _ _).alloc _⟩
            have HY : Hid (Row ((wr.alloc (.cells #[.int .i64 p1, .int .i64 p2] 86)).alloc (.cells #[.int .i64 r1, .int .i64 r2] 86)) (wr.heap.size + 1) 86 #[.int .i64 r1, .int .i64 r2]) := Row.new' (by simp) _ _
            clear HBB HBL hcell hp1 hp2 hq1 hq2 hsz hb1 hb2
            generalize ((wr.alloc (.cells #[.int .i64 p1, .int .i64 p2] 86)).alloc (.cells #[.int .i64 r1, .int .i64 r2] 86)) = W2 at *
            generalize wr.heap.size = px at *
            have d0 := HW.out.row.cell 0; have d1 := HW.out.row.cell 1
            have f0 := HY.out.cell 0; have f1 := HY.out.cell 1
            simp only [List.getElem?_toArray, List.getElem?_cons_zero, List.getElem?_cons_succ] at d0 d1 f0 f1
            have C2 := Lib.hid (rput19_any HW.out.bl (p1 - r1) q1.1 (by omega) (by have := HLN.out; omega))
            by_cases hd : p1 - r1 = 0
            · rw [if_pos ⟨rfl, hd⟩] at q2
              have HEN : Hid (LL ++ encP19 false (r1, r2) (p1, p2) = LL ++ putS (p1 - r1).toNat ++ putS (p2 - r2 - 1).toNat) := by
                show LL ++ (putS (p1 - r1).toNat ++ putS (if false = false ∧ p1 - r1 = 0 then p2 - r2 - 1 else p2).toNat) = _
                rw [if_pos ⟨rfl, hd⟩, List.append_assoc]
              rw [HEN.out] at HSN
              have de : (p1 == r1) = true := by simp; omega
              clear hd HEN
              go_wp2_with fail
              refine C2.out.mono ?_
              rintro e W3 ⟨va, rfl, h1, h2⟩
              have HW3 := Lib.hid (HW.out.app h1 h2)
              have HY3 := Lib.hid (h2 _ _ _ (by decide) HY.out)
              clear h1 h2 C2 HW HY d0 d1 f0 f1
              have d0 := HW3.out.row.cell 0; have d1 := HW3.out.row.cell 1
              have f0 := HY3.out.cell 0; have f1 := HY3.out.cell 1
              simp only [List.getElem?_toArray, List.getElem?_cons_zero, List.getElem?_cons_succ] at d0 d1 f0 f1
              have C3 := Lib.hid (rput19_any HW3.out.bl (p2 - r2 - 1) q2.1 (by omega) (by have := HLN.out; have := putS_le (p1 - r1).toNat; rw [List.length_append]; omega))
              go_wp2_with fail
              refine C3.out.mono ?_
              rintro e W4 ⟨vb, rfl, h1, h2⟩
              rw [← HSN.out] at h1
              have HB4 := Lib.hid h1
              clear h1 h2 C3 HW3 HY3 d0 d1 f0 f1
              go_wp2
              go_roundg g2
              case measure => omega
              case rel => exact ⟨m + 1 + 1, by omega, by go_num, HB4.out⟩
            · rw [if_neg (fun h => hd h.2)] at q2
              have HEN : Hid (LL ++ encP19 false (r1, r2) (p1, p2) = LL ++ putS (p1 - r1).toNat ++ putS p2.toNat) := by
                show LL ++ (putS (p1 - r1).toNat ++ putS (if false = false ∧ p1 - r1 = 0 then p2 - r2 - 1 else p2).toNat) = _
                rw [if_neg (fun h => hd h.2), List.append_assoc]
              rw [HEN.out] at HSN
              have de : (p1 == r1) = false := by simp; omega
              clear hd HEN
              go_wp2_with fail
              refine C2.out.mono ?_
              rintro e W3 ⟨va, rfl, h1, h2⟩
              have HW3 := Lib.hid (HW.out.app h1 h2)
              have HY3 := Lib.hid (h2 _ _ _ (by decide) HY.out)
              clear h1 h2 C2 HW HY d0 d1 f0 f1
              have d0 := HW3.out.row.cell 0; have d1 := HW3.out.row.cell 1
              have f0 := HY3.out.cell 0; have f1 := HY3.out.cell 1
              simp only [List.getElem?_toArray, List.getElem?_cons_zero, List.getElem?_cons_succ] at d0 d1 f0 f1
              have C3 := Lib.hid (rput19_any HW3.out.bl p2 q2.1 (by omega) (by have := HLN.out; have := putS_le (p1 - r1).toNat; rw [List.length_append]; omega))
              go_wp2_with fail
              refine C3.out.mono ?_
              rintro e W4 ⟨vb, rfl, h1, h2⟩
              rw [← HSN.out] at h1
              have HB4 := Lib.hid h1
              clear h1 h2 C3 HW3 HY3 d0 d1 f0 f1
              go_wp2
              go_roundg g2
              case measure => omega
              case rel => exact ⟨m + 1 + 1, by omega, by go_num, HB4.out⟩

end Go.Proofs.YtkapmfopfddmbaaGreat
