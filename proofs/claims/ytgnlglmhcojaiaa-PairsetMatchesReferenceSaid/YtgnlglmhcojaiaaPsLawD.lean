/-
  The walk of the statement on dropping registers and locations.
-/
import Derived.Test.YtgnlglmhcojaiaaPsAwake
import Derived.Test.YtgnlglmhcojaiaaPsIn
namespace Go.Proofs.Ytgnlglmhcojaiaa
open Go.RowKit
set_option linter.unusedVariables false

/-- Three lists of one's own, no two in one block. -/
structure P3 (w : World) (u v t : Value) (x y z : List Pr) (wr : World) : Prop where
  a : PL w u x wr
  b : PL w v y wr
  c : PL w t z wr
  ab : ∀ k, u.ownBlock = some k → v.ownBlock = some k → False
  ac : ∀ k, u.ownBlock = some k → t.ownBlock = some k → False
  bc : ∀ k, v.ownBlock = some k → t.ownBlock = some k → False

section
variable {w wr w' : World} {u v t u' : Value} {x y z : List Pr}
theorem P3.rot (h : P3 w u v t x y z wr) : P3 w v t u y z x wr := ⟨h.b, h.c, h.a, h.bc, fun k a b => h.ab k b a, fun k a b => h.ac k b a⟩
theorem P3.next (h : P3 w u v t x y z wr) (hb : Below wr.heap.size wr w') : P3 w u v t x y z w' := ⟨h.a.next hb, h.b.next hb, h.c.next hb, h.ab, h.ac, h.bc⟩
theorem PL.aside {v : Value} {l : List Pr} (h : PL w v l wr) (hd : ∀ k, u.ownBlock = some k → v.ownBlock = some k → False) {o : Obj} (hg : (wr.alloc o).grownBy w' u.ownBlock) (hu : ∀ k, u.ownBlock = some k → w.heap.size ≤ k) : PL w v l w' := by
  have hm : Mods (fun k => u.ownBlock = some k) wr w' := ((Mods.refl _ wr).alloc o).grown hg fun k hk => .inl hk
  refine ⟨hm.ownS h.own fun k hk hs => hd k hs hk, ?_⟩
  exact h.blw.trans ⟨hm.os, hm.tape, hm.output, hm.size, fun k hk => hm.block k (Nat.lt_of_lt_of_le hk h.blw.size) fun hs => by have := hu k hs; omega⟩
theorem P3.push (h : P3 w u v t x y z wr) (y1 y2 : Int) {n : Nat} (hn : n = x.length)
    (ho : w'.ownsRow w.heap.size 25 2 u' (n + 1) (prs x ++ prs [(y1, y2)])) (hg : (wr.alloc (prObj y1 y2)).grownBy w' u.ownBlock) (hv : u'.ownBlock = u.ownBlock ∨ u'.ownBlock = some (wr.heap.size + 1)) : P3 w u' v t (x ++ [(y1, y2)]) y z w' := by
  have hu : ∀ k, u.ownBlock = some k → w.heap.size ≤ k := fun k hk => (ownS_lt h.a.own k hk).1
  refine ⟨h.a.push y1 y2 hn ho hg, h.b.aside h.ab hg hu, h.c.aside h.ac hg hu, fun k h1 h2 => ?_, fun k h1 h2 => ?_, h.bc⟩
  · rcases hv with hv | hv
    · exact h.ab k (hv.symm.trans h1) h2
    · rw [hv] at h1
      have := (ownS_lt h.b.own k h2).2
      simp at h1
      omega
  · rcases hv with hv | hv
    · exact h.ac k (hv.symm.trans h1) h2
    · rw [hv] at h1
      have := (ownS_lt h.c.own k h2).2
      simp at h1
      omega
theorem P3.nil (w : World) : P3 w (.slice none 0 0) (.slice none 0 0) (.slice none 0 0) [] [] [] w := ⟨PL.nil w, PL.nil w, PL.nil w, fun k h => by simp [Value.ownBlock] at h, fun k h => by simp [Value.ownBlock] at h, fun k h => by simp [Value.ownBlock] at h⟩
theorem P3.base {w0 : World} (h : P3 w u v t x y z wr) (hb : Below w0.heap.size w0 w) : P3 w0 u v t x y z wr := ⟨h.a.base hb, h.b.base hb, h.c.base hb, h.ab, h.ac, h.bc⟩
end

/-- Four lists that are seen. -/
structure Q4 (w : World) (A1 : Option Addr) (n1 c1 : Nat) (l1 : List Pr) (A2 : Option Addr) (n2 c2 : Nat) (l2 : List Pr) (A3 : Option Addr) (n3 c3 : Nat) (l3 : List Pr) (A4 : Option Addr) (n4 c4 : Nat) (l4 : List Pr) : Prop where
  a : LS w A1 n1 c1 l1
  b : LS w A2 n2 c2 l2
  c : LS w A3 n3 c3 l3
  d : LS w A4 n4 c4 l4
theorem Q4.below {w w' : World} {A1 : Option Addr} {n1 c1 : Nat} {l1 : List Pr} {A2 : Option Addr} {n2 c2 : Nat} {l2 : List Pr} {A3 : Option Addr} {n3 c3 : Nat} {l3 : List Pr} {A4 : Option Addr} {n4 c4 : Nat} {l4 : List Pr} (h : Q4 w A1 n1 c1 l1 A2 n2 c2 l2 A3 n3 c3 l3 A4 n4 c4 l4) (hb : Below w.heap.size w w') : Q4 w' A1 n1 c1 l1 A2 n2 c2 l2 A3 n3 c3 l3 A4 n4 c4 l4 :=
  ⟨h.a.below hb, h.b.below hb, h.c.below hb, h.d.below hb⟩

def fV (v : Int) (p : Pr) : Bool := !(p.1 == v)
def fL (l : Int) (p : Pr) : Bool := !(p.2 == l)

theorem filt_step (f : Pr → Bool) {l : List Pr} {k : Nat} (hk : k < l.length) : (l.take (k + 1)).filter f = (l.take k).filter f ++ if f l[k] then [l[k]] else [] := by
  rw [List.take_succ_eq_append_getElem hk, List.filter_append]
  cases h : f l[k] <;> simp [h]
theorem filt_step2 (f g : Pr → Bool) {l : List Pr} {k : Nat} (hk : k < l.length) : ((l.take (k + 1)).filter f).filter g = ((l.take k).filter f).filter g ++ if f l[k] && g l[k] then [l[k]] else [] := by
  rw [filt_step f hk, List.filter_append]
  cases h : f l[k] <;> cases h2 : g l[k] <;> simp [h2]
theorem filt_len (f : Pr → Bool) (l : List Pr) (k : Nat) (h : l.length ≤ 60) : ((l.take k).filter f).length ≤ 60 := Nat.le_trans (List.length_filter_le _ _) (by simp; omega)
theorem filt_len2 (f g : Pr → Bool) (l : List Pr) (k : Nat) (h : l.length ≤ 60) : (((l.take k).filter f).filter g).length ≤ 60 := Nat.le_trans (List.length_filter_le _ _) (filt_len f l k h)
theorem filt_comm (f g : Pr → Bool) (l : List Pr) : (l.filter f).filter g = (l.filter g).filter f := by
  rw [List.filter_filter, List.filter_filter]
  congr 1
  funext p
  exact Bool.and_comm _ _

set_option maxRecDepth 100000 in
set_option maxHeartbeats 16000000 in
theorem PairsetDrops_walk (a0 : Option Addr) (len0 cap0 : Nat) (a1 a2 : Int) (w : World) (w0 : IsPrs w a0 len0 cap0) (w1 : (Lit.int .i64 a1).wf = true) (w2 : (Lit.int .i64 a2).wf = true) :
    Calls Try.prog 6 #[.slice a0 len0 cap0, .int .i64 a1, .int .i64 a2] w fun e w' => e = .returned (.bool true) ∧ Below w.heap.size w w' := by
  obtain ⟨l, rfl, hwf, hs, hlc, hcm⟩ := w0
  obtain ⟨i0, hi0, hz0, hz1, hz2⟩ := info_pr
  have AW := Lib.hid fun W => awake_any W
  clear w1 w2 hwf
  by_cases h60 : 60 < l.length
  · have hz : (60 : Int) < (l.length : Int) := by omega
    clear hs hlc hcm
    go_enter Try.func6, Try.ntmps6
    go_wp2_with fail
    refine (AW.out _).mono ?_
    rintro e W1 ⟨rfl, hb⟩
    have HB := Lib.hid hb
    clear hb
    go_wp2_with fail
    refine (AW.out _).mono ?_
    rintro e W2 ⟨rfl, hb⟩
    have HB2 := Lib.hid (HB.out.trans (hb.mono HB.out.size))
    clear hb
    go_wp2
    go_ret
    exact ⟨rfl, HB2.out⟩
  · have hz : ¬ (60 : Int) < (l.length : Int) := by omega
    have hl60 : l.length ≤ 60 := by omega
    have HL0 := Lib.hid (LS.in rfl hs hlc hcm (by omega))
    clear hs hlc hcm
    go_enter Try.func6, Try.ntmps6
    go_wp2_with fail
    refine (AW.out _).mono ?_
    rintro e W1 ⟨rfl, hb⟩
    have HB := Lib.hid hb
    have HL := Lib.hid (HL0.out.below hb)
    clear hb HL0
    go_wp2
    go_loopg [7, 8, 9, 10] l.length (fun g v7 v8 v9 v10 wr => ∃ k : Nat, k + g = l.length ∧ v10 = .int .i64 k ∧ Hid (P3 W1 v7 v8 v9 ((l.take k).filter (fV a1)) ((l.take k).filter (fL a2)) (((l.take k).filter (fV a1)).filter (fL a2)) wr))
    case atStart => exact ⟨0, by omega, by go_num, P3.nil W1⟩
    case round =>
      obtain ⟨k, hg, rfl, HP⟩ := hrel
      by_cases hlt : k < l.length
      · have S1 := Lib.hid (filt_step (fV a1) hlt)
        have S2 := Lib.hid (filt_step (fL a2) hlt)
        have S3 := Lib.hid (filt_step2 (fV a1) (fL a2) hlt)
        have n1 := filt_len (fV a1) l k hl60
        have n2 := filt_len (fL a2) l k hl60
        have n3 := filt_len2 (fV a1) (fL a2) l k hl60
        generalize ((l.take k).filter (fV a1)).filter (fL a2) = z at *
        generalize (l.take k).filter (fV a1) = x at *
        generalize (l.take k).filter (fL a2) = y at *
        obtain ⟨b, o', rfl, hb, hc0, hc1⟩ := sees_pair HL.out.see hlt
        have hkz : (k : Int) < (l.length : Int) := by omega
        generalize l[k] = p at *
        obtain ⟨x1, x2⟩ := p
        dsimp only at hc0 hc1
        have CF : Hid (∀ W, Below W1.heap.size W1 W → W.cell? ⟨b, o' + k * 2, none⟩ = some (.int .i64 x1) ∧ W.cell? ⟨b, o' + k * 2 + 1, none⟩ = some (.int .i64 x2)) := fun W h =>
          ⟨(h.cell (p := ⟨b, _, none⟩) hb).trans hc0, (h.cell (p := ⟨b, _, none⟩) hb).trans hc1⟩
        obtain ⟨c0, c1⟩ := CF.out _ HP.out.a.blw
        clear hc0 hc1
        by_cases hv : x1 = a1
        · have e1 : (x1 != a1) = false := by simp [hv]
          have F1 : Hid (fV a1 (x1, x2) = false) := by show _ = _; simp [fV, hv]
          clear hv
          by_cases hw : x2 = a2
          · have e2 : (x2 != a2) = false := by simp [hw]
            have F2 : Hid (fL a2 (x1, x2) = false) := by show _ = _; simp [fL, hw]
            clear hw
            go_wp2
            go_roundg (l.length - (k + 1))
            case measure => omega
            case rel =>
              refine ⟨k + 1, by omega, by go_num, ?_⟩
              show P3 _ _ _ _ _ _ _ _
              rw [S3.out, S1.out, S2.out, F1.out, F2.out]
              simpa using HP.out
          · have e2 : (x2 != a2) = true := by simp [hw]
            have F2 : Hid (fL a2 (x1, x2) = true) := by show _ = _; simp [fL, hw]
            clear hw
            go_upto_region 10 with fail
            have HQ := Lib.hid HP.out.rot
            have hown := (HQ.out.a.alloc (prObj x1 x2)).own
            have hnew := new_sees wr x1 x2
            go_wp2_with (at_builtin; refine wpList_append_any _ rfl (.tmp 47) (.tmp 52) 22 rfl _ 25 i0 (.agg #[.int .i64 0, .int .i64 0]) 2 16 Try.underlying22 hi0 hz0 hz1 hz2 rfl (by decide) _ _ _ rfl hown (wr.heap.size + 1) _ 1 1 _ rfl hnew rfl (prs_one _) ?c1 ?c2 ?c3 ?_)
            case c1 => have := n2; unfold maxLen; omega
            case c2 => have := n2; omega
            case c3 => have := HQ.out.a.blw.size; simp; omega
            intro v2 W2 ho2 hg2 hb2
            have HQ2 := Lib.hid (HQ.out.push x1 x2 (by first | rfl | simp) ho2 hg2 hb2)
            clear ho2 hg2 hb2 hown hnew
            obtain ⟨c0, c1⟩ := CF.out _ HQ2.out.a.blw
            go_wp2
            go_roundg (l.length - (k + 1))
            case measure => omega
            case rel =>
              refine ⟨k + 1, by omega, by go_num, ?_⟩
              show P3 _ _ _ _ _ _ _ _
              rw [S3.out, S1.out, S2.out, F1.out, F2.out]
              simpa using HQ2.out.rot.rot
        · have e1 : (x1 != a1) = true := by simp [hv]
          have F1 : Hid (fV a1 (x1, x2) = true) := by show _ = _; simp [fV, hv]
          clear hv
          by_cases hw : x2 = a2
          · have e2 : (x2 != a2) = false := by simp [hw]
            have F2 : Hid (fL a2 (x1, x2) = false) := by show _ = _; simp [fL, hw]
            clear hw
            go_upto_region 8 with fail
            have hown := (HP.out.a.alloc (prObj x1 x2)).own
            have hnew := new_sees wr x1 x2
            go_wp2_with (at_builtin; refine wpList_append_any _ rfl (.tmp 33) (.tmp 38) 22 rfl _ 25 i0 (.agg #[.int .i64 0, .int .i64 0]) 2 16 Try.underlying22 hi0 hz0 hz1 hz2 rfl (by decide) _ _ _ rfl hown (wr.heap.size + 1) _ 1 1 _ rfl hnew rfl (prs_one _) ?c1 ?c2 ?c3 ?_)
            case c1 => have := n1; unfold maxLen; omega
            case c2 => have := n1; omega
            case c3 => have := HP.out.a.blw.size; simp; omega
            intro v2 W2 ho2 hg2 hb2
            have HQ2 := Lib.hid (HP.out.push x1 x2 (by first | rfl | simp) ho2 hg2 hb2)
            clear ho2 hg2 hb2 hown hnew
            obtain ⟨c0, c1⟩ := CF.out _ HQ2.out.a.blw
            go_wp2
            go_roundg (l.length - (k + 1))
            case measure => omega
            case rel =>
              refine ⟨k + 1, by omega, by go_num, ?_⟩
              show P3 _ _ _ _ _ _ _ _
              rw [S3.out, S1.out, S2.out, F1.out, F2.out]
              simpa using HQ2.out
          · have e2 : (x2 != a2) = true := by simp [hw]
            have F2 : Hid (fL a2 (x1, x2) = true) := by show _ = _; simp [fL, hw]
            clear hw
            go_upto_region 8 with fail
            have hown := (HP.out.a.alloc (prObj x1 x2)).own
            have hnew := new_sees wr x1 x2
            go_wp2_with (at_builtin; refine wpList_append_any _ rfl (.tmp 33) (.tmp 38) 22 rfl _ 25 i0 (.agg #[.int .i64 0, .int .i64 0]) 2 16 Try.underlying22 hi0 hz0 hz1 hz2 rfl (by decide) _ _ _ rfl hown (wr.heap.size + 1) _ 1 1 _ rfl hnew rfl (prs_one _) ?c1 ?c2 ?c3 ?_)
            case c1 => have := n1; unfold maxLen; omega
            case c2 => have := n1; omega
            case c3 => have := HP.out.a.blw.size; simp; omega
            intro v2 W2 ho2 hg2 hb2
            have HQ2 := Lib.hid (HP.out.push x1 x2 (by first | rfl | simp) ho2 hg2 hb2)
            clear ho2 hg2 hb2 hown hnew
            clear c0 c1
            obtain ⟨c0, c1⟩ := CF.out _ HQ2.out.a.blw
            go_upto_region 10 with fail
            have HQ3 := Lib.hid HQ2.out.rot
            have hown := (HQ3.out.a.alloc (prObj x1 x2)).own
            have hnew := new_sees W2 x1 x2
            go_wp2_with (at_builtin; refine wpList_append_any _ rfl (.tmp 47) (.tmp 52) 22 rfl _ 25 i0 (.agg #[.int .i64 0, .int .i64 0]) 2 16 Try.underlying22 hi0 hz0 hz1 hz2 rfl (by decide) _ _ _ rfl hown (W2.heap.size + 1) _ 1 1 _ rfl hnew rfl (prs_one _) ?c1 ?c2 ?c3 ?_)
            case c1 => have := n2; unfold maxLen; omega
            case c2 => have := n2; omega
            case c3 => have := HQ3.out.a.blw.size; simp; omega
            intro v3 W3 ho2 hg2 hb2
            have HQ4 := Lib.hid (HQ3.out.push x1 x2 (by first | rfl | simp) ho2 hg2 hb2)
            clear ho2 hg2 hb2 hown hnew
            clear c0 c1
            obtain ⟨c0, c1⟩ := CF.out _ HQ4.out.a.blw
            go_upto_region 12 with fail
            have HQ5 := Lib.hid HQ4.out.rot
            have hown := (HQ5.out.a.alloc (prObj x1 x2)).own
            have hnew := new_sees W3 x1 x2
            go_wp2_with (at_builtin; refine wpList_append_any _ rfl (.tmp 70) (.tmp 75) 22 rfl _ 25 i0 (.agg #[.int .i64 0, .int .i64 0]) 2 16 Try.underlying22 hi0 hz0 hz1 hz2 rfl (by decide) _ _ _ rfl hown (W3.heap.size + 1) _ 1 1 _ rfl hnew rfl (prs_one _) ?c1 ?c2 ?c3 ?_)
            case c1 => have := n3; unfold maxLen; omega
            case c2 => have := n3; omega
            case c3 => have := HQ5.out.a.blw.size; simp; omega
            intro v4 W4 ho2 hg2 hb2
            have HQ6 := Lib.hid (HQ5.out.push x1 x2 (by first | rfl | simp) ho2 hg2 hb2)
            clear ho2 hg2 hb2 hown hnew
            go_wp2
            go_roundg (l.length - (k + 1))
            case measure => omega
            case rel =>
              refine ⟨k + 1, by omega, by go_num, ?_⟩
              show P3 _ _ _ _ _ _ _ _
              rw [S3.out, S1.out, S2.out, F1.out, F2.out]
              simpa using HQ6.out.rot
      · have hk2 : l.take k = l := List.take_of_length_le (by omega)
        rw [hk2] at HP
        have hkz : ¬ (k : Int) < (l.length : Int) := by omega
        obtain ⟨A7, c7, rfl, h71, h72⟩ := HP.out.a.slice
        obtain ⟨A8, c8, rfl, h81, h82⟩ := HP.out.b.slice
        obtain ⟨A9, c9, rfl, h91, h92⟩ := HP.out.c.slice
        have n1 := filt_len (fV a1) l l.length hl60
        have n2 := filt_len (fL a2) l l.length hl60
        have n3 := filt_len2 (fV a1) (fL a2) l l.length hl60
        rw [List.take_length] at n1 n2 n3
        have HQ : Hid (Q4 wr a0 l.length cap0 l A7 (l.filter (fV a1)).length c7 (l.filter (fV a1)) A8 (l.filter (fL a2)).length c8 (l.filter (fL a2)) A9 ((l.filter (fV a1)).filter (fL a2)).length c9 ((l.filter (fV a1)).filter (fL a2))) :=
          ⟨HL.out.below HP.out.a.blw, HP.out.a.ls (by omega), HP.out.b.ls (by omega), HP.out.c.ls (by omega)⟩
        have HBW := Lib.hid (HB.out.trans (HP.out.a.blw.mono HB.out.size))
        clear h71 h72 h81 h82 h91 h92 HP HL hk2
        generalize (l.filter (fV a1)).length = m7 at *
        generalize (l.filter (fL a2)).length = m8 at *
        generalize ((l.filter (fV a1)).filter (fL a2)).length = m9 at *
        -- DropV(a, v) and x
        have C := Lib.hid (dropV_ls a1 HQ.out.a)
        go_wp2_with fail
        refine C.out.mono ?_
        rintro e W2 ⟨A, n, c, rfl, hP, hL⟩
        have HQt := Lib.hid (HQ.out.below hP.blw)
        have HBt := Lib.hid (HBW.out.trans (hP.blw.mono HBW.out.size))
        have D := Lib.hid (same_ls hL HQt.out.b)
        rw [show decide ((l.filter fun p => !(p.1 == a1)) = (l.filter (fV a1))) = true from decide_eq_true rfl] at D
        clear hP hL HQ HBW C
        go_wp2_with fail
        refine D.out.mono ?_
        rintro e W3 ⟨rfl, hb⟩
        have HQ2 := Lib.hid (HQt.out.below hb.below)
        have HBW2 := Lib.hid (HBt.out.trans (hb.below.mono HBt.out.size))
        clear hb D HQt HBt
        -- DropL(a, l) and y
        have C := Lib.hid (dropL_ls a2 HQ2.out.a)
        go_wp2_with fail
        refine C.out.mono ?_
        rintro e W4 ⟨A, n, c, rfl, hP, hL⟩
        have HQt := Lib.hid (HQ2.out.below hP.blw)
        have HBt := Lib.hid (HBW2.out.trans (hP.blw.mono HBW2.out.size))
        have D := Lib.hid (same_ls hL HQt.out.c)
        rw [show decide ((l.filter fun p => !(p.2 == a2)) = (l.filter (fL a2))) = true from decide_eq_true rfl] at D
        clear hP hL HQ2 HBW2 C
        go_wp2_with fail
        refine D.out.mono ?_
        rintro e W5 ⟨rfl, hb⟩
        have HQ3 := Lib.hid (HQt.out.below hb.below)
        have HBW3 := Lib.hid (HBt.out.trans (hb.below.mono HBt.out.size))
        clear hb D HQt HBt
        -- both
        have C := Lib.hid (dropV_ls a1 HQ3.out.a)
        go_wp2_with fail
        refine C.out.mono ?_
        rintro e W6 ⟨A, n, c, rfl, hP, hL⟩
        have HQ4 := Lib.hid (HQ3.out.below hP.blw)
        have HBW4 := Lib.hid (HBW3.out.trans (hP.blw.mono HBW3.out.size))
        clear hP HQ3 HBW3 C
        have C := Lib.hid (dropL_ls a2 hL)
        clear hL
        go_wp2_with fail
        refine C.out.mono ?_
        rintro e W7 ⟨A, n, c, rfl, hP, hL⟩
        have HQt := Lib.hid (HQ4.out.below hP.blw)
        have HBt := Lib.hid (HBW4.out.trans (hP.blw.mono HBW4.out.size))
        have D := Lib.hid (same_ls hL HQt.out.d)
        rw [show decide (((l.filter fun p => !(p.1 == a1)).filter fun p => !(p.2 == a2)) = ((l.filter (fV a1)).filter (fL a2))) = true from decide_eq_true rfl] at D
        clear hP hL HQ4 HBW4 C
        go_wp2_with fail
        refine D.out.mono ?_
        rintro e W8 ⟨rfl, hb⟩
        have HQ5 := Lib.hid (HQt.out.below hb.below)
        have HBW5 := Lib.hid (HBt.out.trans (hb.below.mono HBt.out.size))
        clear hb D HQt HBt
        have C := Lib.hid (dropL_ls a2 HQ5.out.a)
        go_wp2_with fail
        refine C.out.mono ?_
        rintro e W9 ⟨A, n, c, rfl, hP, hL⟩
        have HQ6 := Lib.hid (HQ5.out.below hP.blw)
        have HBW6 := Lib.hid (HBW5.out.trans (hP.blw.mono HBW5.out.size))
        clear hP HQ5 HBW5 C
        have C := Lib.hid (dropV_ls a1 hL)
        clear hL
        go_wp2_with fail
        refine C.out.mono ?_
        rintro e W10 ⟨A, n, c, rfl, hP, hL⟩
        have HQt := Lib.hid (HQ6.out.below hP.blw)
        have HBt := Lib.hid (HBW6.out.trans (hP.blw.mono HBW6.out.size))
        have D := Lib.hid (same_ls hL HQt.out.d)
        rw [show decide (((l.filter fun p => !(p.2 == a2)).filter fun p => !(p.1 == a1)) = ((l.filter (fV a1)).filter (fL a2))) = true from decide_eq_true (filt_comm (fL a2) (fV a1) l)] at D
        clear hP hL HQ6 HBW6 C
        go_wp2_with fail
        refine D.out.mono ?_
        rintro e W11 ⟨rfl, hb⟩
        have HQ7 := Lib.hid (HQt.out.below hb.below)
        have HBW7 := Lib.hid (HBt.out.trans (hb.below.mono HBt.out.size))
        clear hb D HQt HBt
        go_wp2
        go_ret
        exact ⟨rfl, HBW7.out⟩

end Go.Proofs.Ytgnlglmhcojaiaa
