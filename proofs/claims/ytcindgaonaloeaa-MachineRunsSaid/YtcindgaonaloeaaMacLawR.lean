/-
  The walk of the statement on runs of moves.
-/
import Derived.Test.YtcindgaonaloeaaMacAwake
import Derived.Test.YtcindgaonaloeaaMacOwn
import Derived.Deep.Cut
namespace Go.Proofs.Ytcindgaonaloeaa
open Go.RowKit
set_option linter.unusedVariables false

def kC (i : Nat) : Mi := ⟨1, 0, 0, 0, i, 0, 0⟩
def kM : Mi := ⟨18, 0, 0, 0, 0, 2, 0⟩
def kE : Mi := ⟨17, 0, 0, 0, 0, 0, 0⟩
def cs (a k c : Nat) : List Mi := (List.range a).map kC ++ (List.replicate k kM ++ List.replicate c kE)
theorem cs_length (a k c : Nat) : (cs a k c).length = a + k + c := by simp [cs, Nat.add_assoc]
theorem kC_e (i : Nat) : eM (kC i) 2 0 = 0 := by kernel_rfl
theorem fits0 : Fits 0 := by constructor <;> decide
theorem kC_ok (i : Nat) : (kC i).Ok := ⟨fits0, fits0⟩
theorem cs_each {p : Mi → Prop} (h1 : ∀ i, p (kC i)) (h2 : p kM) (h3 : p kE) (a k c : Nat) : ∀ x ∈ cs a k c, p x := fun x hx => by
  rcases List.mem_append.1 hx with hx | hx
  · obtain ⟨i, _, rfl⟩ := List.mem_map.1 hx
    exact h1 i
  · rcases List.mem_append.1 hx with hx | hx
    · rw [(List.mem_replicate.1 hx).2]; exact h2
    · rw [(List.mem_replicate.1 hx).2]; exact h3
theorem cs_ok (a k c : Nat) : ∀ x ∈ cs a k c, x.Ok := cs_each kC_ok (by constructor <;> constructor <;> decide) (by constructor <;> constructor <;> decide) a k c
theorem cs_e (a k c : Nat) : ∀ x ∈ cs a k c, eM x 2 0 = 0 := cs_each kC_e (by decide) (by decide) a k c
theorem cs_mvs (a k c : Nat) : mvs (cs a k c) = k := by
  rw [cs, mvs_skip]
  · exact mvs_rep kM rfl _ (fun x hx => by rw [(List.mem_replicate.1 hx).2]; rfl) k
  · intro x hx
    obtain ⟨i, _, rfl⟩ := List.mem_map.1 hx
    rfl
theorem cs_stepC (a : Nat) : cs (a + 1) 0 0 = cs a 0 0 ++ [kC a] := by simp [cs, List.range_succ]
theorem cs_stepM (a k : Nat) : cs a (k + 1) 0 = cs a k 0 ++ [kM] := by simp [cs, List.replicate_succ']
theorem cs_stepE (a k c : Nat) : cs a k (c + 1) = cs a k c ++ [kE] := by simp [cs, List.replicate_succ']
theorem cs_F (a k c : Nat) (h : a + k + c ≤ 1000) : eMF 0 2 0 [⟨cs a k c, ⟨3, 1, 0, 0⟩⟩] = if k ≤ 64 then 0 else 15 := by
  have h0 : eMSz 0 2 0 [⟨cs a k c, ⟨3, 1, 0, 0⟩⟩] = 0 := by
    unfold eMSz
    rw [if_neg (by omega), if_neg (by omega), if_neg (by omega), if_neg (by simp), if_neg]
    rw [mcodeN_cons, mcodeN_nil, cs_length]
    simp
    omega
  have h1 : eCd 2 0 0 (cs a k c) = if k ≤ 64 then 0 else 15 := by rw [eCd_runs 2 0 _ (cs_e a k c), cs_mvs]
  rw [eMF, if_pos h0]
  show (if eMB _ 2 0 _ = 0 then (0 : Int) else eMB _ 2 0 _) = _
  rw [eMB, h1]
  by_cases hk : k ≤ 64
  · rw [if_pos hk, if_pos rfl]; rfl
  · rw [if_neg hk]; rfl

/-- What the loops carry: the code so far, the call's own. -/
structure RC (w : World) (xs : List Mi) (v : Value) (W : World) : Prop where
  below : Below w.heap.size w W
  own : W.ownsRow w.heap.size 27 7 v xs.length (flatM xs)
theorem RC.snoc {w W W2 : World} {xs : List Mi} {v v2 : Value} {x : Mi} {n : Nat} (h : RC w xs v W) (hn : xs.length = n) (ho : W2.ownsRow w.heap.size 27 7 v2 (n + 1) (flatM xs ++ x.cells)) (hg : (W.alloc (.cells x.cells.toArray 27)).grownBy W2 v.ownBlock) : RC w (xs ++ [x]) v2 W2 := by
  subst hn
  refine ⟨(h.below.alloc h.below.size _).grown hg (by have := h.below.size; simp; omega) (fun k hk => (ownS_lt h.own k hk).1), ?_⟩
  rw [flatM_append, flatM_one, List.length_append, List.length_singleton]
  exact ho

theorem runblk {W : World} {z n c : Nat} {A : Option Addr} {xs : List Mi} (hr : Row W z 35 #[.slice A n c, .int .i64 3, .int .i64 1, .int .i64 0, .int .i64 0]) (hl : xs.length = n) (h1 : n ≤ c) (h2 : c ≤ maxLen) (hc : MisAt W (z + 1) A xs) : MBlksAt W (z + 1) (some ⟨z, 0, none⟩) [⟨xs, ⟨3, 1, 0, 0⟩⟩] := fun _ => by
  subst hl
  refine ⟨z, 0, rfl, Nat.lt_succ_self _, fun i x hx => ?_⟩
  have hi : i = 0 := by
    have := (List.getElem?_eq_some_iff.1 hx).1
    simpa using this
  subst hi
  simp only [List.getElem?_cons_zero, Option.some.injEq] at hx
  subst hx
  exact ⟨⟨A, c, hr.cell 0, h1, h2, hc⟩, hr.cell 1, hr.cell 2, hr.cell 3, hr.cell 4⟩

set_option maxRecDepth 100000 in
set_option maxHeartbeats 4000000 in
theorem MachineRuns_walk (a0 a1 a2 : Int) (w : World) (w0 : (Lit.int .u8 a0).wf = true) (w1 : (Lit.int .u8 a1).wf = true) (w2 : (Lit.int .u8 a2).wf = true) :
    Calls Try.prog 6 #[.int .u8 a0, .int .u8 a1, .int .u8 a2] w fun e w' => e = .returned (.bool true) ∧ Below w.heap.size w w' := by
  obtain ⟨l0, u0⟩ := u8_of_wf w0
  obtain ⟨l1, u1⟩ := u8_of_wf w1
  obtain ⟨l2, u2⟩ := u8_of_wf w2
  clear w0 w1 w2
  obtain ⟨na, hna⟩ : ∃ n : Nat, (n : Int) = a0 % 5 := ⟨(a0 % 5).toNat, by omega⟩
  obtain ⟨nk, hnk⟩ : ∃ n : Nat, (n : Int) = a1 % 70 := ⟨(a1 % 70).toNat, by omega⟩
  obtain ⟨nc, hnc⟩ : ∃ n : Nat, (n : Int) = a2 % 5 := ⟨(a2 % 5).toNat, by omega⟩
  have b0 : na ≤ 4 := by omega
  have b1 : nk ≤ 69 := by omega
  have b2 : nc ≤ 4 := by omega
  obtain ⟨i0, hi, hz0, hz1, hz2⟩ := info_parts (show (Try.prog.info? 27).map (fun i => (i.zero, i.size, i.bytes)) = some (some (.agg #[.int .i64 0, .int .i64 0, .int .i64 0, .int .i64 0, .int .i64 0, .int .i64 0, .int .i64 0]), 7, 56) from by kernel_rfl)
  go_enter Try.func6, Try.ntmps6
  go_wp2_with fail
  refine (awake_any _).mono ?_
  rintro e W1 ⟨rfl, hb⟩
  have H0 : Hid (RC w (cs 0 0 0) (.slice none 0 0) W1) := ⟨hb, ⟨rfl, .inl ⟨rfl, rfl⟩⟩⟩
  clear hb
  go_wp2
  go_loopw [7, 8] (fun v i wr => ∃ k : Nat, k ≤ na ∧ i = .int .i64 k ∧ Hid (RC w (cs k 0 0) v wr)) (fun _ i _ => na - (intOf i).toNat)
  case atStart => exact ⟨0, by omega, rfl, H0.out⟩
  case round =>
    obtain ⟨k, hk, rfl, HR⟩ := hrel
    clear H0
    by_cases hlt : k < na
    · have hlt' : (k : Int) < a0 % 5 := by omega
      have hl : (cs k 0 0).length ≤ 100 := by rw [cs_length]; omega
      have HO : Hid ((wr.alloc (.cells #[.int .i64 1, .int .i64 0, .int .i64 0, .int .i64 0, .int .i64 (k : Int), .int .i64 0, .int .i64 0] 27)).ownsRow w.heap.size 27 7 u7 (cs k 0 0).length (flatM (cs k 0 0))) := ((Mods.refl (fun _ => False) wr).alloc _).ownS HR.out.own (fun _ _ h => h)
      have hz := HR.out.below.size
      generalize hlen : (cs k 0 0).length = n at hl HO
      have HL := Lib.hid hlen
      clear hlen
      go_wp2_with (at_builtin; refine wpList_append_own _ rfl (.tmp 23) (.tmp 26) 31 rfl w.heap.size 27 i0 _ 7 56 Try.underlying31 hi hz0 hz1 hz2 rfl (by decide) _ _ _ rfl HO.out ⟨wr.heap.size, 0, none⟩ 1 1 (kC k).cells rfl rfl ?c0 ?c1 ?c2 ?c3 ?c4 ?_)
      case c0 => exact mach_new wr _ (kC k)
      case c1 => exact fun u hu => flatM_oneCell [kC k] u (by rw [flatM_one]; exact hu)
      case c2 => unfold maxLen; omega
      case c3 => omega
      case c4 => simp; omega
      intro v2 W2 ho2 hg2 _
      have HR2 : Hid (RC w (cs (k + 1) 0 0) v2 W2) := by rw [Hid, cs_stepC]; exact HR.out.snoc HL.out ho2 hg2
      clear ho2 hg2 HO HR HL
      go_wp2
      go_roundw
      case rel => exact ⟨k + 1, by omega, by go_num, HR2.out⟩
      case measure => simp [intOf]; omega
    · obtain rfl : na = k := by omega
      have hlt' : ¬ (na : Int) < a0 % 5 := by omega
      have H1 := HR
      clear HR
      go_wp2
      rw [← hnk]
      clear hnk
      go_loopw [7, 10] (fun v i wr => ∃ k : Nat, k ≤ nk ∧ i = .int .i64 k ∧ Hid (RC w (cs na k 0) v wr)) (fun _ i _ => nk - (intOf i).toNat)
      case atStart => exact ⟨0, by omega, rfl, H1.out⟩
      case round =>
        obtain ⟨k, hk, rfl, HR⟩ := hrel
        clear H1
        by_cases hlt : k < nk
        · have hlt' : (k : Int) < nk := by omega
          have hl : (cs na k 0).length ≤ 100 := by rw [cs_length]; omega
          have HO : Hid ((wr.alloc (.cells #[.int .i64 18, .int .i64 0, .int .i64 0, .int .i64 0, .int .i64 0, .int .i64 2, .int .i64 0] 27)).ownsRow w.heap.size 27 7 u7 (cs na k 0).length (flatM (cs na k 0))) := ((Mods.refl (fun _ => False) wr).alloc _).ownS HR.out.own (fun _ _ h => h)
          have hz := HR.out.below.size
          generalize hlen : (cs na k 0).length = n at hl HO
          have HL := Lib.hid hlen
          clear hlen
          go_wp2_with (at_builtin; refine wpList_append_own _ rfl (.tmp 36) (.tmp 38) 31 rfl w.heap.size 27 i0 _ 7 56 Try.underlying31 hi hz0 hz1 hz2 rfl (by decide) _ _ _ rfl HO.out ⟨wr.heap.size, 0, none⟩ 1 1 (kM).cells rfl rfl ?c0 ?c1 ?c2 ?c3 ?c4 ?_)
          case c0 => exact mach_new wr _ (kM)
          case c1 => exact fun u hu => flatM_oneCell [kM] u (by rw [flatM_one]; exact hu)
          case c2 => unfold maxLen; omega
          case c3 => omega
          case c4 => simp; omega
          intro v2 W2 ho2 hg2 _
          have HR2 : Hid (RC w (cs na (k + 1) 0) v2 W2) := by rw [Hid, cs_stepM]; exact HR.out.snoc HL.out ho2 hg2
          clear ho2 hg2 HO HR HL
          go_wp2
          go_roundw
          case rel => exact ⟨k + 1, by omega, by go_num, HR2.out⟩
          case measure => simp [intOf]; omega
        · obtain rfl : nk = k := by omega
          have hlt' : ¬ (nk : Int) < nk := by omega
          have H2 := HR
          clear HR
          go_wp2
          go_loopw [7, 11] (fun v i wr => ∃ k : Nat, k ≤ nc ∧ i = .int .i64 k ∧ Hid (RC w (cs na nk k) v wr)) (fun _ i _ => nc - (intOf i).toNat)
          case atStart => exact ⟨0, by omega, rfl, H2.out⟩
          case round =>
            obtain ⟨k, hk, rfl, HR⟩ := hrel
            clear H2
            by_cases hlt : k < nc
            · have hlt' : (k : Int) < a2 % 5 := by omega
              have hl : (cs na nk k).length ≤ 100 := by rw [cs_length]; omega
              have HO : Hid ((wr.alloc (.cells #[.int .i64 17, .int .i64 0, .int .i64 0, .int .i64 0, .int .i64 0, .int .i64 0, .int .i64 0] 27)).ownsRow w.heap.size 27 7 u7 (cs na nk k).length (flatM (cs na nk k))) := ((Mods.refl (fun _ => False) wr).alloc _).ownS HR.out.own (fun _ _ h => h)
              have hz := HR.out.below.size
              generalize hlen : (cs na nk k).length = n at hl HO
              have HL := Lib.hid hlen
              clear hlen
              go_wp2_with (at_builtin; refine wpList_append_own _ rfl (.tmp 47) (.tmp 49) 31 rfl w.heap.size 27 i0 _ 7 56 Try.underlying31 hi hz0 hz1 hz2 rfl (by decide) _ _ _ rfl HO.out ⟨wr.heap.size, 0, none⟩ 1 1 (kE).cells rfl rfl ?c0 ?c1 ?c2 ?c3 ?c4 ?_)
              case c0 => exact mach_new wr _ (kE)
              case c1 => exact fun u hu => flatM_oneCell [kE] u (by rw [flatM_one]; exact hu)
              case c2 => unfold maxLen; omega
              case c3 => omega
              case c4 => simp; omega
              intro v2 W2 ho2 hg2 _
              have HR2 : Hid (RC w (cs na nk (k + 1)) v2 W2) := by rw [Hid, cs_stepE]; exact HR.out.snoc HL.out ho2 hg2
              clear ho2 hg2 HO HR HL
              go_wp2
              go_roundw
              case rel => exact ⟨k + 1, by omega, by go_num, HR2.out⟩
              case measure => simp [intOf]; omega
            · obtain rfl : nc = k := by omega
              have hlt' : ¬ (nc : Int) < a2 % 5 := by omega
              obtain ⟨A, c, rfl, hc1, hc2⟩ := ownS_slice HR.out.own
              have HI := Lib.hid (MisAt.of_own HR.out.own (cs_ok na nk nc))
              have HB := Lib.hid HR.out.below
              have hz := HR.out.below.size
              have hln := cs_length na nk nc
              generalize hlen : (cs na nk nc).length = n at *
              have HL := Lib.hid hlen
              clear hlen HR hlt
              have HF := Lib.hid (cs_F na nk nc (by omega))
              have HM := Lib.hid (cs_mvs na nk nc)
              have hn1 : n ≤ 100 := by omega
              clear hln
              have hk69 : (nk : Int) ≤ 69 := by omega
              go_upto_region 18 with fail
              have HB4 := Lib.hid ((HB.out.alloc hz (.cells #[.slice A n c, .int .i64 3, .int .i64 1, .int .i64 0, .int .i64 0] 35)).alloc (by simp; omega) (.cells #[.int .i64 0, .int .i64 2, .int .i64 0, .slice (some ⟨wr.heap.size, 0, none⟩) 1 1] 24))
              have HI4 := Lib.hid ((HI.out.alloc (Nat.le_refl _) (.cells #[.slice A n c, .int .i64 3, .int .i64 1, .int .i64 0, .int .i64 0] 35)).alloc (by simp) (.cells #[.int .i64 0, .int .i64 2, .int .i64 0, .slice (some ⟨wr.heap.size, 0, none⟩) 1 1] 24))
              have HBL := Lib.hid (runblk ((Row.new wr 35 #[.slice A n c, .int .i64 3, .int .i64 1, .int .i64 0, .int .i64 0]).alloc (.cells #[.int .i64 0, .int .i64 2, .int .i64 0, .slice (some ⟨wr.heap.size, 0, none⟩) 1 1] 24)) HL.out hc1 hc2 (HI4.out.more (Nat.le_succ _)))
              by_cases h64 : nk ≤ 64
              · have HE : Hid (eMF 0 2 0 [⟨cs na nk nc, ⟨3, 1, 0, 0⟩⟩] = 0) := by rw [Hid, HF.out, if_pos (by omega)]
                go_wp2_with fail
                refine (mcheck_at (v := 0) 1 1 HBL.out (by simp) rfl (by decide) (by rw [mcodeN_cons, mcodeN_nil]; show (cs na nk nc).length + 0 ≤ _; rw [HL.out]; omega) HE.out).mono ?_
                rintro e W5 ⟨rfl, hb⟩
                have HB5 := Lib.hid (HB4.out.trans (hb.mono HB4.out.size))
                have HI5 := Lib.hid (HI4.out.below (hb.mono (by simp; omega)))
                have hz5 : wr.heap.size ≤ W5.heap.size := by have := hb.size; simp at this; omega
                clear hb
                go_wp2_with fail
                refine (moves_at c n nk HI5.out hz5 HL.out (by omega) HM.out).mono ?_
                rintro e W6 ⟨rfl, hb⟩
                have HB6 := Lib.hid (HB5.out.trans (hb.mono HB5.out.size))
                clear hb
                go_wp2
                go_ret
                exact ⟨rfl, HB6.out⟩
              · have HE : Hid (eMF 0 2 0 [⟨cs na nk nc, ⟨3, 1, 0, 0⟩⟩] = 15) := by rw [Hid, HF.out, if_neg (by omega)]
                go_wp2_with fail
                refine (mcheck_at (v := 15) 1 1 HBL.out (by simp) rfl (by decide) (by rw [mcodeN_cons, mcodeN_nil]; show (cs na nk nc).length + 0 ≤ _; rw [HL.out]; omega) HE.out).mono ?_
                rintro e W5 ⟨rfl, hb⟩
                have HB5 := Lib.hid (HB4.out.trans (hb.mono HB4.out.size))
                have HI5 := Lib.hid (HI4.out.below (hb.mono (by simp; omega)))
                have hz5 : wr.heap.size ≤ W5.heap.size := by have := hb.size; simp at this; omega
                clear hb
                go_wp2_with fail
                refine (moves_at c n nk HI5.out hz5 HL.out (by omega) HM.out).mono ?_
                rintro e W6 ⟨rfl, hb⟩
                have HB6 := Lib.hid (HB5.out.trans (hb.mono HB5.out.size))
                clear hb
                go_wp2
                go_ret
                exact ⟨rfl, HB6.out⟩

end Go.Proofs.Ytcindgaonaloeaa
