/-
  Out: the registers that are live at the exit of each block.
-/
import Derived.Test.YtncigbpeempnfaaLvIn
namespace Go.Proofs.Ytncigbpeempnfaa
open Go.RowKit
set_option linter.unusedVariables false

theorem own_ne_row {W : World} {base m s X : Nat} {T T' : TypeId} {v : Value} {xs : List Value} {cs : Array Value} (h : W.ownsRow base T s v m xs) (hr : Row W X T' cs) (hT : T ≠ T') : ¬ v.ownBlock = some X := fun e => by
  rcases h.2 with ⟨rfl, _⟩ | ⟨g, cap, cur, rfl, _, hh, _⟩
  · cases e
  · simp only [Value.ownBlock, Option.some.injEq] at e
    subst e
    unfold Row at hr
    rw [hr] at hh
    injection hh with hh
    injection hh with _ hh
    exact hT hh.symm

theorem NI.turnX {W0 W W' : World} {g n X : Nat} {xs : List (List Int)} {cs : Array Value} (h : NI W0 g n xs W) (hr : Row W X 61 cs) (hX : g ≤ X) (hm : Mods (Is X) W W') : NI W0 g n xs W' := by
  obtain ⟨vs, hv⟩ := h.nest
  refine ⟨⟨vs, hm.ownS hv.outer fun q hq e => own_ne_row hv.outer hr (by decide) (by rw [hq, e]), hv.len, fun i u x h1 h2 => hm.ownS (hv.inner i u x h1 h2) fun q hq e => own_ne_row (hv.inner i u x h1 h2) hr (by decide) (by rw [hq, e]), hv.dist⟩, h.blw.trans (hm.below (Nat.le_of_lt h.lt) fun k hk => by unfold Is at hk; omega), Nat.lt_of_lt_of_le h.lt hm.size⟩

/-- The set that is being filled: in the box X. -/
structure OV (W7 : World) (X N : Nat) (S : Int → Bool) (W : World) : Prop where
  mods : Mods (Is X) W7 W
  ex : ∃ mv : Option Nat, Row W X 61 #[.map mv] ∧ MS23 W (.map mv) N S ∧ ∀ q, mv = some q → W7.heap.size ≤ q

section
variable {W7 W W' : World} {X N : Nat} {S S' : Int → Bool}

theorem OV.congr (h : OV W7 X N S W) (hS : ∀ z, S' z = S z) : OV W7 X N S' W := by rw [show S' = S from funext hS]; exact h

theorem OV.next (h : OV W7 X N S W) (hb : Below W.heap.size W W') : OV W7 X N S W' := by
  obtain ⟨mv, h1, h2, h3⟩ := h.ex
  exact ⟨h.mods.trans (Mods.of_below hb), mv, h1.below hb h1.lt, h2.below hb, h3⟩

/-- The iterator has been stepped. -/
theorem OV.iter {r : Nat} {m : Option Nat} {s : Nat} {e : Array Nat} {c : Nat} (h : OV W7 X N S W) (hX : X < W7.heap.size) (hr : W7.heap.size ≤ r) (hi : W.heap[r]? = some (.mapIter m s e c)) (hm : Mods (Is r) W W') : OV W7 X N S W' := by
  obtain ⟨mv, h1, h2, h3⟩ := h.ex
  refine ⟨h.mods.then hm fun k hk => .inr (by unfold Is at hk; omega), mv, h1.mods hm (fun e => by unfold Is at e; omega), h2.mods hm fun q hq e => ?_, h3⟩
  unfold Is at e
  subst e
  rcases h2.val with ⟨e, _⟩ | ⟨b, e, D, ⟨es, clock, h4, _⟩, _⟩
  · rw [e] at hq; cases hq
  · rw [e] at hq; cases hq; rw [hi] at h4; cases h4

end

theorem oadd_any (W7 W : World) (X N : Nat) (S : Int → Bool) (v : Int) (h : OV W7 X N S W) (hX : X < W7.heap.size) (h0 : 0 ≤ v) (h1 : v < N) (hN : N ≤ 100000) :
    Calls Try.prog 40 #[.pointer (some ⟨X, 0, none⟩), .int .i64 v] W fun e w' => (∃ b, e = .returned (.bool b)) ∧ OV W7 X N (fun z => S z || decide (z = v)) w' ∧ W.heap.size ≤ w'.heap.size ∧
      ∀ p, p < W.heap.size → p ≠ X → (p < W7.heap.size ∨ ∃ m s e c, W.heap[p]? = some (.mapIter m s e c)) → w'.heap[p]? = W.heap[p]? := by
  obtain ⟨mv, hr, hms, hq⟩ := h.ex
  refine (add23_any X 0 _ _ (.map mv) N S v W hr rfl hms h0 h1 hN).mono ?_
  rintro e w' ⟨rfl, ha⟩
  obtain ⟨mv', h2, h3, h4⟩ := ha.ex
  obtain ⟨m', rfl⟩ := h2.shape
  have hws := h.mods.size
  refine ⟨⟨_, rfl⟩, ⟨?_, m', h3, h2, fun q e => ?_⟩, ha.mods.size, fun p hp hne hpp => ha.mods.block p hp fun hk => ?_⟩
  · refine h.mods.then ha.mods fun k hk => ?_
    rcases hk with rfl | hk
    · exact .inl rfl
    · exact .inr (hq k hk)
  · rcases h4 with h4 | ⟨p, h4, hp⟩
    · exact hq q (by have h4 : m' = mv := h4; rw [← h4]; exact e)
    · have h4 : m' = some p := h4
      rw [h4] at e; injection e with e; omega
  · rcases hk with hk | hk
    · exact hne hk
    · rcases hpp with hpp | ⟨m, s, e, c, hpp⟩
      · have := hq p hk; omega
      · rcases hms.val with ⟨e', _⟩ | ⟨b, e', D, ⟨es, clock, h5, _⟩, _⟩
        · rw [e'] at hk; cases hk
        · rw [e'] at hk; cases hk; rw [hpp] at h5; cases h5

theorem SR.iter {W : World} {b r n : Nat} {S L : Int → Bool} (h : SR W b r n S L) : ∃ m s e c, W.heap[r]? = some (.mapIter m s e c) := by
  obtain ⟨D, l, c, ⟨es, clock, since, seen, c0, h1, h2, h3, h4, h5, _⟩, _⟩ := h
  exact ⟨_, _, _, _, h5⟩

set_option maxRecDepth 100000 in
set_option maxHeartbeats 8000000 in
theorem pout_any (args regs : Int) (FA : Option Addr) (bs : List Blk) (bc N : Nat) (w : World) (hs : BlksAt w w.heap.size FA bs) (hF : FnOk N bs) :
    Calls Try.prog 19 #[.agg #[.int .i64 args, .int .i64 regs, .slice FA bs.length bc]] w (LLP w bs.length (outL bs N)) := by
  have hN := hF.hN
  have hm := hF.hm
  have hmk := fun w => run_make_row' (P := Try.prog) 39 28 (.slice none 0 0) 24 Try.underlying39 infoIl rfl .i64 .i64 bs.length (by omega) (by omega) w
  have HX := Row.new w 24 #[.int .i64 args, .int .i64 regs, .slice FA bs.length bc]
  have hb0 : Below w.heap.size w (w.alloc (.cells #[.int .i64 args, .int .i64 regs, .slice FA bs.length bc] 24)) := (Below.refl _ _).alloc (Nat.le_refl _) _
  have HSV := Lib.hid (psolve_any args regs FA bs bc N _ ((hs.below hb0).more hb0.size) hm hF.ne hN hF.code hF.succ hF.ok hF.use)
  have HTS := Lib.hid hF.succ
  have hs0 := (hs.below hb0).more hb0.size
  have HB0 := Lib.hid hb0
  clear hs hb0 hF
  go_enter Try.func19, Try.ntmps19
  go_upto_region 1 with fail
  generalize (w.alloc (.cells #[.int .i64 args, .int .i64 regs, .slice FA bs.length bc] 24)) = W0 at *
  obtain ⟨b1, hb1⟩ : ∃ z, w.heap.size = z := ⟨_, rfl⟩
  rw [hb1] at HX
  rw [hb1]
  have h1w : b1 < W0.heap.size := HX.lt
  have y0 := HX.k0; have y1 := HX.k1; have y2 := HX.k2
  have HB1 := Lib.hid hb1
  clear hb1
  go_upto_region 2 with (go_at_call 37; refine (HSV.out).mono ?_; rintro e V1 ⟨g, c, rfl, B, vs, hv⟩; have HV := Lib.hid hv; clear hv)
  have HB2 := Lib.hid (HB0.out.trans (HV.out.blw.mono HB0.out.size))
  have hX1 := HX.below HV.out.blw h1w
  have hs1 := (hs0.below HV.out.blw).more HV.out.blw.size
  have h1v : b1 < V1.heap.size := hX1.lt
  clear HSV y0 y1 y2 HX HB0 hs0
  have y0 := hX1.k0; have y1 := hX1.k1; have y2 := hX1.k2
  go_upto_region 3 with fail
  have HNI : Hid (NI V1 V1.heap.size bs.length (fL23 (fun _ => []) bs.length) (V1.alloc (.cells (madeCells #[.slice none 0 0] bs.length) 28))) := by
    refine ⟨⟨List.replicate bs.length (.slice none 0 0), ?_⟩, (Below.refl _ _).alloc (Nat.le_refl _) _, by simp⟩
    have := ii_made V1 (n := bs.length) (by unfold maxLen; omega)
    rw [fL_nil] at this
    exact this
  clear hmk y0 y1 y2
  generalize (V1.alloc (.cells (madeCells #[.slice none 0 0] bs.length) 28)) = W1 at *
  have HVN : Hid (∀ W, Below V1.heap.size V1 W → GV23 W0 (.slice (some ⟨g, 0, none⟩) bs.length c) bs.length N (fun i => bUse (blkAt bs i)) (fun i => bDef (blkAt bs i)) B (fun i z => lvB bs z i) vs W) := fun W h => HV.out.next h
  have HVL : Hid (∀ (i : Nat) (x : NdV) (q : Nat), vs[i]? = some x → x.l = some q → q < V1.heap.size) := fun i x q hx hq => (HV.out.sl i x hx).lt hq
  obtain ⟨gi, hgi⟩ : ∃ z, V1.heap.size = z := ⟨_, rfl⟩
  rw [hgi] at HNI HVN h1v hs1 HVL
  rw [hgi]
  have hgm : w.heap.size ≤ gi := by have := HB2.out.size; omega
  clear hgi HV
  obtain ⟨G, hG⟩ : ∃ G : Nat → Nat → List Int, G = fun i j => if j < i then outL bs N j else [] := ⟨_, rfl⟩
  have HG0 : Hid (fL23 (fun _ => []) bs.length = fL23 (G 0) bs.length) := by subst hG; exact fL_congr fun i hi => by simp
  have HGn : Hid (fL23 (G bs.length) bs.length = fL23 (outL bs N) bs.length) := by subst hG; exact fL_congr fun i hi => by simp [hi]
  have HGs : Hid (∀ i, i < bs.length → (fL23 (G i) bs.length)[i]? = some [] ∧ (fL23 (G i) bs.length).set i (outL bs N i) = fL23 (G (i + 1)) bs.length) := fun i hi => by
    subst hG
    refine ⟨by rw [fL_get _ hi]; simp, fL_set (by simp) fun j hj hne => ?_⟩
    by_cases h : j < i
    · simp [h, show j < i + 1 by omega]
    · simp [h, show ¬ j < i + 1 by omega]
  rw [HG0.out] at HNI
  clear hG HG0
  have hX2 := hX1.below HNI.out.blw h1v
  have y0 := hX2.k0; have y1 := hX2.k1; have y2 := hX2.k2
  go_upto_region 4 with fail
  clear y0 y1 y2 hX2
  go_loopg [19] bs.length (fun q s19 wr => ∃ k : Nat, k + q = bs.length ∧ s19 = .int .i64 (k : Int) ∧ Hid (NI V1 gi bs.length (fL23 (G k) bs.length) wr))
  case atStart => exact ⟨0, by omega, rfl, HNI.out⟩
  case round =>
    clear HNI
    obtain ⟨k, hk, rfl, HP⟩ := hrel
    cases gk with
    | zero =>
      obtain rfl : k = bs.length := by omega
      go_wp2_with fail
      go_ret
      exact ⟨gi, hgm, rfl, by rw [← HGn.out]; exact HP.out.nest, HB2.out.trans (HP.out.blw.mono hgm)⟩
    | succ g1 =>
      have hlt : k < bs.length := by omega
      obtain ⟨b', o, hA, hb, hx⟩ := (hs1.below HP.out.blw).at_ hlt
      have hbk : blkAt bs k = bs[k] := blkAt_lt hlt
      have htj := HTS.out bs[k] (List.getElem_mem hlt)
      have HLO : Hid (∀ z, lvO bs z k = (succs bs[k].term).any fun s => lvB bs z s.toNat) := fun z => by rw [lvO, hbk]
      clear hbk
      generalize bs[k] = x at *
      subst hA
      obtain ⟨A1, c1, f0, hc1, hc2, hin⟩ := hx.code
      have f1 := hx.t0; have f2 := hx.t1; have f3 := hx.t2; have f4 := hx.t3
      have HSC := Lib.hid (fun W => psucc_any x.term bs.length W htj)
      have HTJ := Lib.hid htj
      clear hx hin htj
      go_upto_region 6 with fail
      have HI := Row.new wr 34 #[.slice A1 x.code.length c1, .int .i64 x.term.kind, .int .i64 x.term.a, .int .i64 x.term.to, .int .i64 x.term.el]
      have hba : Below wr.heap.size wr (wr.alloc (.cells #[.slice A1 x.code.length c1, .int .i64 x.term.kind, .int .i64 x.term.a, .int .i64 x.term.to, .int .i64 x.term.el] 34)) := (Below.refl _ _).alloc (Nat.le_refl _) _
      have HP5 := Lib.hid (HP.out.next hba)
      clear HP f0 f1 f2 f3 f4 hba
      generalize (wr.alloc (.cells #[.slice A1 x.code.length c1, .int .i64 x.term.kind, .int .i64 x.term.a, .int .i64 x.term.to, .int .i64 x.term.el] 34)) = W5 at *
      obtain ⟨xb, hxb⟩ : ∃ z, wr.heap.size = z := ⟨_, rfl⟩
      rw [hxb] at HI ⊢
      clear hxb
      go_upto_region 7 with fail
      have HXR := Row.new W5 61 #[.map none]
      have hba : Below W5.heap.size W5 (W5.alloc (.cells #[.map none] 61)) := (Below.refl _ _).alloc (Nat.le_refl _) _
      have HP6 := Lib.hid (HP5.out.next hba)
      have HI6 := HI.below hba HI.lt
      have hgX : gi ≤ W5.heap.size := Nat.le_of_lt HP5.out.lt
      clear HP5 HI hba
      generalize (W5.alloc (.cells #[.map none] 61)) = W6 at *
      obtain ⟨X, hX⟩ : ∃ z, W5.heap.size = z := ⟨_, rfl⟩
      rw [hX] at HXR hgX ⊢
      clear hX
      have f0 := HI6.k0; have f1 := HI6.k1; have f2 := HI6.k2; have f3 := HI6.k3; have f4 := HI6.k4
      have HSC6 := Lib.hid (HSC.out W6)
      go_upto_region 8 with (go_at_call 39; refine (HSC6.out).mono ?_; rintro e w7 ⟨As, cs, rfl, hcs1, hcs2, hsee, hbd, hnew⟩; have HSE := Lib.hid hsee; have HBD := Lib.hid hbd; have HNW := Lib.hid hnew; clear hsee hbd hnew)
      have hXl : X < W6.heap.size := HXR.lt
      have hX7 : X < w7.heap.size := Nat.lt_of_lt_of_le hXl HBD.out.size
      have HP7 := Lib.hid (HP6.out.next HBD.out)
      have HOV : Hid (OV w7 X N (fun _ => false) w7) := ⟨Mods.refl _ _, none, HXR.below HBD.out hXl, MS23.nil _ _, fun q h => by cases h⟩
      have HGV : Hid (∀ W, Mods (Is X) w7 W → GV23 W0 (.slice (some ⟨g, 0, none⟩) bs.length c) bs.length N (fun i => bUse (blkAt bs i)) (fun i => bDef (blkAt bs i)) B (fun i z => lvB bs z i) vs W) := fun W h =>
        HVN.out W (HP7.out.blw.trans (h.below (Nat.le_of_lt HP7.out.lt) fun k hk => by unfold Is at hk; omega))
      have HSEE : Hid (∀ W, Mods (Is X) w7 W → Sees W W.heap.size As (ints (succs x.term))) := fun W h =>
        (h.sees HSE.out (Nat.le_refl _) fun b hb e => by unfold Is at e; have := HNW.out b hb; omega).more h.size
      have hv7 : gi ≤ w7.heap.size := Nat.le_of_lt HP7.out.lt
      have HX7 := Lib.hid (HXR.below HBD.out hXl)
      clear HSE HNW HBD HP6 HXR HI6 HSC6 HSC f0 f1 f2 f3 f4
      obtain ⟨hge, hgs⟩ := HGs.out k hlt
      have HGE := Lib.hid hge
      have HGS := Lib.hid hgs
      clear hge hgs
      generalize succs x.term = l at *
      have hll : l.length ≤ 9223372036854775807 := by unfold maxLen at hcs2; omega
      obtain ⟨SS, hSS⟩ : ∃ SS : Nat → Int → Bool, SS = fun m z => (l.take m).any fun s => lvB bs z s.toNat := ⟨_, rfl⟩
      have HSn : Hid (regL (SS l.length) N = outL bs N k) := regL_congr N fun z _ _ => by subst hSS; rw [HLO.out]; show (l.take l.length).any _ = _; rw [List.take_of_length_le (Nat.le_refl _)]
      have HS0 : Hid (∀ z, SS 0 z = false) := fun z => by subst hSS; rfl
      have HSs : Hid (∀ (m : Nat) (s : Int), l[m]? = some s → ∀ z, SS (m + 1) z = (SS m z || lvB bs z s.toNat)) := fun m s hm z => by
        subst hSS
        have hml : m < l.length := (List.getElem?_eq_some_iff.1 hm).1
        have e : l[m] = s := (List.getElem?_eq_some_iff.1 hm).2
        simp only [List.take_succ_eq_append_getElem hml, List.any_append, List.any_cons, List.any_nil, Bool.or_false, e]
      clear hSS
      go_upto_region 8 with fail
      go_loopg [30] l.length (fun q s30 wx => ∃ m : Nat, m + q = l.length ∧ s30 = .int .i64 (m : Int) ∧ Hid (OV w7 X N (SS m) wx))
      case atStart => exact ⟨0, by omega, rfl, HOV.out.congr HS0.out⟩
      case round =>
        clear HOV
        obtain ⟨m, hm', rfl, HO⟩ := hrel
        cases gk with
        | zero =>
          obtain rfl : m = l.length := by omega
          obtain ⟨mv, hr, hms, _⟩ := HO.out.ex
          have y0 := hr.k0
          have HSO := Lib.hid (sorted_any (.map mv) N _ _ hms hN)
          rw [HSn.out] at HSO
          have hil : (outL bs N k).length ≤ 100000 := Nat.le_trans (regL_len _ _) hN
          have HP8 := Lib.hid (HP7.out.turnX HX7.out hgX HO.out.mods)
          clear hr hms HP7 HSn
          generalize outL bs N k = lo at *
          go_wp2_with (go_at_call 36; refine (HSO.out).mono ?_; rintro e w8 ⟨A6, c6, rfl, h6⟩; have H6 := Lib.hid h6; clear h6; obtain ⟨⟨u, h11⟩, h12, h13⟩ := HP8.out.fill HGE.out H6.out; have H7 := Lib.hid h13; clear h13)
          go_roundg g1
          case measure => omega
          case rel => exact ⟨k + 1, by omega, by go_num, by rw [← HGS.out]; exact H7.out⟩
        | succ g2 =>
          have hml : m < l.length := by omega
          obtain ⟨p, o2, rfl, _, hcell⟩ := ints_at (HSEE.out wr HO.out.mods) hml
          have HLM := Lib.hid (HSs.out m l[m] (List.getElem?_eq_getElem hml))
          obtain ⟨hs1, hs2⟩ := HTJ.out l[m] (List.getElem_mem hml)
          generalize l[m] = s at *
          obtain ⟨sn, rfl⟩ := Int.eq_ofNat_of_zero_le hs1
          have hsn : sn < bs.length := by omega
          rw [Int.toNat_natCast] at HLM
          have hv := HGV.out wr HO.out.mods
          have hvl : sn < vs.length := by rw [hv.len]; exact hsn
          have hvx : vs[sn]? = some vs[sn] := List.getElem?_eq_getElem hvl
          have c4 := (hv.cell hvx).2.2.2
          have hsl := hv.sl sn _ hvx
          have HVB : Hid (∀ q, vs[sn].l = some q → q < gi) := fun q hq => HVL.out sn _ q hvx hq
          generalize vs[sn].l = yl at *
          clear hv hvl hvx hs1 hs2
          go_upto_region 10 with fail
          rcases hsl.val with ⟨e, hnil⟩ | ⟨b, e, hb⟩
          · cases e
            have HNIL := Lib.hid hnil
            clear hnil hsl
            go_wp2_with (at_range; refine wpList_nil_range _ rfl _ rfl rfl ?_)
            go_frame
            have hr := heap_alloc_new wr (.mapIter none 0 #[] 0)
            have HO9 := Lib.hid (HO.out.next ((Below.refl _ _).alloc (Nat.le_refl _) (.mapIter none 0 #[] 0)))
            generalize wr.alloc (.mapIter none 0 #[] 0) = W9 at *
            obtain ⟨r, hrr⟩ : ∃ r, wr.heap.size = r := ⟨_, rfl⟩
            rw [hrr] at hr ⊢
            clear HO hrr
            go_loopg [] 0 (fun q wx => wx = W9)
            case atStart => rfl
            case round =>
              subst hrel
              go_wp2_with (at_next; refine wpList_nil_next _ rfl _ rfl r rfl hr ?_)
              go_roundg g2
              case measure => omega
              case rel => exact ⟨m + 1, by omega, by go_num, HO9.out.congr fun z => by rw [HLM.out, HNIL.out]; simp⟩
          · cases e
            have hbg : b < gi := HVB.out b rfl
            have HSB := Lib.hid hsl.bnd
            clear hsl
            go_wp2_with (at_range; refine wpList_sv_range setK wr rfl _ rfl b N _ rfl hb ?_; intro W9 hr9 hm9 hs9)
            go_frame
            have hwr := HO.out.mods.size
            have HO9 := Lib.hid (HO.out.next (hm9.below (Nat.le_refl _) fun _ h => h.elim))
            have HR9 := Lib.hid hr9
            obtain ⟨r, hrr⟩ : ∃ r, wr.heap.size = r := ⟨_, rfl⟩
            rw [hrr] at HR9 hwr ⊢
            clear HO hrr hb hr9 hm9 hs9
            go_loopg [] (W9.rangeLeft b r) (fun q wx => ∃ (S' Lf : Int → Bool), Hid (OV w7 X N S' wx) ∧ Hid (SR wx b r N (fun z => lvB bs z sn) Lf) ∧ Hid (∀ z, S' z = (SS m z || (lvB bs z sn && !Lf z))) ∧ Hid (wx.rangeLeft b r ≤ q))
            case atStart => exact ⟨SS m, fun z => lvB bs z sn, HO9.out, HR9.out, fun z => by simp, Nat.le_refl _⟩
            case round =>
              clear HO9 HR9
              obtain ⟨S', Lf, HO, HR, HE, HM⟩ := hrel
              go_wp2_with (at_next; refine wpList_sv_next setK _ rfl _ rfl b r N _ Lf rfl HR.out ?_ ?_)
              · intro h0
                have HZ := Lib.hid h0
                clear h0
                go_wp2_with fail
                go_roundg g2
                case measure => omega
                case rel => exact ⟨m + 1, by omega, by go_num, HO.out.congr fun z => by rw [HLM.out, HE.out, HZ.out]; simp⟩
              · intro z0 W3 hwf hL hSz hr3 hlt3 hm3 hs3 hen
                obtain ⟨mi, si, ei, ci, hit⟩ := SR.iter HR.out
                have HO3 := Lib.hid (HO.out.iter hX7 hwr hit hm3)
                obtain ⟨hz0, hz1⟩ := HSB.out z0 hSz
                have HC := Lib.hid (oadd_any w7 W3 X N S' z0 HO3.out hX7 hz0 hz1 hN)
                have HR3 := Lib.hid hr3
                have HLT := Lib.hid hlt3
                have HLZ := Lib.hid hL
                have HSZ := Lib.hid hSz
                obtain ⟨g3, rfl⟩ : ∃ g3, gk = g3 + 1 := ⟨gk - 1, by have := HM.out; omega⟩
                clear hr3 hlt3 hm3 hs3 hit hL hSz hz0 hz1
                go_wp2_with (go_at_call 40; refine (HC.out).mono ?_; rintro e w4 ⟨⟨bz, rfl⟩, h4, h5, h6⟩; have H4 := Lib.hid h4; have H5 := Lib.hid h5; have H6 := Lib.hid h6; clear h4 h5 h6)
                obtain ⟨HR4, HL4⟩ := HR3.out.block (w' := w4) (H6.out b HR3.out.owns.lt (by omega) (.inl (by omega))) (H6.out r HR3.out.lt (by omega) (.inr (SR.iter HR3.out)))
                have HR5 := Lib.hid HR4
                have HM5 : Hid (w4.rangeLeft b r ≤ g3) := by
                  have := HM.out
                  have := HLT.out
                  show w4.rangeLeft b r ≤ g3
                  omega
                clear HR4 HL4
                go_roundg g3
                case measure => omega
                case rel =>
                  refine ⟨_, _, H4.out, HR5.out, fun z => ?_, HM5.out⟩
                  rw [HE.out]
                  by_cases e : z = z0
                  · subst e; rw [HSZ.out]; simp
                  · simp [e]

end Go.Proofs.Ytncigbpeempnfaa
