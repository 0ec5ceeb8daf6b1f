/-
  spread: the walk.
-/
import Derived.Test.YtncigbpeempnfaaLvSprD
import Derived.Deep.LoopGhost
namespace Go.Proofs.Ytncigbpeempnfaa
open Go.RowKit
set_option linter.unusedVariables false

def vcs (p : Nat × Nat) : List Value := [.int .i64 (p.1 : Int), .int .i64 (p.2 : Int)]

theorem vcs_len (p : Nat × Nat) : (vcs p).length = 2 := rfl

theorem infoVisit : (Try.prog.info? 94).map (fun i => (i.zero, i.size, i.bytes)) = some (some (.agg #[.int .i64 0, .int .i64 0]), 2, 16) := by kernel_rfl

/-- The graph, and the stack of blocks that are being processed. -/
structure SW (w W0 : World) (g n c N : Nat) (U D : Nat → Int → Bool) (B : Nat → List Int) (L : Nat → Int → Bool) (st : List (Nat × Nat)) (pv : Value) (W : World) : Prop where
  gr : ∃ vs, GV23 w (.slice (some ⟨g, 0, none⟩) n c) n N U D B L vs W
  rk : RowK g W0 W
  pa : W.ownsRow W0.heap.size 94 2 pv st.length (st.flatMap vcs)
  sz : W0.heap.size ≤ W.heap.size
  g0 : g < W0.heap.size

section
variable {w W0 W W' : World} {g n c N : Nat} {U D L L' : Nat → Int → Bool} {B : Nat → List Int} {st : List (Nat × Nat)} {pv pv' : Value}

theorem SW.gne (h : SW w W0 g n c N U D B L st pv W) : ¬ pv.ownBlock = some g := fun e => by
  have := (ownS_lt h.pa g e).1
  have := h.g0
  omega

theorem SW.next (h : SW w W0 g n c N U D B L st pv W) (hb : Below W.heap.size W W') : SW w W0 g n c N U D B L st pv W' :=
  ⟨h.gr.imp fun _ h => h.next hb, h.rk.trans (RowK.below hb), (Mods.of_below (S := No) hb).ownS h.pa fun _ _ hs => hs.elim, Nat.le_trans h.sz hb.size, h.g0⟩

/-- A step that turns the stack alone. -/
theorem SW.turn (h : SW w W0 g n c N U D B L st pv W) (hm : Mods (fun q => pv.ownBlock = some q) W W') {st' : List (Nat × Nat)} (ho : W'.ownsRow W0.heap.size 94 2 pv' st'.length (st'.flatMap vcs)) : SW w W0 g n c N U D B L st' pv' W' := by
  obtain ⟨vs, hv⟩ := h.gr
  have h0 : w.heap.size ≤ W0.heap.size := by
    obtain ⟨_, _, h1, _⟩ := hv.row
    have := h.g0; omega
  refine ⟨⟨vs, hv.turn h.pa (by decide) (by decide) (fun q hq => by have := (ownS_lt h.pa q hq).1; omega) hm⟩, fun p T cs hp hr => (h.rk p T cs hp hr).mods hm fun e => ?_, ho, Nat.le_trans h.sz hm.size, h.g0⟩
  have := (ownS_lt h.pa p e).1
  have := hr.lt
  omega

/-- Less of the stack. -/
theorem SW.cut {A : Option Addr} {m cc : Nat} {s : List (Nat × Nat)} {y : Nat × Nat} (h : SW w W0 g n c N U D B L (s ++ [y]) (.slice A m cc) W) : SW w W0 g n c N U D B L s (.slice A s.length cc) W := by
  refine { h with pa := ?_ }
  obtain ⟨h1, h2⟩ := h.pa
  refine ⟨flatS_len vcs_len s, ?_⟩
  rcases h2 with ⟨e, h3⟩ | ⟨g', cap, cur, e, hg, hh, h3, h4, h5, h6⟩
  · simp at h3
  · injection e with e1 e2 e3
    subst e1 e3
    rw [List.length_append, List.length_singleton] at h3 h6
    refine .inr ⟨g', cc, cur, rfl, hg, hh, by omega, h4, h5, ?_⟩
    have := congrArg (List.take (s.length * 2)) h6
    rw [List.take_take, Nat.min_eq_left (by omega), List.flatMap_append, List.take_append_of_le_length (by rw [flatS_len vcs_len]; exact Nat.le_refl _), List.take_of_length_le (l := s.flatMap vcs) (by rw [flatS_len vcs_len]; exact Nat.le_refl _)] at this
    exact this

theorem SW.addr {A : Option Addr} {m cc : Nat} {s : List (Nat × Nat)} {y : Nat × Nat} (h : SW w W0 g n c N U D B L (s ++ [y]) (.slice A m cc) W) : ∃ q, A = some ⟨q, 0, none⟩ ∧ m = s.length + 1 ∧ s.length + 1 ≤ cc ∧ cc ≤ maxLen := by
  rcases h.pa.2 with ⟨e, h3⟩ | ⟨g', cap, cur, e, hg, hh, h3, h4, h5, h6⟩
  · simp at h3
  · injection e with e1 e2 e3
    subst e1 e3
    rw [List.length_append, List.length_singleton] at h3 e2
    exact ⟨g', rfl, e2, h3, h4⟩

/-- The last of the stack, in memory. -/
theorem SW.last {q m cc : Nat} {s : List (Nat × Nat)} {j d : Nat} (h : SW w W0 g n c N U D B L (s ++ [(j, d)]) (.slice (some ⟨q, 0, none⟩) m cc) W) :
    W.cell? ⟨q, s.length * 2, none⟩ = some (.int .i64 (j : Int)) ∧ W.cell? ⟨q, s.length * 2 + 1, none⟩ = some (.int .i64 (d : Int)) ∧ W.frozen? ⟨q, s.length * 2 + 1, none⟩ = false := by
  have hx : (s ++ [(j, d)])[s.length]? = some (j, d) := by simp
  have hc : ∀ i u, (vcs (j, d))[i]? = some u → W.cell? ⟨q, s.length * 2 + i, none⟩ = some u := fun i u hu => by
    have := h.pa.cells (g := q) rfl _ u (flat_get vcs 2 vcs_len _ s.length _ hx i u hu)
    simpa [Addr.add_lit] using this
  exact ⟨hc 0 _ rfl, hc 1 _ rfl, own_frozen h.pa rfl⟩

theorem set_snoc {α : Type} (s : List α) (x y : α) : (s ++ [x]).set s.length y = s ++ [y] := by
  rw [List.set_append_right _ _ (Nat.le_refl _), Nat.sub_self]; rfl

/-- It has been stepped. -/
theorem SW.step {q m cc : Nat} {s : List (Nat × Nat)} {j d : Nat} (h : SW w W0 g n c N U D B L (s ++ [(j, d)]) (.slice (some ⟨q, 0, none⟩) m cc) W) :
    SW w W0 g n c N U D B L (s ++ [(j, d + 1)]) (.slice (some ⟨q, 0, none⟩) m cc) (W.setCell ⟨q, s.length * 2 + 1, none⟩ (.int .i64 ((d : Int) + 1))) := by
  have hM : Mods (fun k => (Value.slice (some ⟨q, 0, none⟩) m cc).ownBlock = some k) W (W.setCell ⟨q, s.length * 2 + 1, none⟩ (.int .i64 ((d : Int) + 1))) := Mods.setCell (S := fun k => (Value.slice (some ⟨q, 0, none⟩) m cc).ownBlock = some k) (Mods.refl _ W) (p := ⟨q, s.length * 2 + 1, none⟩) (.inl rfl) _
  refine h.turn hM ?_
  have hf := flat_put (f := vcs) (s := 2) vcs_len (y := (j, d + 1)) (j := 1) (u := .int .i64 ((d : Int) + 1)) (by omega) (s ++ [(j, d)]) s.length (by simp) (by simp [vcs])
  rw [set_snoc] at hf
  rw [hf]
  have := ownS_put h.pa (g := q) rfl (j := s.length * 2 + 1) (by rw [flatS_len vcs_len]; simp; omega) (.int .i64 ((d : Int) + 1))
  simpa using this

/-- add at the graph. -/
theorem SW.add (h : SW w W0 g n c N U D B L st pv W) (hv : ∃ vs, GV23 w (.slice (some ⟨g, 0, none⟩) n c) n N U D B L' vs W') (hk : RowK g W W') (hs : W.heap.size ≤ W'.heap.size) : SW w W0 g n c N U D B L' st pv W' :=
  ⟨hv, h.rk.trans hk, hk.own h.pa h.gne, Nat.le_trans h.sz hs, h.g0⟩

end

/-- The list that is ranged over, behind its first d elements: in a block that is turned by nothing here. -/
def RB23 (A2 : Option Addr) (g q d lb : Nat) (l : List Int) (W : World) : Prop := ∀ i, d + i < lb → ∃ p cur, A2 = some ⟨p, d, none⟩ ∧ p ≠ g ∧ p ≠ q ∧ Row W p 3 cur ∧ cur[d + i]? = some (.int .i64 (l.getD (d + i) 0))

section
variable {A2 : Option Addr} {g q d lb : Nat} {l : List Int} {W W' : World}

theorem RB23.rowk (h : RB23 A2 g q d lb l W) (hk : RowK g W W') : RB23 A2 g q d lb l W' := fun i hi => by
  obtain ⟨p, cur, h1, h2, h3, h4, h5⟩ := h i hi
  exact ⟨p, cur, h1, h2, h3, hk _ _ _ h2 h4, h5⟩

theorem RB23.put (h : RB23 A2 g q d lb l W) (x : Nat) (u : Value) : RB23 A2 g q d lb l (W.setCell ⟨q, x, none⟩ u) := fun i hi => by
  obtain ⟨p, cur, h1, h2, h3, h4, h5⟩ := h i hi
  exact ⟨p, cur, h1, h2, h3, h4.far (q := ⟨q, x, none⟩) h3 u, h5⟩

end

theorem vc_one (a b : Int) : ∀ u ∈ (#[Value.int .i64 a, .int .i64 b] : Array Value).toList, u.oneCell' = true := fun u hu => by
  simp only [List.mem_cons, List.not_mem_nil, or_false] at hu
  rcases hu with rfl | rfl <;> rfl

theorem st_cases (st : List (Nat × Nat)) : st = [] ∨ ∃ s j d, st = s ++ [(j, d)] := by
  rcases st.eq_nil_or_concat with rfl | ⟨s, ⟨j, d⟩, rfl⟩
  · exact .inl rfl
  · exact .inr ⟨s, j, d, by rw [List.concat_eq_append]⟩

set_option maxRecDepth 100000 in
set_option maxHeartbeats 8000000 in
theorem spread_any (w W0 : World) (g n c N : Nat) (U D L : Nat → Int → Bool) (B : Nat → List Int) (P : Nat → Prop) (k : Nat) (v : Int) (hG : ∃ vs, GV23 w (.slice (some ⟨g, 0, none⟩) n c) n N U D B L vs W0) (hk : k < n) (h0 : 0 ≤ v) (h1 : v < N) (hN : N ≤ 100000) (hn : n ≤ 100000)
    (hB : ∀ j, j < n → (B j).length ≤ 1000000 ∧ ∀ p ∈ B j, 0 ≤ p ∧ p < n) (hc : ClosedV n D B L v) (hs : ∀ j, j < n → L j v = true → P j) (hP : P k) (hPs : ∀ j, j < n → P j → ∀ p ∈ B j, D p.toNat v = false → P p.toNat) :
    Calls Try.prog 47 #[.slice (some ⟨g, 0, none⟩) n c, .int .i64 (k : Int), .int .i64 v] W0 fun e w' => e = .returned (.tuple #[]) ∧ ∃ L', (∃ vs, GV23 w (.slice (some ⟨g, 0, none⟩) n c) n N U D B L' vs w') ∧ RowK g W0 w' ∧
      (∀ j z, z ≠ v → L' j z = L j z) ∧ (∀ j z, L j z = true → L' j z = true) ∧ L' k v = true ∧ (∀ j, j < n → L' j v = true → P j) ∧ ClosedV n D B L' v := by
  have hwf : (Lit.int .i64 v).wf = true := WalkArith.wf_i64 ⟨by omega, by omega⟩
  obtain ⟨i0, hi0, hz0, hz1, hz2⟩ := info_parts infoVisit
  have HADD := Lib.hid (fun (L : Nat → Int → Bool) vs W (h : GV23 w (.slice (some ⟨g, 0, none⟩) n c) n N U D B L vs W) j (hj : j < n) => gadd_any h hj v h0 h1 hN)
  have HST := Lib.hid (StI.start hc hs hk hP)
  have HB := Lib.hid hB
  have HPS := Lib.hid hPs
  have HG := Lib.hid hG
  have hg0 : g < W0.heap.size := by
    obtain ⟨_, h⟩ := hG
    obtain ⟨_, h, _⟩ := h.row
    exact h.lt
  have HCL := Lib.hid (And.intro hs hc)
  clear hG hB hPs hc hs hP
  cases hL : L k v
  · obtain ⟨vs0, hv0⟩ := HG.out
    have HC0 := Lib.hid (HADD.out L vs0 W0 hv0 k hk)
    rw [hL] at HC0
    clear hv0
    go_enter Try.func47, Try.ntmps47
    go_step3
    go_upto_region 1 with (go_at_call 40; refine (HC0.out).mono ?_; rintro e w1 ⟨rfl, h1, h2, h3⟩; have HV1 := Lib.hid h1; have HR1 := Lib.hid h2; have HW1 := Lib.hid h3; clear h1 h2 h3)
    clear HC0
    go_wp2_with fail
    go_step3
    have HS0 : Hid (SW w W0 g n c N U D B (updL L k v) [(k, 0)] (.slice (some ⟨w1.heap.size, 0, none⟩) 1 1) (w1.alloc (.cells #[.int .i64 (k : Int), .int .i64 0] 94))) := by
      have hba : Below w1.heap.size w1 (w1.alloc (.cells #[.int .i64 (k : Int), .int .i64 0] 94)) := (Below.refl _ _).alloc (Nat.le_refl _) _
      refine ⟨HV1.out.imp fun _ h => h.next hba, HR1.out.trans (RowK.below hba), ⟨rfl, .inr ⟨_, 1, #[.int .i64 (k : Int), .int .i64 0], rfl, HW1.out, heap_alloc_new w1 _, Nat.le_refl _, by decide, rfl, ?_⟩⟩, Nat.le_trans HW1.out hba.size, hg0⟩
      simp [vcs]
    have HCN := Lib.hid (cntF_le n (updL L k v) v)
    generalize w1.alloc (.cells #[.int .i64 (k : Int), .int .i64 0] 94) = w2 at *
    obtain ⟨q0, hq0⟩ : ∃ z, w1.heap.size = z := ⟨_, rfl⟩
    rw [hq0] at HS0 ⊢
    clear hq0 HV1 HR1 HW1
    go_wp2_with fail
    go_loopg [6] (2 * n + 1) (fun q s6 wr => ∃ (st : List (Nat × Nat)) (L' : Nat → Int → Bool) (A : Option Addr) (cc : Nat), s6 = .slice A st.length cc ∧ Hid (2 * cntF n L' v + st.length ≤ q ∧ 2 * cntF n L' v + st.length ≤ 2 * n + 1) ∧ Hid (SW w W0 g n c N U D B L' st (.slice A st.length cc) wr) ∧ Hid (StI n D B L P k v st L'))
    case atStart => exact ⟨[(k, 0)], updL L k v, some ⟨q0, 0, none⟩, 1, rfl, (by have := HCN.out; exact ⟨(show 2 * _ + 1 ≤ 2 * n + 1 by omega), (show 2 * _ + 1 ≤ 2 * n + 1 by omega)⟩), HS0.out, HST.out⟩
    case round =>
      clear HS0 HST HCN
      obtain ⟨st, L', A, cc, rfl, HM, HS, HI⟩ := hrel
      rcases st_cases st with rfl | ⟨s, j, d, rfl⟩
      · have e0 : decide ((0 : Int) < (([] : List (Nat × Nat)).length : Int)) = false := rfl
        go_wp2_with fail
        rw [Exit.noGoto_normal]
        go_end0
        exact ⟨rfl, L', HS.out.gr, HS.out.rk, HI.out.oth, HI.out.mono, HI.out.top, HI.out.snd, HI.out.closed⟩
      · have hlen : (s ++ [(j, d)]).length = s.length + 1 := by simp
        rw [hlen] at HS HM ⊢
        obtain ⟨q, rfl, _, hcc1, hcc2⟩ := HS.out.addr
        obtain ⟨c1, c2, cf⟩ := HS.out.last
        obtain ⟨hjn, hlv, hd⟩ := HI.out.inr j d (mem_snoc.2 (.inr rfl))
        obtain ⟨vs, hv⟩ := HS.out.gr
        have hjl : j < vs.length := by rw [hv.len]; exact hjn
        have c3 := (hv.cell (i := j) (List.getElem?_eq_getElem hjl)).2.2.1
        have hown := hv.sb j _ (List.getElem?_eq_getElem hjl)
        generalize vs[j].b = xb at *
        have hbl := (HB.out j hjn).1
        have HPB := Lib.hid (HB.out j hjn).2
        obtain ⟨lb, hlb⟩ : ∃ z, (B j).length = z := ⟨_, rfl⟩
        rw [hlb] at hd hbl
        have HLB := Lib.hid hlb
        unfold maxLen at hcc2
        have HGV := Lib.hid hv
        clear hv hlen
        have hnn : (0 : Int) ≤ (d : Int) := by omega
        go_upto_region 4 with fail
        go_cut [40, 41, 42] from 20 to 79 (fun s40 s41 s42 wx => ∃ A2 c2 kk, s40 = .slice A2 (lb - d) c2 ∧ s41 = .int .i64 ((lb - d : Nat) : Int) ∧ s42 = .int .i64 0 ∧ wx = wr.drewN kk ∧ Hid (RB23 A2 g q d lb (B j) wr))
        case first =>
          rcases hown.2 with ⟨e, h0⟩ | ⟨p, cap, cur, e, hg, hh, hb1, hb2, hb3, hb4⟩
          · subst e
            obtain rfl : lb = 0 := by omega
            obtain rfl : d = 0 := by omega
            clear hown hlb
            go_quiet (fail)
            go_wp2_with fail
            go_meet
            case rel => exact ⟨_, _, nq, rfl, rfl, rfl, rfl, fun i hi => by omega⟩
          · subst e
            have HO := Lib.hid hown
            have HGN : Hid (p ≠ g ∧ p ≠ q) := by
              obtain ⟨_, hr, _⟩ := HGV.out.row
              refine ⟨fun e => ?_, fun e => ?_⟩
              · subst e; unfold Row at hr; rw [hh] at hr; injection hr with hr; injection hr with _ hr; exact absurd hr (by decide)
              · exact ownS_ne hown HS.out.pa (by decide) p rfl (by rw [e]; rfl)
            have HH : Hid (Row wr p 3 cur) := hh
            have H4 := Lib.hid hb4
            rw [hlb] at c3 hb1
            unfold maxLen at hb2
            clear hown hh hb3 hb4 hg hlb
            go_quiet (fail)
            go_wp2_with fail
            · go_meet
              case rel => exact ⟨_, _, nq, rfl, rfl, rfl, rfl, fun i hi => by omega⟩
            · go_meet
              case rel =>
                refine ⟨_, _, nq, rfl, rfl, rfl, rfl, fun i hi => ⟨p, cur, rfl, HGN.out.1, HGN.out.2, HH.out, ?_⟩⟩
                have hi2 : d + i < (B j).length := by rw [HLB.out]; exact hi
                have h4 : (cur.toList.take ((B j).length * 1))[d + i]? = (ints (B j))[d + i]? := by rw [H4.out]
                rw [List.getElem?_take_of_lt (by omega), Array.getElem?_toList] at h4
                rw [h4, ints, List.getElem?_map, List.getElem?_eq_getElem hi2, List.getD_eq_getElem?_getD, List.getElem?_eq_getElem hi2]
                rfl
        case rest =>
          obtain ⟨A2, c2', kk, rfl, rfl, rfl, rfl, HRB⟩ := hcut
          clear c1 c2 c3 cf hown hlb hnn HGV
          have HS2 := Lib.hid (HS.out.next (W' := wr.drewN kk) ⟨rfl, rfl, rfl, Nat.le_refl _, fun _ _ => rfl⟩)
          have HRB2 : Hid (RB23 A2 g q d lb (B j) (wr.drewN kk)) := HRB.out
          generalize wr.drewN kk = wd at *
          obtain ⟨g1, rfl⟩ : ∃ g1, gk = g1 + 1 := ⟨gk - 1, by have := HM.out; omega⟩
          obtain ⟨df, hdf⟩ : ∃ z, lb - d = z := ⟨_, rfl⟩
          rw [hdf]
          clear HS HRB
          go_wp2_with fail
          go_loopg [6, 42] df (fun q2 s6 s42 wx => ∃ t : Nat, t + q2 = df ∧ s6 = .slice (some ⟨q, 0, none⟩) (s.length + 1) cc ∧ s42 = .int .i64 (t : Int) ∧ Hid (SW w W0 g n c N U D B L' (s ++ [(j, d + t)]) (.slice (some ⟨q, 0, none⟩) (s.length + 1) cc) wx) ∧ Hid (StI n D B L P k v (s ++ [(j, d + t)]) L') ∧ Hid (RB23 A2 g q d lb (B j) wx))
          case atStart => exact ⟨0, by omega, rfl, rfl, HS2.out, HI.out, HRB2.out⟩
          case round =>
            clear HS2 HI HRB2
            obtain ⟨t, ht, rfl, rfl, HS, HI, HRB⟩ := hrel
            cases gk with
            | zero =>
              obtain rfl : t = df := by omega
              go_wp2_with fail
              go_roundg g1
              case measure => omega
              case rel => exact ⟨s, L', _, cc, rfl, (show 2 * cntF n L' v + s.length ≤ g1 ∧ 2 * cntF n L' v + s.length ≤ 2 * n + 1 by have := HM.out; omega), HS.out.cut, HI.out.pop (by rw [HLB.out]; omega)⟩
            | succ g2 =>
              have hlt : d + t < lb := by omega
              obtain ⟨p, cur, rfl, hpg, hpq, hrow, hcur⟩ := HRB.out t hlt
              have hcell : wr.cell? ⟨p, d + t, none⟩ = some (.int .i64 ((B j).getD (d + t) 0)) := (hrow.cell _).trans hcur
              have hlt2 : d + t < (B j).length := by rw [HLB.out]; exact hlt
              have hget : (B j)[d + t]? = some ((B j).getD (d + t) 0) := by rw [List.getD_eq_getElem?_getD, List.getElem?_eq_getElem hlt2]; rfl
              obtain ⟨hx0, hx1⟩ := HPB.out _ (List.mem_of_getElem? hget)
              generalize (B j).getD (d + t) 0 = x at *
              obtain ⟨pn, rfl⟩ := Int.eq_ofNat_of_zero_le hx0
              have hpn : pn < n := by omega
              obtain ⟨e, he⟩ : ∃ e, d + t = e := ⟨_, rfl⟩
              rw [he] at HS HI hget hcell
              obtain ⟨c1, c2, cf⟩ := HS.out.last
              have HGET := Lib.hid hget
              have hebig : e ≤ 1000000 := by omega
              clear hrow hcur hlt2 hget hx0 hx1
              go_upto_region 8 with fail
              have HS3 := Lib.hid HS.out.step
              have HRB3 := Lib.hid (HRB.out.put (s.length * 2 + 1) (.int .i64 ((e : Int) + 1)))
              have HE : Hid (d + (t + 1) = e + 1) := by rw [Hid, ← he]; omega
              clear HS HRB c1 c2 cf hcell he
              generalize wr.setCell ⟨q, s.length * 2 + 1, none⟩ (.int .i64 ((e : Int) + 1)) = W8 at *
              obtain ⟨vs3, hv3⟩ := HS3.out.gr
              have hpl : pn < vs3.length := by rw [hv3.len]; exact hpn
              have c1 := (hv3.cell (i := pn) (List.getElem?_eq_getElem hpl)).2.1
              have hms := hv3.sd pn _ (List.getElem?_eq_getElem hpl)
              have HCA := Lib.hid (HADD.out L' vs3 W8 hv3 pn hpn)
              have HPP : Hid (D pn v = false → P pn) := fun hd0 => by
                have := HPS.out j hjn (HI.out.snd j hjn (HI.out.inr j e (mem_snoc.2 (.inr rfl))).2.1) pn (List.mem_of_getElem? HGET.out) (by rw [Int.toNat_natCast]; exact hd0)
                rwa [Int.toNat_natCast] at this
              generalize vs3[pn].d = md at *
              clear hv3 hpl
              cases hD : D pn v
              · cases hLp : L' pn v
                · rw [hLp] at HCA
                  have HM2 : Hid (2 * cntF n (updL L' pn v) v + (s.length + 1 + 1) ≤ g1 ∧ 2 * cntF n (updL L' pn v) v + (s.length + 1 + 1) ≤ 2 * n + 1) := by
                    have := HM.out
                    have := cntF_upd hpn hLp
                    show 2 * cntF n (updL L' pn v) v + (s.length + 1 + 1) ≤ g1 ∧ 2 * cntF n (updL L' pn v) v + (s.length + 1 + 1) ≤ 2 * n + 1
                    omega
                  go_upto_region 9 with (first
                    | (at_lookup; refine wpList_ms_has W8 rfl _ _ rfl rfl hms v rfl hwf ?_; rw [hD])
                    | (go_at_call 40; refine (HCA.out).mono ?_; rintro e4 w4 ⟨rfl, h4, h5, h6⟩; have H4 := Lib.hid (HS3.out.add h4 h5 h6); clear h4 h5 h6))
                  have hba : Below w4.heap.size w4 (w4.alloc (.cells #[.int .i64 (pn : Int), .int .i64 0] 94)) := (Below.refl _ _).alloc (Nat.le_refl _) _
                  have hown2 := (H4.out.next hba).pa
                  have hnew := sees_new w4 #[.int .i64 (pn : Int), .int .i64 0] 94
                  have hls : (s ++ [(j, e + 1)]).length = s.length + 1 := by simp
                  have HH4 := Lib.hid (H4.out.next hba)
                  have hs4 := H4.out.sz
                  have hsl : s.length + 1 ≤ 200000 := by
                    have := HM2.out
                    omega
                  rw [hls] at hown2
                  clear hba hls
                  go_wp2_with (at_builtin; refine wpList_append_any _ rfl (.tmp 69) (.tmp 72) 95 rfl _ 94 i0 (.agg #[.int .i64 0, .int .i64 0]) 2 16 Try.underlying95 hi0 hz0 hz1 hz2 rfl (by decide) _ _ _ rfl hown2 (w4.heap.size + 1) _ 1 1 _ rfl hnew rfl (vc_one _ _) ?c1 ?c2 ?c3 ?_)
                  case c1 => unfold maxLen; omega
                  case c2 => omega
                  case c3 => first | omega | (simp; omega)
                  intro v5 W5 ho5 hg5 hb5
                  obtain ⟨A5, c5, rfl, _, _⟩ := ownS_slice ho5
                  have hM5 : Mods (fun k => (Value.slice (some ⟨q, 0, none⟩) (s.length + 1) cc).ownBlock = some k) (w4.alloc (.cells #[.int .i64 (pn : Int), .int .i64 0] 94)) W5 := (Mods.refl _ _).grown hg5 fun k hk => .inl hk
                  have hl6 : ((s ++ [(j, e + 1)]) ++ [(pn, 0)]).length = s.length + 1 + 1 := by simp
                  have HS6 : Hid (SW w W0 g n c N U D B (updL L' pn v) (s ++ [(j, e + 1)] ++ [(pn, 0)]) (.slice A5 (s.length + 1 + 1) c5) W5) := by
                    refine HH4.out.turn hM5 ?_
                    rw [hl6, List.flatMap_append, List.flatMap_append, List.append_assoc]
                    exact ho5
                  have HI6 := Lib.hid (HI.out.push HGET.out hpn (HPP.out hD))
                  have HL6 := Lib.hid hl6
                  clear ho5 hg5 hb5 hM5 hown2 hnew hl6 HH4 H4
                  go_wp2_with fail
                  go_roundg g1
                  case measure => omega
                  case rel => exact ⟨_, _, A5, c5, by rw [HL6.out], by rw [HL6.out]; exact HM2.out, by rw [HL6.out]; exact HS6.out, HI6.out⟩
                · rw [hLp] at HCA
                  go_wp2_with (first
                    | (at_lookup; refine wpList_ms_has W8 rfl _ _ rfl rfl hms v rfl hwf ?_; rw [hD])
                    | (go_at_call 40; refine (HCA.out).mono ?_; rintro e4 w4 ⟨rfl, h4, h5, h6⟩; have H4 := Lib.hid (HS3.out.add h4 h5 h6); have H5 := Lib.hid (HRB3.out.rowk h5); clear h4 h5 h6))
                  go_roundg g2
                  case measure => omega
                  case rel => exact ⟨t + 1, by omega, rfl, by go_num, by rw [HE.out, ← updL_same hLp]; exact H4.out, by rw [HE.out]; exact HI.out.inc HGET.out (.inr (by rw [Int.toNat_natCast]; exact hLp)), H5.out⟩
              · go_wp2_with (first
                  | (at_lookup; refine wpList_ms_has W8 rfl _ _ rfl rfl hms v rfl hwf ?_; rw [hD]))
                go_roundg g2
                case measure => omega
                case rel => exact ⟨t + 1, by omega, rfl, by go_num, by rw [HE.out]; exact HS3.out, by rw [HE.out]; exact HI.out.inc HGET.out (.inl (by rw [Int.toNat_natCast]; exact hD)), HRB3.out⟩
  · obtain ⟨vs0, hv0⟩ := HG.out
    have HC0 := Lib.hid (HADD.out L vs0 W0 hv0 k hk)
    rw [hL] at HC0
    clear hv0
    go_enter Try.func47, Try.ntmps47
    go_step3
    go_wp2_with (go_at_call 40; refine (HC0.out).mono ?_; rintro e w1 ⟨rfl, h1, h2, h3⟩; have HV1 := Lib.hid h1; have HR1 := Lib.hid h2; have HW1 := Lib.hid h3; clear h1 h2 h3)
    rw [Exit.noGoto_ret]
    refine bodyPost_ret (results_none rfl _ _ _) rfl ⟨rfl, L, ?_, HR1.out, fun _ _ _ => rfl, fun _ _ h => h, hL, HCL.out.1, HCL.out.2⟩
    have := HV1.out
    rwa [updL_same hL] at this

end Go.Proofs.Ytncigbpeempnfaa
