/-
  The program's All.
-/
import Derived.Test.YtacendjemomkfaaEdIter
import Derived.Test.YtacendjemomkfaaEdRal
namespace Go.Proofs.Ytacendjemomkfaa
open Go.RowKit Go.Shelf
set_option linter.unusedVariables false

attribute [local go_sem] Oper.semAt_some

/-! Turns of blocks that are no cells. -/
section
variable {w W W' : World} {row : Option Nat} {p : Nat} {T : TypeId} {cs : Array Value} {v : Value} {o : List Pr}
theorem Row.kept (h : Row W p T cs) (hg : W.grownBy W' row) (hr : ∀ q, row = some q → ∃ ob : Obj, W.heap[q]? = some ob ∧ ob.isCells = false) : Row W' p T cs := by
  refine (hg.block p h.lt fun e => ?_).trans h
  obtain ⟨ob, h1, h2⟩ := hr p e.symm
  rw [show W.heap[p]? = _ from h] at h1
  cases h1
  cases h2
theorem PL.kept (h : PL w v o W) (hg : W.grownBy W' row) (hr : ∀ q, row = some q → w.heap.size ≤ q ∧ ∃ ob : Obj, W.heap[q]? = some ob ∧ ob.isCells = false) : PL w v o W' := by
  refine ⟨h.own.kept hg ?_, h.blw.grown hg h.blw.size fun k e => (hr k e).1⟩
  rcases h.own.2 with ⟨rfl, _⟩ | ⟨g, cap, cur, rfl, _, hgb, _⟩
  · exact .inl rfl
  · refine .inr fun e => ?_
    obtain ⟨_, ob, h1, h2⟩ := hr g (by simpa [Value.ownBlock] using e.symm)
    rw [hgb] at h1
    cases h1
    cases h2
theorem keepsOthers_of_below (h : Below W.heap.size W W') : KeepsOthers W W' := ⟨h.size, fun k ob hk _ => (h.block k (Array.getElem?_eq_some_iff.1 hk).1).trans hk⟩
end

/-- A list of the blocks for deferred calls that the function has yet to shut. -/
def markD (D : Nat) : Deferred := { target := .collected D, args := #[] }
def Mks (n₀ : Nat) (Ds : List Nat) (W : World) : Prop := Ds.Nodup ∧ ∀ D ∈ Ds, n₀ ≤ D ∧ W.heap[D]? = some (.deferred (some []))

theorem Mks.lt {n₀ : Nat} {Ds : List Nat} {W : World} (h : Mks n₀ Ds W) {D : Nat} (hD : D ∈ Ds) : D < W.heap.size := (Array.getElem?_eq_some_iff.1 (h.2 D hD).2).1
theorem Mks.below {n₀ : Nat} {Ds : List Nat} {W W' : World} (h : Mks n₀ Ds W) (hb : Below W.heap.size W W') : Mks n₀ Ds W' := ⟨h.1, fun D hD => ⟨(h.2 D hD).1, (hb.block D (h.lt hD)).trans (h.2 D hD).2⟩⟩
theorem Mks.kept {n₀ B : Nat} {Ds : List Nat} {W W' : World} (h : Mks n₀ Ds W) (hB : ∀ D ∈ Ds, D < B) {row : Option Nat} (hg : W.grownBy W' row) (hr : ∀ q, row = some q → B ≤ q) : Mks n₀ Ds W' :=
  ⟨h.1, fun D hD => ⟨(h.2 D hD).1, (hg.block D (h.lt hD) fun e => by have := hr D e.symm; have := hB D hD; omega).trans (h.2 D hD).2⟩⟩
theorem Mks.keeps {n₀ : Nat} {Ds : List Nat} {W W' : World} (h : Mks n₀ Ds W) (hk : KeepsOthers W W') : Mks n₀ Ds W' := ⟨h.1, fun D hD => ⟨(h.2 D hD).1, hk.same D _ (h.2 D hD).2 rfl⟩⟩

/-- The function's marks are taken one after the other. -/
theorem leaves_marks {F : Fence} {n : Nat} {P : Program} {fn : Func} {tmps : Array Value} {R : Ending → World → Prop} {n₀ : Nat} {Pr : World → Prop}
    (hP : ∀ W D, n₀ ≤ D → W.heap[D]? = some (.deferred (some [])) → Pr W → Pr (W.putObj D (.deferred none)))
    (hfin : ∀ W, Pr W → LeavesIn F n P fn tmps R [] .returning W) : ∀ (Ds : List Nat) (W : World), Mks n₀ Ds W → Pr W → LeavesInM F n P fn tmps R (Ds.map markD) .returning W
  | [], W, _, h => hfin W h
  | D :: Ds, W, hm, h => by
    have hD := hm.2 D (by simp)
    refine ⟨by simp, .inl ⟨D, _, rfl, run_takeDeferred hD.2, ?_⟩⟩
    refine leaves_marks hP hfin Ds _ ⟨(List.nodup_cons.1 hm.1).2, fun E hE => ⟨(hm.2 E (by simp [hE])).1, ?_⟩⟩ (hP W D hD.1 hD.2 h)
    have hne : D ≠ E := fun e => (List.nodup_cons.1 hm.1).1 (e ▸ hE)
    exact (World.putObj_heap_other (by omega)).trans (hm.2 E (by simp [hE])).2

/-- What lies between two rounds of the inner loop. -/
structure AS (w : World) (b4 b9 bV b1 b2 : Nat) (a k r s : Int) (Ds : List Nat) (o : List Pr) (W : World) : Prop where
  r4 : Row W b4 3 #[.int .i64 a]
  rV : Row W bV 3 #[.int .i64 k]
  rs : RS2 b1 b2 r s W
  mks : Mks w.heap.size Ds W
  pl : ∃ v, Row W b9 33 #[v] ∧ PL w v o W

theorem AS.kept {w : World} {b4 b9 bV b1 b2 : Nat} {a k r s : Int} {Ds : List Nat} {o : List Pr} {W W' : World} (h : AS w b4 b9 bV b1 b2 a k r s Ds o W) {B : Nat} (hwB : w.heap.size ≤ B) (hB : ∀ D ∈ Ds, D < B)
    {row : Option Nat} (hg : W.grownBy W' row) (hr : ∀ q, row = some q → B ≤ q ∧ ∃ ob : Obj, W.heap[q]? = some ob ∧ ob.isCells = false) : AS w b4 b9 bV b1 b2 a k r s Ds o W' := by
  have hr' := fun q e => (hr q e).2
  obtain ⟨v, h1, h2⟩ := h.pl
  exact ⟨h.r4.kept hg hr', h.rV.kept hg hr', ⟨h.rs.h1.kept hg hr', h.rs.h2.kept hg hr'⟩, h.mks.kept hB hg fun q e => (hr q e).1, v, h1.kept hg hr', h2.kept hg fun q e => ⟨Nat.le_trans hwB (hr q e).1, hr' q e⟩⟩

theorem AS.below {w : World} {b4 b9 bV b1 b2 : Nat} {a k r s : Int} {Ds : List Nat} {o : List Pr} {W W' : World} (h : AS w b4 b9 bV b1 b2 a k r s Ds o W) (hb : Below W.heap.size W W') : AS w b4 b9 bV b1 b2 a k r s Ds o W' := by
  obtain ⟨v, h1, h2⟩ := h.pl
  exact ⟨h.r4.below hb h.r4.lt, h.rV.below hb h.rV.lt, ⟨h.rs.h1.below hb h.rs.h1.lt, h.rs.h2.below hb h.rs.h2.lt⟩, h.mks.below hb, v, h1.below hb h1.lt, h2.next hb⟩

theorem Row.set_far {W : World} {p b : Nat} {T : TypeId} {cs : Array Value} (h : Row W p T cs) (hne : p ≠ b) (v : Value) : Row (W.setCell ⟨b, 0, none⟩ v) p T cs := ((grownBy_setCell' W b v).block p h.lt (by simpa using hne)).trans h

/-- A pair is put behind the list, and the list's variable turned. -/
theorem AS.push {w : World} {b4 b9 bV b1 b2 : Nat} {a k r s : Int} {Ds : List Nat} {o : List Pr} {W w1 : World} {v v' : Value} {x1 x2 : Int} (h : AS w b4 b9 bV b1 b2 a k r s Ds o W)
    (n4 : b4 ≠ b9) (nV : bV ≠ b9) (n1 : b1 ≠ b9) (n2 : b2 ≠ b9) (hv : Row W b9 33 #[v]) (hp : PL w v o W)
    (ho : w1.ownsRow w.heap.size 25 2 v' (o.length + 1) (prs o ++ prs [(x1, x2)])) (hg : (W.alloc (prObj x1 x2)).grownBy w1 v.ownBlock) (hB : w.heap.size ≤ b9) :
    Row w1 b9 33 #[v] ∧ AS w b4 b9 bV b1 b2 a k r s Ds (o ++ [(x1, x2)]) (w1.setCell ⟨b9, 0, none⟩ v') ∧ KeepsOthers W (w1.setCell ⟨b9, 0, none⟩ v') := by
  obtain ⟨hv1, hv2, hr2, hk2, hb2⟩ := Boxed.appended (show Boxed W b9 33 v from hv) (by decide) hp.own hp.blw.size hB ho hg
  have hb0 := (Below.refl W.heap.size W).alloc (Nat.le_refl _) (prObj x1 x2)
  have kp : ∀ {p : Nat} {u : Value}, Row W p 3 #[u] → p ≠ b9 → Row (w1.setCell ⟨b9, 0, none⟩ v') p 3 #[u] := fun {p u} hr hne =>
    Row.set_far (Boxed.kept (show Boxed _ p 3 u from hr.below hb0 hr.lt) hg (Boxed.not_row (show Boxed W p 3 u from hr) (by decide) hp.own)) hne v'
  have hpl := (hp.push x1 x2 rfl ho hg).own
  refine ⟨hv1, ⟨kp h.r4 n4, kp h.rV nV, ⟨kp h.rs.h1 n1, kp h.rs.h2 n2⟩, h.mks.keeps hk2, v', hv2, ?_, hp.blw.trans hb2⟩, hk2⟩
  have := hr2
  rw [← prs_append] at this
  rw [List.length_append]
  exact this

/-- What lies between two rounds of the outer loop. -/
structure AO (w : World) (b4 b9 : Nat) (a : Int) (Ds : List Nat) (o : List Pr) (W : World) : Prop where
  r4 : Row W b4 3 #[.int .i64 a]
  mks : Mks w.heap.size Ds W
  pl : ∃ v, Row W b9 33 #[v] ∧ PL w v o W

theorem locs_stops (b1 b2 r s : Nat) (hr : r ≤ 20) (hs : s ≤ 20) (W0 : World) (h : RS2 b1 b2 r s W0) :
    SeqStopsK Fence.wide 1 Try.prog 31 #[.pointer (some ⟨b1, 0, none⟩), .pointer (some ⟨b2, 0, none⟩)] (fun x : LocT => #[.int .i64 x.1]) (KpRS b1 b2 r s) (fun ys => ys.map (·.1) = locsN r s (max r s)) (fun _ => True) 100 W0 :=
  fun l J Jx W hW _ _ hY h0 => locs1_in l b1 b2 r s hr hs J Jx hY W ⟨h.h1.below hW h.h1.lt, h.h2.below hW h.h2.lt⟩ h0

theorem kpRS_t {b1 b2 : Nat} {r s : Int} {A B C : World} (h : KpRS b1 b2 r s A B) (k : KpRS b1 b2 r s B C) : KpRS b1 b2 r s A C := fun x => k (h x)
theorem kpRS_b {b1 b2 : Nat} {r s : Int} {w : World} (W : World) (l : Nat) (o o' : Obj) (_ : w.heap.size ≤ l) (h : W.heap[l]? = some o) (hc : o.isCells = false) (_ : o.isWalk = false) : KpRS b1 b2 r s W (W.putObj l o') := fun x => by
  have hr : ∀ q, some l = some q → ∃ ob : Obj, W.heap[q]? = some ob ∧ ob.isCells = false := fun q e => by cases e; exact ⟨o, h, hc⟩
  exact ⟨x.h1.kept (grownBy_putObj' W l o') hr, x.h2.kept (grownBy_putObj' W l o') hr⟩

set_option maxRecDepth 100000 in
set_option maxHeartbeats 8000000 in
theorem pall_any (a : Int) (n r s : Nat) (w : World) (hn : n ≤ 20) (hr : r ≤ 20) (hs : s ≤ 20) (ha : 0 ≤ a) (ha2 : a ≤ 1000) :
    Calls Try.prog 15 #[.int .i64 a, .int .i64 (n : Int), .int .i64 (r : Int), .int .i64 (s : Int)] w fun e w' => ∃ v, e = .returned v ∧ PL w v (allA a r s n) w' := by
  obtain ⟨i0, hi0, hz0, hz1, hz2⟩ := info_pr
  refine (callsIn_wide (n := 2)).1 ?_
  refine callsIn_of_wp_marks Try.func15 rfl trivial ?_ rfl
  simp only [Try.ntmps15, List.size_toArray, List.length_cons, List.length_nil, Nat.reduceAdd, Nat.reduceSub, Array.replicate_succ, Array.replicate_zero, List.push_toArray, List.append_toArray, List.nil_append, List.cons_append]
  gi_wp2
  have hA4 : Row ((w.alloc (.cells #[.int .i64 a] 3)).alloc (.cells #[.slice none 0 0] 33)) w.heap.size 3 #[.int .i64 a] := (Row.new w 3 #[.int .i64 a]).alloc _
  have hA9 : Row ((w.alloc (.cells #[.int .i64 a] 3)).alloc (.cells #[.slice none 0 0] 33)) (w.heap.size + 1) 33 #[.slice none 0 0] := by
    have := Row.new (w.alloc (.cells #[.int .i64 a] 3)) 33 #[.slice none 0 0]
    rwa [World.size_alloc] at this
  have HO : Hid (AO w w.heap.size (w.heap.size + 1) a [] (allA a r s 0) ((w.alloc (.cells #[.int .i64 a] 3)).alloc (.cells #[.slice none 0 0] 33))) :=
    ⟨hA4, ⟨List.nodup_nil, fun D hD => by simp at hD⟩, _, hA9, ((PL.nil w).alloc _).alloc _⟩
  clear hA4 hA9
  generalize ((w.alloc (.cells #[.int .i64 a] 3)).alloc (.cells #[.slice none 0 0] 33)) = W0 at *
  refine wpIn_loop_ghost_k (fun g a' wr => ∃ (k : Nat) (Ds : List Nat) (u10 u11 u12 u15 u16 u17 u18 u19 u20 u21 u22 u23 u24 u25 u26 u27 u28 u29 u30 u31 : Value), k + g = n ∧ a' = { tmps := #[.int .i64 a, .int .i64 (n : Int), .int .i64 (r : Int), .int .i64 (s : Int), .pointer (some ⟨w.heap.size, 0, none⟩), undef, undef, undef, .slice none 0 0, .pointer (some ⟨w.heap.size + 1, 0, none⟩), u10, u11, u12, .int .i64 (n : Int), .int .i64 (k : Int), u15, u16, u17, u18, u19, u20, u21, u22, u23, u24, u25, u26, u27, u28, u29, u30, u31, undef], defers := Ds.map markD } ∧ Hid (AO w w.heap.size (w.heap.size + 1) a Ds (allA a r s k) wr)) n ⟨0, [], _, _, _, _, _, _, _, _, _, _, _, _, _, _, _, _, _, _, _, _, by omega, rfl, HO.out⟩ ?_
  clear HO
  rintro g a' wr ⟨k, Ds, u10, u11, u12, u15, u16, u17, u18, u19, u20, u21, u22, u23, u24, u25, u26, u27, u28, u29, u30, u31, hg, rfl, HO⟩ J K hJ hK
  by_cases hk : k < n
  · have hkz : (k : Int) < (n : Int) := by omega
    have HLA : Hid ((allA a r s k).length ≤ 800) := by
      have h1 := allA_len a r s k
      have h2 : k * (2 * max r s) ≤ 20 * 40 := Nat.mul_le_mul (by omega) (by omega)
      exact Nat.le_trans h1 h2
    have HAS : Hid (allA a r s (k + 1) = allA a r s k ++ rowA a k (locsN r s (max r s))) := allA_succ a r s k
    generalize allA a r s k = oA at *
    have hwz : w.heap.size + 1 < wr.heap.size := by obtain ⟨v, h1, _⟩ := HO.out.pl; exact h1.lt
    gi_wp2_with (refine ⟨trivial, ?_⟩; gi_at_call 25; refine (callsIn_wide.2 (locations_any (r : Int) (s : Int) _)).mono ?_; rintro e w' ⟨rfl, rfl⟩)
    try simp only [World.size_alloc]
    have HB : Hid (AS w w.heap.size (w.heap.size + 1) wr.heap.size (wr.heap.size + 1) (wr.heap.size + 2) a (k : Int) r s Ds (oA ++ rowA a k []) (((wr.alloc (.cells #[.int .i64 (k : Int)] 3)).alloc (.cells #[.int .i64 (r : Int)] 3)).alloc (.cells #[.int .i64 (s : Int)] 3))) := by
      have hb1 := (Below.refl wr.heap.size wr).alloc (Nat.le_refl _) (.cells #[.int .i64 (k : Int)] 3)
      have hb2 := hb1.alloc hb1.size (.cells #[.int .i64 (r : Int)] 3)
      have hb3 := hb2.alloc hb2.size (.cells #[.int .i64 (s : Int)] 3)
      obtain ⟨h1, h2, v, h3, h4⟩ := HO.out
      have q1 := ((Row.new wr 3 #[.int .i64 (k : Int)]).alloc (.cells #[.int .i64 (r : Int)] 3)).alloc (.cells #[.int .i64 (s : Int)] 3)
      have q2 := (Row.new (wr.alloc (.cells #[.int .i64 (k : Int)] 3)) 3 #[.int .i64 (r : Int)]).alloc (.cells #[.int .i64 (s : Int)] 3)
      have q3 := Row.new ((wr.alloc (.cells #[.int .i64 (k : Int)] 3)).alloc (.cells #[.int .i64 (r : Int)] 3)) 3 #[.int .i64 (s : Int)]
      simp only [World.size_alloc] at q2 q3
      refine ⟨h1.below hb3 h1.lt, q1, ⟨q2, q3⟩, h2.below hb3, v, h3.below hb3 h3.lt, ?_⟩
      have e : oA ++ rowA a k [] = oA := by simp [rowA]
      rw [e]
      exact h4.next hb3
    have HDl : Hid (∀ D ∈ Ds, D < wr.heap.size) := fun D hD => HO.out.mks.lt hD
    clear HO
    generalize hbV : wr.heap.size = bV at *
    have hwB : bV + 3 ≤ (((wr.alloc (.cells #[.int .i64 (k : Int)] 3)).alloc (.cells #[.int .i64 (r : Int)] 3)).alloc (.cells #[.int .i64 (s : Int)] 3)).heap.size := by simp; omega
    clear hbV
    generalize (((wr.alloc (.cells #[.int .i64 (k : Int)] 3)).alloc (.cells #[.int .i64 (r : Int)] 3)).alloc (.cells #[.int .i64 (s : Int)] 3)) = W1 at *
    have h4n : w.heap.size ≠ w.heap.size + 1 := by omega
    refine wpIn_rangeFunc_ownG (F := Fence.wide) rfl (by decide) (gf := 31) (lb := #[.pointer (some ⟨bV + 1, 0, none⟩), .pointer (some ⟨bV + 1 + 1, 0, none⟩)]) rfl trivial (enters_of Try.func31 (by kernel_rfl) rfl)
      (locs_stops (bV + 1) (bV + 1 + 1) r s hr hs W1 HB.out.rs) (fun h k => kpRS_t h k) kpRS_b (Below.refl _ _) (fun _ => rfl)
      (fun pre W => AS w w.heap.size (w.heap.size + 1) bV (bV + 1) (bV + 2) a (k : Int) r s Ds (oA ++ rowA a k (pre.map (·.1))) W) (fun _ _ _ => False)
      (fun pre W W' row hs hg hr => hs.kept (by omega) (fun D hD => by have := HDl.out D hD; omega) hg hr) (fun _ _ _ _ _ hs _ _ => hs) HB.out
      (fun x => { tmps := #[.int .i64 a, .int .i64 (n : Int), .int .i64 (r : Int), .int .i64 (s : Int), .pointer (some ⟨w.heap.size, 0, none⟩), undef, undef, undef, .slice none 0 0, .pointer (some ⟨w.heap.size + 1, 0, none⟩), .pointer (some ⟨bV, 0, none⟩), .int .i64 x.1, u12, .int .i64 (n : Int), .int .i64 (k : Int), .bool true, .int .i64 (k : Int), .int .i64 (r : Int), .int .i64 (s : Int), .func (.func 31) #[] #[.pointer (some ⟨bV + 1, 0, none⟩), .pointer (some ⟨bV + 1 + 1, 0, none⟩)], .int .i64 x.1, u21, u22, u23, u24, u25, u26, u27, u28, u29, u30, u31, undef], defers := [] }) ?assign ?body ?done ?stop
    case assign =>
      intro l x W K hK
      gi_wp2
      exact hK
    case body =>
      clear HB
      rintro l pre ⟨x, hx0, hx1⟩ W hA hlen
      have HA := Lib.hid hA
      clear hA
      have c4 := HA.out.r4.cell 0
      have cV := HA.out.rV.cell 0
      simp only [List.getElem?_toArray, List.getElem?_cons_zero] at c4 cV
      have hol : Hid (oA.length + (rowA a k (pre.map (·.1))).length ≤ 1000) := by
        have h1 := HLA.out
        have h2 := rowA_len a k (pre.map (·.1))
        rw [List.length_map] at h2
        show _ ≤ _
        omega
      have HR1 : Hid (rowA a k ((pre ++ [(⟨x, hx0, hx1⟩ : LocT)]).map (·.1)) = rowA a k (pre.map (·.1)) ++ if initP ((k : Int), x) a then [((k : Int), x)] else []) := by
        show _ = _
        rw [List.map_append, rowA_append]
        congr 1
        exact rowA_one a k x
      have hk0 : (0 : Int) ≤ (k : Int) := by omega
      have hkb : (k : Int) ≤ 9223372036854775807 := by omega
      have hxb : x ≤ 9223372036854775807 := by omega
      have C := Lib.hid fun W => pinit_any (k : Int) x a W hk0 hx0 hxb hkb
      have hpr := Row.new W 25 #[.int .i64 (k : Int), .int .i64 x]
      have hbp := (Below.refl W.heap.size W).alloc (Nat.le_refl _) (prObj (k : Int) x)
      have c4' := (HA.out.r4.below hbp HA.out.r4.lt).cell 0
      have c0 := hpr.cell 0
      have c1 := hpr.cell 1
      simp only [List.getElem?_toArray, List.getElem?_cons_zero, List.getElem?_cons_succ] at c4' c0 c1
      gi_wp2_with fail
      refine ⟨trivial, rfl, (CallsIn.inRound l (callsIn_wide.2 (C.out _))).mono ?_⟩
      have HAP := Lib.hid (HA.out.below hbp)
      have HBW := Lib.hid hbp
      clear hbp c4 cV c4'
      generalize (W.alloc (.cells #[.int .i64 (k : Int), .int .i64 x] 25)) = Wp at *
      rintro e W2 ⟨rfl, hG⟩
      have c0' := hG.cell c0
      have c1' := hG.cell c1
      have HB2 := Lib.hid (HBW.out.trans (hG.below.mono HBW.out.size))
      have HA2 := Lib.hid (HAP.out.below hG.below)
      clear hG c0 c1 HAP HBW hpr C
      rcases hib : initP ((k : Int), x) a with _ | _
      · have HNX : Hid (rowA a k ((pre ++ [(⟨x, hx0, hx1⟩ : LocT)]).map (·.1)) = rowA a k (pre.map (·.1))) := by show _ = _; rw [HR1.out, hib]; simp
        gi_wp2
        refine ⟨(keepsOthers_of_below HB2.out).from _, fun _ => HA2.out.rs, ?_⟩
        show AS _ _ _ _ _ _ _ _ _ _ _ _ _
        rw [HNX.out]
        exact HA2.out
      · have HNX : Hid (rowA a k ((pre ++ [(⟨x, hx0, hx1⟩ : LocT)]).map (·.1)) = rowA a k (pre.map (·.1)) ++ [((k : Int), x)]) := by show _ = _; rw [HR1.out, hib]; simp
        clear hib HR1
        generalize hoo : rowA a k (pre.map (·.1)) = oT at HNX HA HA2 hol
        obtain ⟨oo, hoo2⟩ : ∃ z, z = oA ++ oT := ⟨_, rfl⟩
        rw [← hoo2] at HA2 HA
        have hol2 : oo.length ≤ 1000 := by rw [hoo2, List.length_append]; exact hol.out
        have HOO := Lib.hid hoo2
        clear hoo hoo2 hol
        obtain ⟨v, hv9, hpl⟩ := HA2.out.pl
        obtain ⟨A9, c9, rfl, hc9, hcm9⟩ := hpl.slice
        have d9 := hv9.cell 0
        simp only [List.getElem?_toArray, List.getElem?_cons_zero] at d9
        have hnew := new_sees W2 (k : Int) x
        have hcn : ∀ j u, (prs [((k : Int), x)])[j]? = some u → (W2.alloc (prObj (k : Int) x)).cell? ((⟨W2.heap.size, 0, none⟩ : Addr).add j) = some u := fun j u h => by
          obtain ⟨b, o, e, _, hc⟩ := hnew (by simp [prs])
          injection e with e
          injection e with e1 e2
          subst e1 e2
          have h9 := hc j u h
          rw [Nat.zero_add] at h9
          have e9 : ((⟨W2.heap.size, 0, none⟩ : Addr).add j) = ⟨W2.heap.size, j, none⟩ := by unfold Addr.add; split <;> simp_all
          rw [e9]
          exact h9
        have hb1 : oo.length + 1 ≤ maxLen := by unfold maxLen; omega
        have hb2 : (oo.length + 1) * 16 ≤ 140737488355328 := by omega
        have hb3 : w.heap.size ≤ (W2.alloc (prObj (k : Int) x)).heap.size := by have := hpl.blw.size; simp; omega
        have hown := (hpl.alloc (prObj (k : Int) x)).own
        have HPL := Lib.hid hpl
        have HV9 := Lib.hid hv9
        clear hpl hv9 hnew
        gi_wp2_with (gi_at_builtin; refine wpListIn_append_own _ rfl _ _ 33 rfl w.heap.size 25 i0 (.agg #[.int .i64 0, .int .i64 0]) 2 16 Try.underlying33 hi0 hz0 hz1 hz2 rfl (by decide) _ _ _ rfl hown ⟨W2.heap.size, 0, none⟩ 1 1 (prs [((k : Int), x)]) rfl rfl hcn (prs_one _) hb1 hb2 hb3 ?_; intro v' w1 hown' hgrow _; have HPU := Lib.hid (HA2.out.push (w1 := w1) (v' := v') (x1 := (k : Int)) (x2 := x) h4n (by omega) (by omega) (by omega) HV9.out HPL.out hown' hgrow (by omega)); have d9' := HPU.out.1.cell 0; have q9' := HPU.out.1.frozen 0; simp only [List.getElem?_toArray, List.getElem?_cons_zero] at d9'; obtain ⟨g', cap', rfl⟩ := ownsRow_succ hown')
        refine ⟨((keepsOthers_of_below HB2.out).trans HPU.out.2.2).from _, fun _ => HPU.out.2.1.rs, ?_⟩
        show AS _ _ _ _ _ _ _ _ _ _ _ _ _
        rw [HNX.out, ← List.append_assoc, ← HOO.out]
        exact HPU.out.2.1
    case done =>
      rintro D ys W hD hys hA hK'
      have HA := Lib.hid hA
      have HM : Hid (Mks w.heap.size (D :: Ds) W) := ⟨List.nodup_cons.2 ⟨fun h => by have := HDl.out D h; omega, hA.mks.1⟩, fun E hE => by
        rcases List.mem_cons.1 hE with rfl | hE
        · exact ⟨by omega, hK'⟩
        · exact hA.mks.2 E hE⟩
      have HN : Hid (oA ++ rowA a k (ys.map (·.1)) = allA a r s (k + 1)) := by show _ = _; rw [HAS.out, hys]
      clear hys hA hK' HB
      gi_wp2
      refine Handed.intro (n - (k + 1)) ?measure ?_
      case measure => omega
      refine hJ _ _ _ ⟨k + 1, D :: Ds, _, _, _, _, _, _, _, _, _, _, _, _, _, _, _, _, _, _, _, _, by omega, rfl, ?_⟩
      obtain ⟨v, h1, h2⟩ := HA.out.pl
      rw [HN.out] at h2
      exact Lib.hid ⟨HA.out.r4, HM.out, v, h1, h2⟩
    case stop =>
      rintro D c pre W _ _ h _
      exact h.elim
  · have hkz : ¬ (k : Int) < (n : Int) := by omega
    obtain rfl : k = n := by omega
    obtain ⟨h1, h2, v, h3, h4⟩ := HO.out
    have d9 := h3.cell 0
    simp only [List.getElem?_toArray, List.getElem?_cons_zero] at d9
    clear HO
    have H2 := Lib.hid h2
    have H4 := Lib.hid h4
    clear h1 h2 h3 h4
    gi_wp2
    refine leaves_marks (n₀ := w.heap.size) (Pr := PL w v (allA a r s k)) (fun W D hD hd hp => hp.kept (grownBy_putObj' W D _) fun q e => by cases e; exact ⟨hD, _, hd, rfl⟩) (fun W hp => ⟨_, results_tmp rfl _ _ _, v, rfl, hp⟩) Ds _ H2.out H4.out

end Go.Proofs.Ytacendjemomkfaa
