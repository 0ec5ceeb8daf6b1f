import Derived.Test.YtkapmfopfddmbaaGreatPk2
import Derived.Test.YtkapmfopfddmbaaGreatPk15
import Derived.Test.YtkapmfopfddmbaaGreatPk1
import Derived.Test.YtkapmfopfddmbaaGreatMacCopy
import Derived.Test.YtkapmfopfddmbaaGreatPk3

/-
  Lists of lists of pairs of one's own, as memory shows them (taken out of XCkCopy and XCkOwn).
-/
namespace Go.Proofs.YtkapmfopfddmbaaGreat
open Go.RowKit
set_option linter.unusedVariables false
set_option linter.unusedSimpArgs false

/-- Lists of pairs as elements. -/
def pshp : Shp (List Pr) where
  eo := 47
  ei := 86
  so := 1
  si := 2
  oc := fun u _ => [u]
  ic := prs
  il := List.length
  ne := by decide
  hoc := fun _ _ => rfl

theorem poc_one (y : List Pr) (A : Option Addr) (n c : Nat) : ∀ u ∈ pshp.oc (.slice A n c) y, u.oneCell' = true := by
  intro u hu
  simp only [pshp, List.mem_cons, List.not_mem_nil, or_false] at hu
  subst hu
  rfl

theorem infoPl : (Tryz.prog.info? 47).map (fun i => (i.zero, i.size, i.bytes)) = some (some (.slice none 0 0), 1, 24) := by kernel_rfl

theorem pp_flat (vs : List Value) (xs : List (List Pr)) (h : vs.length = xs.length) : ((vs.zip xs).flatMap fun p => pshp.oc p.1 p.2) = vs := by
  induction vs generalizing xs with
  | nil => rfl
  | cons v vs ih =>
    rcases xs with _ | ⟨x, xs⟩
    · cases h
    · rw [List.zip_cons_cons, List.flatMap_cons, ih xs (by simpa using h)]
      rfl

theorem nest_pp {w : World} {base : Nat} {v : Value} {vs : List Value} {xs : List (List Pr)} (h : NestV pshp w base v vs xs) : ∃ A c, v = .slice A xs.length c ∧ xs.length ≤ c ∧ c ≤ maxLen ∧ SeesPP w w.heap.size A xs := by
  have ho := h.outer
  obtain ⟨A, c, rfl, h1, h2⟩ := ownS_slice ho
  rw [h.len] at h1
  refine ⟨A, c, by rw [h.len], h1, h2, vs, ?_, h.len, fun i x hx => ?_⟩
  · have := sees_own ho
    rw [pp_flat vs xs h.len] at this
    exact this
  · have hi : i < vs.length := by rw [h.len]; exact (List.getElem?_eq_some_iff.1 hx).1
    have hu : vs[i]? = some vs[i] := List.getElem?_eq_getElem hi
    have hin := h.inner i _ x hu hx
    obtain ⟨A', c', e, h3, h4⟩ := ownS_slice hin
    rw [e] at hin
    exact ⟨A', c', by rw [hu, e]; rfl, h3, h4, sees_own hin⟩

end Go.Proofs.YtkapmfopfddmbaaGreat

/-
  An own list lies in another block than a row of another type.
-/
namespace Go.Proofs.YtkapmfopfddmbaaGreat
open Go.RowKit
set_option linter.unusedVariables false

theorem own_row_neS {w : World} {lo n p sz : Nat} {e T : TypeId} {v : Value} {xs : List Value} {cs : Array Value} (h : w.ownsRow lo e sz v n xs) (hr : Row w p T cs) (hT : e ≠ T) : ∀ k, v.ownBlock = some k → ¬ k = p := by
  intro k hk e1
  subst e1
  rcases h.2 with ⟨rfl, _⟩ | ⟨a, cap, cur, rfl, _, h1, _⟩
  · cases hk
  · simp only [Value.ownBlock, Option.some.injEq] at hk
    subst hk
    unfold Row at hr
    rw [h1] at hr
    simp only [Option.some.injEq, Obj.cells.injEq] at hr
    exact hT hr.2.1

end Go.Proofs.YtkapmfopfddmbaaGreat

/-
  An own allocated function's blocks, as memory shows them (taken out of XCkOwn).
-/
namespace Go.Proofs.YtkapmfopfddmbaaGreat
open Go.RowKit
set_option linter.unusedVariables false

theorem nest_mblks {w : World} {base : Nat} {v : Value} {vs : List Value} {bs : List MBlk} (h : NestV mshp w base v vs bs) (hok : ∀ x ∈ bs, ∀ y ∈ x.code, y.Ok) : ∃ A c, v = .slice A bs.length c ∧ bs.length ≤ c ∧ c ≤ maxLen ∧ MBlksAt w w.heap.size A bs := by
  have ho := h.outer
  obtain ⟨A, c, rfl, h1, h2⟩ := ownS_slice ho
  rw [h.len] at h1
  refine ⟨A, c, by rw [h.len], h1, h2, fun hn => ?_⟩
  have hg := flat_get (fun p : Value × MBlk => mshp.oc p.1 p.2) 5 (fun _ => rfl) (vs.zip bs)
  have hz : ∀ i x, bs[i]? = some x → ∃ u, vs[i]? = some u ∧ (vs.zip bs)[i]? = some (u, x) := fun i x hx => by
    have hi : i < bs.length := (List.getElem?_eq_some_iff.1 hx).1
    have hi' : i < vs.length := by rw [h.len]; exact hi
    refine ⟨vs[i], List.getElem?_eq_getElem hi', ?_⟩
    rw [List.getElem?_zip_eq_some]
    exact ⟨List.getElem?_eq_getElem hi', hx⟩
  have hne : (vs.zip bs).flatMap (fun p => mshp.oc p.1 p.2) ≠ [] := by
    rcases bs with _ | ⟨x, r⟩
    · exact absurd rfl hn
    · obtain ⟨u, _, hu⟩ := hz 0 x rfl
      intro e
      have := hg 0 (u, x) hu 0 u rfl
      rw [e] at this
      cases this
  obtain ⟨b, o, e, hb, hc⟩ := sees_own ho hne
  refine ⟨b, o, e, hb, fun i x hx => ?_⟩
  obtain ⟨u, hu, hux⟩ := hz i x hx
  have hin := h.inner i u x hu hx
  obtain ⟨A', c', rfl, h3, h4⟩ := ownS_slice hin
  refine ⟨⟨A', c', hc _ _ (hg i _ hux 0 _ rfl), h3, h4, MisAt.of_own hin (hok x (List.mem_of_getElem? hx))⟩, ?_, ?_, ?_, ?_⟩
  · rw [Nat.add_assoc]; exact hc _ _ (hg i _ hux 1 _ rfl)
  · rw [Nat.add_assoc]; exact hc _ _ (hg i _ hux 2 _ rfl)
  · rw [Nat.add_assoc]; exact hc _ _ (hg i _ hux 3 _ rfl)
  · rw [Nat.add_assoc]; exact hc _ _ (hg i _ hux 4 _ rfl)

end Go.Proofs.YtkapmfopfddmbaaGreat

/-
  What memory shows of a certificate that Copy has made.
-/
namespace Go.Proofs.YtkapmfopfddmbaaGreat
open Go.RowKit
set_option linter.unusedVariables false
set_option linter.unusedSimpArgs false

theorem mis_fit {w : World} {B : Nat} {A : Option Addr} {xs : List Mi} (h : MisAt w B A xs) : ∀ y ∈ xs, y.Ok := fun y hy => by
  obtain ⟨i, hi, rfl⟩ := List.getElem_of_mem hy
  obtain ⟨b, o, _, _, hc⟩ := h.at_ hi
  exact hc.ok

theorem mblks_fit {w : World} {B : Nat} {A : Option Addr} {xs : List MBlk} (h : MBlksAt w B A xs) : ∀ x ∈ xs, ∀ y ∈ x.code, y.Ok := fun x hx => by
  obtain ⟨i, hi, rfl⟩ := List.getElem_of_mem hx
  obtain ⟨b, o, _, _, hc⟩ := h.at_ hi
  obtain ⟨A, c, _, _, _, h4⟩ := hc.code
  exact mis_fit h4

/-- A copied certificate, seen. -/
theorem ceAt_own {w : World} {base : Nat} {Av1 Av2 Av3 : Option Addr} {cv1 cv2 cv3 : Nat} {vs1 vs2 vs3 : List Value} {c : Ct} {inv : List (List Pr)} (h1 : NestV bshp w base (.slice Av1 c.bs.length cv1) vs1 c.bs) (h2 : NestV mshp w base (.slice Av2 c.ms.length cv2) vs2 c.ms) (h3 : NestV pshp w base (.slice Av3 inv.length cv3) vs3 inv) (hok : ∀ x ∈ c.ms, ∀ y ∈ x.code, y.Ok) :
    CeAt w w.heap.size Av1 cv1 Av2 cv2 Av3 cv3 { c with inv := inv } := by
  obtain ⟨A1, c1, e1, p1, q1, r1⟩ := nest_blks h1
  obtain ⟨A2, c2, e2, p2, q2, r2⟩ := nest_mblks h2 hok
  obtain ⟨A3, c3, e3, p3, q3, r3⟩ := nest_pp h3
  injection e1 with a1 _ b1
  injection e2 with a2 _ b2
  injection e3 with a3 _ b3
  subst a1 a2 a3 b1 b2 b3
  exact ⟨r1, r2, r3, ⟨p1, q1⟩, ⟨p2, q2⟩, ⟨p3, q3⟩⟩

end Go.Proofs.YtkapmfopfddmbaaGreat
