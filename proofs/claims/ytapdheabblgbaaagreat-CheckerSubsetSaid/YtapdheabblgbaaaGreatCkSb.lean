/-
  What the walk of the statement on subsets carries; a list of a copied certificate is replaced.
-/
import Derived.Test.YtapdheabblgbaaaGreatCkSub
import Derived.Test.YtapdheabblgbaaaGreatCkOwn
import Derived.Test.YtapdheabblgbaaaGreatCkXl
namespace Go.Proofs.YtapdheabblgbaaaGreat
open Go.RowKit
set_option linter.unusedVariables false
set_option linter.unusedSimpArgs false

theorem Row.ne {W : World} {p q : Nat} {T T' : TypeId} {cs cs' : Array Value} (h : Row W p T cs) (h' : Row W q T' cs') (hT : T ≠ T') : p ≠ q := by
  intro e
  subst e
  unfold Row at h h'
  rw [h] at h'
  injection h' with h'
  injection h' with h1 h2
  exact hT h2

/-- The block of the outer slice. -/
theorem pp_block {W : World} {base : Nat} {A : Option Addr} {cap : Nat} {vs : List Value} {xs : List (List Pr)} (h : NestV pshp W base (.slice A xs.length cap) vs xs) (hne : 0 < xs.length) :
    ∃ (g : Nat) (cur : Array Value), A = some ⟨g, 0, none⟩ ∧ base ≤ g ∧ Row W g 50 cur ∧ xs.length ≤ cur.size := by
  have ho := h.outer
  rw [h.len] at ho
  rcases ho.2 with ⟨e, h0⟩ | ⟨g, cp, cur, e, hg, hh, h1, h2, h3, h4⟩
  · omega
  · injection e with e1 e2 e3
    subst e1 e3
    exact ⟨g, cur, rfl, hg, hh, by rw [h3]; show _ ≤ cap * 1; omega⟩
theorem NestV.repl {W : World} {base g k : Nat} {v u : Value} {vs : List Value} {xs : List (List Pr)} {l : List Pr} (h : NestV pshp W base v vs xs) (hg : v.ownBlock = some g) (hk : k < xs.length) (hu : W.ownsRow base 59 2 u l.length (prs l)) (hnew : ∀ q, u.ownBlock = some q → ∀ (i : Nat) (u' : Value), vs[i]? = some u' → u'.ownBlock ≠ some q) :
    NestV pshp (W.setCell ⟨g, k, none⟩ u) base v (vs.set k u) (xs.set k l) := by
  have hm := (Mods.refl (Is g) W).put k u
  have hkv : k < vs.length := by rw [h.len]; exact hk
  have ho := h.outer
  rw [pp_flat vs xs h.len] at ho
  refine ⟨?_, by rw [List.length_set, List.length_set, h.len], fun i u' x hu' hx => ?_, fun i j a b q ha hb hqa hqb => ?_⟩
  · rw [pp_flat _ _ (by rw [List.length_set, List.length_set, h.len]), List.length_set]
    exact ownS_put ho hg hkv u
  · by_cases e : i = k
    · subst e
      rw [List.getElem?_set_self hkv] at hu'
      rw [List.getElem?_set_self hk] at hx
      injection hu' with hu'
      injection hx with hx
      subst hu' hx
      exact hm.ownS hu fun q hq e => by
        have : q = g := e
        subst this
        exact ownS_ne ho hu (by decide) q hg hq
    · rw [List.getElem?_set_ne (fun e9 => e e9.symm)] at hu' hx
      have hin := h.inner i u' x hu' hx
      exact hm.ownS hin fun q hq e => by
        have : q = g := e
        subst this
        exact ownS_ne ho hin (by decide) q hg hq
  · by_cases ei : i = k <;> by_cases ej : j = k
    · omega
    · subst ei
      rw [List.getElem?_set_self hkv] at ha
      rw [List.getElem?_set_ne (fun e9 => ej e9.symm)] at hb
      injection ha with ha
      subst ha
      exact absurd hqb (hnew q hqa j b hb)
    · subst ej
      rw [List.getElem?_set_self hkv] at hb
      rw [List.getElem?_set_ne (fun e9 => ei e9.symm)] at ha
      injection hb with hb
      subst hb
      exact absurd hqa (hnew q hqb i a ha)
    · rw [List.getElem?_set_ne (fun e9 => ei e9.symm)] at ha
      rw [List.getElem?_set_ne (fun e9 => ej e9.symm)] at hb
      exact h.dist i j a b q ha hb hqa hqb

/-- The certificate, its changed copy, the list that has come into it. -/
structure SB (w : World) (ob B0 : Nat) (A1 : Option Addr) (k1 : Nat) (A2 : Option Addr) (k2 : Nat) (A3 : Option Addr) (k3 : Nat) (Av1 : Option Addr) (cv1 : Nat) (Av2 : Option Addr) (cv2 : Nat) (Av3 : Option Addr) (cv3 : Nat) (Al : Option Addr) (c : Ct) (k : Nat) (l : List Pr) (W : World) : Prop where
  ck : CeK w w.heap.size A1 k1 A2 k2 A3 k3 c W
  row : Row W ob 30 #[.int .i64 c.sa, .int .i64 c.sr, .slice Av1 c.bs.length cv1, .int .i64 c.ta, .int .i64 c.tr, .int .i64 c.ts, .slice Av2 c.ms.length cv2, .slice Av3 c.inv.length cv3]
  lo : B0 ≤ W.heap.size
  see : CeAt W B0 Av1 cv1 Av2 cv2 Av3 cv3 (c.sub k l)
  ls : Sees W B0 Al (prs l)
/-- Beside it: the result of a block's check in a block of its own, its list. -/
structure XS (w : World) (ob B0 : Nat) (A1 : Option Addr) (k1 : Nat) (A2 : Option Addr) (k2 : Nat) (A3 : Option Addr) (k3 : Nat) (Av1 : Option Addr) (cv1 : Nat) (Av2 : Option Addr) (cv2 : Nat) (Av3 : Option Addr) (cv3 : Nat) (Al : Option Addr) (c : Ct) (k : Nat) (l : List Pr) (xb : Nat) (A : Option Addr) (cc : Nat) (x : Rs) (W : World) : Prop where
  sb : SB w ob B0 A1 k1 A2 k2 A3 k3 Av1 cv1 Av2 cv2 Av3 cv3 Al c k l W
  row : Row W xb 52 #[.slice A x.out.length cc, .int .i64 x.err, .int .i64 (x.at_ : Int), .int .i64 (x.steps : Int), .int .i64 (x.largest : Int)]
  pl : PL w (.slice A x.out.length cc) x.out W
section
variable {w W W' W0 : World} {ob B0 k : Nat} {A1 : Option Addr} {k1 : Nat} {A2 : Option Addr} {k2 : Nat} {A3 : Option Addr} {k3 : Nat} {c : Ct} {Av1 : Option Addr} {cv1 : Nat} {Av2 : Option Addr} {cv2 : Nat} {Av3 : Option Addr} {cv3 : Nat} {Al : Option Addr} {l : List Pr} {xb : Nat} {A : Option Addr} {cc : Nat} {x : Rs}
theorem SB.next (h : SB w ob B0 A1 k1 A2 k2 A3 k3 Av1 cv1 Av2 cv2 Av3 cv3 Al c k l W) (hb : Below W.heap.size W W') : SB w ob B0 A1 k1 A2 k2 A3 k3 Av1 cv1 Av2 cv2 Av3 cv3 Al c k l W' :=
  ⟨h.ck.next hb, h.row.below hb h.row.lt, Nat.le_trans h.lo hb.size, h.see.below (hb.mono h.lo), h.ls.below (hb.mono h.lo)⟩
theorem XS.next (h : XS w ob B0 A1 k1 A2 k2 A3 k3 Av1 cv1 Av2 cv2 Av3 cv3 Al c k l xb A cc x W) (hb : Below W.heap.size W W') : XS w ob B0 A1 k1 A2 k2 A3 k3 Av1 cv1 Av2 cv2 Av3 cv3 Al c k l xb A cc x W' := ⟨h.sb.next hb, h.row.below hb h.row.lt, h.pl.next hb⟩
theorem XS.of {z0 z1 z2 z3 z4 : Value} (h : SB w ob B0 A1 k1 A2 k2 A3 k3 Av1 cv1 Av2 cv2 Av3 cv3 Al c k l W0) (hb : Below W0.heap.size W0 W) (hp : PL w (.slice A x.out.length cc) x.out W) (hr : Row W xb 52 #[z0, z1, z2, z3, z4]) (hlt : W0.heap.size ≤ xb) (hT : 59 ≠ 52) :
    XS w ob B0 A1 k1 A2 k2 A3 k3 Av1 cv1 Av2 cv2 Av3 cv3 Al c k l xb A cc x (((((W.setCell ⟨xb, 0, none⟩ (.slice A x.out.length cc)).setCell ⟨xb, 1, none⟩ (.int .i64 x.err)).setCell ⟨xb, 2, none⟩ (.int .i64 (x.at_ : Int))).setCell ⟨xb, 3, none⟩ (.int .i64 (x.steps : Int))).setCell ⟨xb, 4, none⟩ (.int .i64 (x.largest : Int))) :=
  ⟨h.next (blw5 hlt hb _ _ _ _ _), hr.put5 _ _ _ _ _, hp.put_at hr hT (by have := h.ck.blw.size; omega) (mods5 W xb _ _ _ _ _)⟩
end

end Go.Proofs.YtapdheabblgbaaaGreat
