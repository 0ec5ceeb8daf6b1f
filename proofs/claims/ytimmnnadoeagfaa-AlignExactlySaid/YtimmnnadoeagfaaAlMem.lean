/-
  What memory shows of instructions, machine instructions and rows.
-/
import Derived.Test.YtimmnnadoeagfaaRecL
import Derived.Test.YtimmnnadoeagfaaAlMath
namespace Go.Proofs.Ytimmnnadoeagfaa
open Go.RowKit
set_option linter.unusedVariables false

def Rw.cells (x : Rw) : List Value := [.int .i64 x.cf, .int .i64 x.ct, .int .i64 x.mf, .int .i64 x.mt, .int .i64 x.s, .int .i64 x.m]
/-- A row's six cells. -/
structure Rw.At (w : World) (b o : Nat) (x : Rw) : Prop where
  c0 : w.cell? ⟨b, o, none⟩ = some (.int .i64 x.cf)
  c1 : w.cell? ⟨b, o + 1, none⟩ = some (.int .i64 x.ct)
  c2 : w.cell? ⟨b, o + 2, none⟩ = some (.int .i64 x.mf)
  c3 : w.cell? ⟨b, o + 3, none⟩ = some (.int .i64 x.mt)
  c4 : w.cell? ⟨b, o + 4, none⟩ = some (.int .i64 x.s)
  c5 : w.cell? ⟨b, o + 5, none⟩ = some (.int .i64 x.m)
/-- The slice address A shows these rows, below block B. -/
def RwsAt (w : World) (B : Nat) (A : Option Addr) (xs : List Rw) : Prop :=
  xs ≠ [] → ∃ b o, A = some ⟨b, o, none⟩ ∧ b < B ∧ ∀ (i : Nat) (x : Rw), xs[i]? = some x → x.At w b (o + i * 6)

theorem in_len (x : In) : x.cells.length = 5 := rfl
theorem mi_len (x : Mi) : x.cells.length = 7 := rfl
theorem rw_len (x : Rw) : x.cells.length = 6 := rfl
theorem in_one (x : In) : ∀ u ∈ x.cells, u.oneCell' = true := fun u hu => by
  simp only [In.cells, List.mem_cons, List.not_mem_nil, or_false] at hu
  rcases hu with rfl | rfl | rfl | rfl | rfl <;> rfl
theorem mi_one (x : Mi) : ∀ u ∈ x.cells, u.oneCell' = true := fun u hu => by
  simp only [Mi.cells, List.mem_cons, List.not_mem_nil, or_false] at hu
  rcases hu with rfl | rfl | rfl | rfl | rfl | rfl | rfl <;> rfl
theorem rw_one (x : Rw) : ∀ u ∈ x.cells, u.oneCell' = true := fun u hu => by
  simp only [Rw.cells, List.mem_cons, List.not_mem_nil, or_false] at hu
  rcases hu with rfl | rfl | rfl | rfl | rfl | rfl <;> rfl

section
variable {w w' : World} {B B' : Nat} {A : Option Addr} {b o : Nat}
theorem flat_ne {α : Type} {f : α → List Value} {s : Nat} (hs : ∀ x, (f x).length = s) (h0 : 0 < s) {l : List α} (hn : l ≠ []) : l.flatMap f ≠ [] := fun e => by
  have := congrArg List.length e
  rw [flatS_len hs] at this
  rcases l with _ | ⟨x, r⟩
  · exact hn rfl
  · rw [List.length_cons, Nat.succ_mul] at this
    simp at this
    omega
theorem InsAt.of_sees {xs : List In} (h : Sees w B A (xs.flatMap In.cells)) : InsAt w B A xs := fun hn => by
  obtain ⟨b, o, e, hb, hc⟩ := h (flat_ne in_len (by decide) hn)
  refine ⟨b, o, e, hb, fun i x hx => ?_⟩
  have hg := flat_get In.cells 5 (fun _ => rfl) xs i x hx
  have g := fun j u hu => hc _ _ (hg j u hu)
  refine ⟨?_, ?_, ?_, ?_, ?_⟩
  · exact g 0 _ rfl
  · rw [Nat.add_assoc]; exact g 1 _ rfl
  · rw [Nat.add_assoc]; exact g 2 _ rfl
  · rw [Nat.add_assoc]; exact g 3 _ rfl
  · rw [Nat.add_assoc]; exact g 4 _ rfl
theorem MisAt.of_sees {xs : List Mi} (h : Sees w B A (xs.flatMap Mi.cells)) (hok : ∀ x ∈ xs, x.Ok) : MisAt w B A xs := fun hn => by
  obtain ⟨b, o, e, hb, hc⟩ := h (flat_ne mi_len (by decide) hn)
  refine ⟨b, o, e, hb, fun i x hx => ?_⟩
  have hg := flat_get Mi.cells 7 (fun _ => rfl) xs i x hx
  have g := fun j u hu => hc _ _ (hg j u hu)
  refine ⟨hok x (List.mem_of_getElem? hx), ?_, ?_, ?_, ?_, ?_, ?_, ?_⟩
  · exact g 0 _ rfl
  · rw [Nat.add_assoc]; exact g 1 _ rfl
  · rw [Nat.add_assoc]; exact g 2 _ rfl
  · rw [Nat.add_assoc]; exact g 3 _ rfl
  · rw [Nat.add_assoc]; exact g 4 _ rfl
  · rw [Nat.add_assoc]; exact g 5 _ rfl
  · rw [Nat.add_assoc]; exact g 6 _ rfl
theorem RwsAt.of_sees {xs : List Rw} (h : Sees w B A (xs.flatMap Rw.cells)) : RwsAt w B A xs := fun hn => by
  obtain ⟨b, o, e, hb, hc⟩ := h (flat_ne rw_len (by decide) hn)
  refine ⟨b, o, e, hb, fun i x hx => ?_⟩
  have hg := flat_get Rw.cells 6 (fun _ => rfl) xs i x hx
  have g := fun j u hu => hc _ _ (hg j u hu)
  refine ⟨?_, ?_, ?_, ?_, ?_, ?_⟩
  · exact g 0 _ rfl
  · rw [Nat.add_assoc]; exact g 1 _ rfl
  · rw [Nat.add_assoc]; exact g 2 _ rfl
  · rw [Nat.add_assoc]; exact g 3 _ rfl
  · rw [Nat.add_assoc]; exact g 4 _ rfl
  · rw [Nat.add_assoc]; exact g 5 _ rfl
theorem RwsAt.keep {xs : List Rw} (h : RwsAt w B A xs) (hk : ∀ p : Addr, p.block < B → w'.cell? p = w.cell? p) : RwsAt w' B A xs := fun hn => by
  obtain ⟨b, o, e, hb, hc⟩ := h hn
  exact ⟨b, o, e, hb, fun i x hx => ⟨(hk ⟨b, _, none⟩ hb).trans (hc i x hx).c0, (hk ⟨b, _, none⟩ hb).trans (hc i x hx).c1, (hk ⟨b, _, none⟩ hb).trans (hc i x hx).c2, (hk ⟨b, _, none⟩ hb).trans (hc i x hx).c3, (hk ⟨b, _, none⟩ hb).trans (hc i x hx).c4, (hk ⟨b, _, none⟩ hb).trans (hc i x hx).c5⟩⟩
theorem RwsAt.more {xs : List Rw} (h : RwsAt w B A xs) (hB : B ≤ B') : RwsAt w B' A xs := fun hn => by
  obtain ⟨b, o, e, hb, hc⟩ := h hn
  exact ⟨b, o, e, by omega, hc⟩
theorem RwsAt.below {xs : List Rw} (h : RwsAt w B A xs) (hb : Below B w w') : RwsAt w' B A xs := h.keep fun _ hp => hb.cell hp
theorem RwsAt.at_ {xs : List Rw} (h : RwsAt w B A xs) {i : Nat} (hi : i < xs.length) : ∃ b o, A = some ⟨b, o, none⟩ ∧ b < B ∧ xs[i].At w b (o + i * 6) := by
  obtain ⟨b, o, e, hb, hc⟩ := h (by intro e; subst e; simp at hi)
  exact ⟨b, o, e, hb, hc i _ (List.getElem?_eq_getElem hi)⟩
theorem InsAt.sees {xs : List In} (h : InsAt w B A xs) : Sees w B A (xs.flatMap In.cells) := fun hn => by
  obtain ⟨b, o, e, hb, hc⟩ := h (by rintro rfl; exact hn rfl)
  refine ⟨b, o, e, hb, fun i u hu => ?_⟩
  obtain ⟨k, j, x, h1, h2, rfl⟩ := flat_inv In.cells 5 (fun _ => rfl) xs i u hu
  have hx := hc k x h1
  have hj : j < 5 := (List.getElem?_eq_some_iff.1 h2).1
  rcases (by omega : j = 0 ∨ j = 1 ∨ j = 2 ∨ j = 3 ∨ j = 4) with rfl | rfl | rfl | rfl | rfl
  · rw [← h2]; exact hx.c0
  · rw [← h2, ← Nat.add_assoc]; exact hx.c1
  · rw [← h2, ← Nat.add_assoc]; exact hx.c2
  · rw [← h2, ← Nat.add_assoc]; exact hx.c3
  · rw [← h2, ← Nat.add_assoc]; exact hx.c4
theorem MisAt.sees {xs : List Mi} (h : MisAt w B A xs) : Sees w B A (xs.flatMap Mi.cells) := fun hn => by
  obtain ⟨b, o, e, hb, hc⟩ := h (by rintro rfl; exact hn rfl)
  refine ⟨b, o, e, hb, fun i u hu => ?_⟩
  obtain ⟨k, j, x, h1, h2, rfl⟩ := flat_inv Mi.cells 7 (fun _ => rfl) xs i u hu
  have hx := hc k x h1
  have hj : j < 7 := (List.getElem?_eq_some_iff.1 h2).1
  rcases (by omega : j = 0 ∨ j = 1 ∨ j = 2 ∨ j = 3 ∨ j = 4 ∨ j = 5 ∨ j = 6) with rfl | rfl | rfl | rfl | rfl | rfl | rfl
  · rw [← h2]; exact hx.c0
  · rw [← h2, ← Nat.add_assoc]; exact hx.c1
  · rw [← h2, ← Nat.add_assoc]; exact hx.c2
  · rw [← h2, ← Nat.add_assoc]; exact hx.c3
  · rw [← h2, ← Nat.add_assoc]; exact hx.c4
  · rw [← h2, ← Nat.add_assoc]; exact hx.c5
  · rw [← h2, ← Nat.add_assoc]; exact hx.c6
theorem MisAt.ok {xs : List Mi} (h : MisAt w B A xs) : ∀ x ∈ xs, x.Ok := fun x hx => by
  obtain ⟨b, o, e, hb, hc⟩ := h (by rintro rfl; simp at hx)
  obtain ⟨i, hi⟩ := List.mem_iff_getElem?.1 hx
  exact (hc i x hi).ok
/-- The cut of a slice from k on: its address as the model writes it. -/
theorem InsAt.drop {xs : List In} {b o : Nat} (h : InsAt w B (some ⟨b, o, none⟩) xs) (k : Nat) : InsAt w B (some ⟨b, o + k * 5, none⟩) (xs.drop k) := fun hn => by
  obtain ⟨b', o', e, hb, hc⟩ := h (by intro e; subst e; simp at hn)
  injection e with e
  injection e with e1 e2
  subst e1
  subst e2
  refine ⟨b, o + k * 5, rfl, hb, fun i x hx => ?_⟩
  rw [List.getElem?_drop] at hx
  have := hc _ x hx
  rwa [show o + (k + i) * 5 = o + k * 5 + i * 5 by omega] at this
end

/-- A source block that is seen. -/
structure CS (w : World) (A : Option Addr) (n c : Nat) (l : List In) : Prop where
  len : l.length = n
  cap : n ≤ c
  cmx : c ≤ maxLen
  see : InsAt w w.heap.size A l
theorem CS.below {w w' : World} {A : Option Addr} {n c : Nat} {l : List In} (h : CS w A n c l) (hb : Below w.heap.size w w') : CS w' A n c l := ⟨h.len, h.cap, h.cmx, (h.see.below hb).more hb.size⟩
/-- An allocated block that is seen. -/
structure MS (w : World) (A : Option Addr) (n c : Nat) (l : List Mi) : Prop where
  len : l.length = n
  cap : n ≤ c
  cmx : c ≤ maxLen
  see : MisAt w w.heap.size A l
theorem MS.below {w w' : World} {A : Option Addr} {n c : Nat} {l : List Mi} (h : MS w A n c l) (hb : Below w.heap.size w w') : MS w' A n c l := ⟨h.len, h.cap, h.cmx, (h.see.below hb).more hb.size⟩
theorem RL.cs {T : TypeId} {w wr : World} {A : Option Addr} {n c : Nat} {l : List In} (h : RL In.cells 5 T w (.slice A n c) l wr) : CS wr A n c l := by
  obtain ⟨A', c', e, h1, h2⟩ := h.slice
  injection e with e1 e2 e3
  subst e1 e2 e3
  exact ⟨rfl, h1, h2, InsAt.of_sees h.sees⟩
theorem RL.ms {T : TypeId} {w wr : World} {A : Option Addr} {n c : Nat} {l : List Mi} (h : RL Mi.cells 7 T w (.slice A n c) l wr) (hok : ∀ x ∈ l, x.Ok) : MS wr A n c l := by
  obtain ⟨A', c', e, h1, h2⟩ := h.slice
  injection e with e1 e2 e3
  subst e1 e2 e3
  exact ⟨rfl, h1, h2, MisAt.of_sees h.sees hok⟩

end Go.Proofs.Ytimmnnadoeagfaa
