/-
  Slices of 64-bit integers and of bools: lists that are seen, lists of one's own.
-/
import Derived.Test.YtapdheabblgbaaaGreatPk1
namespace Go.Proofs.YtapdheabblgbaaaGreat
open Go.RowKit Go.ChangeShapes Go.WideShapes Go.Deep
set_option linter.unusedVariables false

/-- A slice of integers that is seen. -/
structure IS (w : World) (A : Option Addr) (n c : Nat) (l : List Int) : Prop where
  len : l.length = n
  cap : n ≤ c
  cmx : c ≤ maxLen
  see : Sees w w.heap.size A (ints l)
theorem IS.below {w w' : World} {A : Option Addr} {n c : Nat} {l : List Int} (h : IS w A n c l) (hb : Below w.heap.size w w') : IS w' A n c l := ⟨h.len, h.cap, h.cmx, (h.see.below hb).more hb.size⟩
theorem IS.at {w : World} {A : Option Addr} {n c : Nat} {l : List Int} (h : IS w A n c l) {k : Nat} (hk : k < n) : ∃ b o, A = some ⟨b, o, none⟩ ∧ b < w.heap.size ∧ w.cell? ⟨b, o + k, none⟩ = some (.int .i64 (l.getD k 0)) := by
  obtain ⟨b, o, e, hb, hc⟩ := ints_at h.see (k := k) (by rw [h.len]; exact hk)
  exact ⟨b, o, e, hb, by rw [hc]; simp [List.getD, h.len, hk]⟩

/-- The value v is a slice of integers in memory of its own, new to the world w; of what was there nothing has turned. -/
structure IL (w : World) (v : Value) (l : List Int) (wr : World) : Prop where
  own : wr.ownsRow w.heap.size 2 1 v l.length (ints l)
  blw : Below w.heap.size w wr

section
variable {w wr w' : World} {v v' : Value} {l r : List Int} {A : Option Addr} {n m c : Nat}
theorem IL.nil (w : World) : IL w (.slice none 0 0) [] w := ⟨⟨by simp [ints], .inl ⟨rfl, rfl⟩⟩, Below.refl _ _⟩
theorem IL.next (h : IL w v l wr) (hb : Below wr.heap.size wr w') : IL w v l w' :=
  ⟨(Mods.of_below (S := No) hb).ownS h.own fun _ _ hs => hs.elim, h.blw.trans (hb.mono h.blw.size)⟩
theorem IL.base {w0 : World} (h : IL w v l wr) (hb : Below w0.heap.size w0 w) : IL w0 v l wr := ⟨ownS_base h.own hb.size, hb.trans (h.blw.mono hb.size)⟩
theorem IL.slice (h : IL w v l wr) : ∃ A c, v = .slice A l.length c ∧ l.length ≤ c ∧ c ≤ maxLen := ownS_slice h.own
theorem IL.is (h : IL w (.slice A n c) l wr) : IS wr A n c l := by
  obtain ⟨A', c', e, h1, h2⟩ := h.slice
  injection e with e1 e2 e3
  subst e1 e2 e3
  exact ⟨rfl, h1, h2, sees_own h.own⟩
theorem IL.frozen {g k : Nat} (h : IL w (.slice (some ⟨g, 0, none⟩) n c) l wr) : wr.frozen? ⟨g, k, none⟩ = false := own_frozen h.own rfl
theorem IL.put {g k : Nat} (h : IL w (.slice (some ⟨g, 0, none⟩) n c) l wr) (hn : l.length = n) (hk : k < n) (y : Int) : IL w (.slice (some ⟨g, 0, none⟩) n c) (l.set k y) (wr.setCell ⟨g, k, none⟩ (.int .i64 y)) := by
  subst hn
  have h1 := ownS_put h.own (g := g) rfl (j := k) (by rw [ints_length]; exact hk) (.int .i64 y)
  exact ⟨by rw [List.length_set, ints_set]; exact h1, h.blw.setCell (p := ⟨g, k, none⟩) (ownS_lt h.own g rfl).1 _⟩
theorem IL.join (h : IL w v l wr) (hn : l.length = n) (hm : r.length = m)
    (ho : w'.ownsRow w.heap.size 2 1 v' (n + m) (ints l ++ ints r)) (hg : wr.grownBy w' v.ownBlock) : IL w v' (l ++ r) w' := by
  subst hn hm
  exact ⟨by rw [ints_append, List.length_append]; exact ho, h.blw.grown hg h.blw.size fun k hk => (ownS_lt h.own k hk).1⟩
theorem IL.push {y : Int} {T : TypeId} (h : IL w v l wr) (hn : l.length = n)
    (ho : w'.ownsRow w.heap.size 2 1 v' (n + 1) (ints l ++ ints [y])) (hg : (wr.alloc (.cells #[.int .i64 y] T)).grownBy w' v.ownBlock) : IL w v' (l ++ [y]) w' := by
  subst hn
  refine ⟨by rw [ints_append, List.length_append]; exact ho, ?_⟩
  have hb : Below w.heap.size w (wr.alloc (.cells #[.int .i64 y] T)) := h.blw.alloc h.blw.size _
  exact hb.grown hg hb.size fun k hk => (ownS_lt h.own k hk).1
theorem IL.clone (hm : l.length = m) (ho : w'.ownsRow w.heap.size 2 1 v m (ints l)) (hg : (w.alloc (.cells #[] 2)).grownBy w' (Value.slice (some ⟨w.heap.size, 0, none⟩) 0 0).ownBlock) : IL w v l w' := by
  refine ⟨by rw [hm]; exact ho, ((Below.refl _ _).alloc (Nat.le_refl _) _).grown hg (by simp) (fun k hk => by simp [Value.ownBlock] at hk; omega)⟩
end

theorem IsRow.is {w : World} {a : Option Addr} {len cap : Nat} {zs : List Int} (h : IsRow .i64 w a len cap zs) : ∃ l : List Int, (∀ v ∈ l, InI v) ∧ IS w a len cap l := by
  obtain ⟨l, h1, h2, h3, h4, h5⟩ := h.ints
  exact ⟨l, h2, h1, h4, h5, h3⟩

/-- A slice of bools that came in. -/
def IsBools (w : World) (a : Option Addr) (len cap : Nat) : Prop := len ≤ cap ∧ cap ≤ maxLen ∧ ∀ i, i < len → ∃ z b o, a = some ⟨b, o, none⟩ ∧ b < w.heap.size ∧ w.cell? ⟨b, o + i, none⟩ = some (.bool z)
theorem IsBools.of {H : Type} {enc : TypeId × Value → H} {w : World} {base : Nat} {spare : Nat → Bool} {held : Bool} {fuel : Nat} {a : Option Addr} {len cap : Nat} {x : DataW H × List MemPlace} (h : DataW.trod enc Tryz.prog w base spare held fuel 62 [.slice a len cap] = some x) : IsBools w a len cap := by
  obtain ⟨hl, hm, hi⟩ := trod_elems (s := 1) Tryz.underlying62 (by kernel_rfl) (by decide) h
  refine ⟨hl, hm, fun i hil => ?_⟩
  obtain ⟨b, o, n, cs, z, rfl, hlt, hcl, hat, ht⟩ := hi i hil
  obtain ⟨z, rfl, _⟩ := DataW.trod_bool Tryz.underlying4 ht
  exact ⟨z, b, o, rfl, hlt, by simpa using hat 0 (by decide)⟩

end Go.Proofs.YtapdheabblgbaaaGreat
