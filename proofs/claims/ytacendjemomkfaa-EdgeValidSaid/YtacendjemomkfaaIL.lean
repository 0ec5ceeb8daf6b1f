/-
  Slices of 64-bit integers and of bools: lists that are seen, lists of one's own.
-/
import Derived.Test.YtacendjemomkfaaInts
import Derived.Test.YtacendjemomkfaaAppAny
import Derived.Test.YtacendjemomkfaaRd
namespace Go.Proofs.Ytacendjemomkfaa
open Go.RowKit Go.ChangeShapes Go.WideShapes Go.Deep
set_option linter.unusedVariables false

/-- A slice of integers that is seen. -/
structure IS (w : World) (A : Option Addr) (n c : Nat) (l : List Int) : Prop where
  len : l.length = n
  cap : n ≤ c
  cmx : c ≤ maxLen
  see : Sees w w.heap.size A (ints l)
theorem IS.below {w w' : World} {A : Option Addr} {n c : Nat} {l : List Int} (h : IS w A n c l) (hb : Below w.heap.size w w') : IS w' A n c l := ⟨h.len, h.cap, h.cmx, (h.see.below hb).more hb.size⟩
theorem IS.at {w : World} {A : Option Addr} {n c : Nat} {l : List Int} (h : IS w A n c l) {k : Nat} (hk : k < n) : ∃ b o, A = some ⟨b, o, none⟩ ∧ b < w.heap.size ∧ w.cell? ⟨b, o + k, none⟩ = some (.int .i64 (l.getD k 0)) := by
  obtain ⟨b, o, e, hb, hc⟩ := ints_at h.see (k := k) (by rw [h.len]; exact hk)
  exact ⟨b, o, e, hb, by rw [hc]; simp [List.getD, h.len, hk]⟩

theorem info_i64 : ∃ i : TypeInfo, Try.prog.info? 2 = some i ∧ i.zero = some (.int .i64 0) ∧ i.size = 1 ∧ i.bytes = 8 := by
  have h := infoI64
  rcases hi : Try.prog.info? 2 with _ | i
  · rw [hi] at h; simp at h
  · rw [hi] at h
    simp only [Option.map_some, Option.some.injEq, Prod.mk.injEq] at h
    exact ⟨i, rfl, h.1, h.2.1, h.2.2⟩

/-- The value v is a slice of integers in memory of its own, new to the world w; of what was there nothing has turned. -/
structure IL (w : World) (v : Value) (l : List Int) (wr : World) : Prop where
  own : wr.ownsRow w.heap.size 2 1 v l.length (ints l)
  blw : Below w.heap.size w wr

section
variable {w wr w' : World} {v v' : Value} {l r : List Int} {A : Option Addr} {n m c : Nat}
theorem IL.nil (w : World) : IL w (.slice none 0 0) [] w := ⟨⟨by simp [ints], .inl ⟨rfl, rfl⟩⟩, Below.refl _ _⟩
theorem IL.next (h : IL w v l wr) (hb : Below wr.heap.size wr w') : IL w v l w' :=
  ⟨(Mods.of_below (S := No) hb).ownS h.own fun _ _ hs => hs.elim, h.blw.trans (hb.mono h.blw.size)⟩
theorem IL.base {w0 : World} (h : IL w v l wr) (hb : Below w0.heap.size w0 w) : IL w0 v l wr := ⟨ownS_base h.own hb.size, hb.trans (h.blw.mono hb.size)⟩
theorem IL.slice (h : IL w v l wr) : ∃ A c, v = .slice A l.length c ∧ l.length ≤ c ∧ c ≤ maxLen := ownS_slice h.own
theorem IL.sliceN (h : IL w v l wr) (hn : l.length = n) : ∃ A c, v = .slice A n c := by
  obtain ⟨A, c, e, _⟩ := h.slice
  exact ⟨A, c, by rw [e, hn]⟩
theorem IL.is (h : IL w (.slice A n c) l wr) : IS wr A n c l := by
  obtain ⟨A', c', e, h1, h2⟩ := h.slice
  injection e with e1 e2 e3
  subst e1 e2 e3
  exact ⟨rfl, h1, h2, sees_own h.own⟩
theorem IL.some_ (h : IL w (.slice A n c) l wr) (hn : 0 < n) : ∃ g, A = some ⟨g, 0, none⟩ := by
  rcases h.own.2 with ⟨e, _⟩ | ⟨g', cap, cur, hv, _⟩
  · injection e with _ e2 _
    omega
  · injection hv with e1 _ _
    exact ⟨g', e1⟩
theorem IL.frozen {g k : Nat} (h : IL w (.slice (some ⟨g, 0, none⟩) n c) l wr) : wr.frozen? ⟨g, k, none⟩ = false := own_frozen h.own rfl
theorem IL.put {g k : Nat} (h : IL w (.slice (some ⟨g, 0, none⟩) n c) l wr) (hn : l.length = n) (hk : k < n) (y : Int) : IL w (.slice (some ⟨g, 0, none⟩) n c) (l.set k y) (wr.setCell ⟨g, k, none⟩ (.int .i64 y)) := by
  subst hn
  have h1 := ownS_put h.own (g := g) rfl (j := k) (by rw [ints_length]; exact hk) (.int .i64 y)
  exact ⟨by rw [List.length_set, ints_set]; exact h1, h.blw.setCell (p := ⟨g, k, none⟩) (ownS_lt h.own g rfl).1 _⟩
theorem IL.join (h : IL w v l wr) (hn : l.length = n) (hm : r.length = m)
    (ho : w'.ownsRow w.heap.size 2 1 v' (n + m) (ints l ++ ints r)) (hg : wr.grownBy w' v.ownBlock) : IL w v' (l ++ r) w' := by
  subst hn hm
  exact ⟨by rw [ints_append, List.length_append]; exact ho, h.blw.grown hg h.blw.size fun k hk => (ownS_lt h.own k hk).1⟩
theorem IL.push {y : Int} {T : TypeId} (h : IL w v l wr) (hn : l.length = n)
    (ho : w'.ownsRow w.heap.size 2 1 v' (n + 1) (ints l ++ ints [y])) (hg : (wr.alloc (.cells #[.int .i64 y] T)).grownBy w' v.ownBlock) : IL w v' (l ++ [y]) w' := by
  subst hn
  refine ⟨by rw [ints_append, List.length_append]; exact ho, ?_⟩
  have hb : Below w.heap.size w (wr.alloc (.cells #[.int .i64 y] T)) := h.blw.alloc h.blw.size _
  exact hb.grown hg hb.size fun k hk => (ownS_lt h.own k hk).1
theorem IL.clone (hm : l.length = m) (ho : w'.ownsRow w.heap.size 2 1 v m (ints l)) (hg : (w.alloc (.cells #[] 2)).grownBy w' (Value.slice (some ⟨w.heap.size, 0, none⟩) 0 0).ownBlock) : IL w v l w' := by
  refine ⟨by rw [hm]; exact ho, ((Below.refl _ _).alloc (Nat.le_refl _) _).grown hg (by simp) (fun k hk => by simp [Value.ownBlock] at hk; omega)⟩
end

theorem IsRow.is {w : World} {a : Option Addr} {len cap : Nat} {zs : List Int} (h : IsRow .i64 w a len cap zs) : ∃ l : List Int, (∀ v ∈ l, InI v) ∧ IS w a len cap l := by
  obtain ⟨l, h1, h2, h3, h4, h5⟩ := h.ints
  exact ⟨l, h2, h1, h4, h5, h3⟩

theorem u8_nat {a : Int} (h : (Lit.int .u8 a).wf = true) : ∃ d : Nat, a = (d : Int) ∧ d < 256 := by
  obtain ⟨h1, h2⟩ := u8_of_wf h
  exact ⟨a.toNat, by omega, by omega⟩

end Go.Proofs.Ytacendjemomkfaa
