/-
  The names and shapes of opcodes, and the program's table of names in memory.
-/
import Derived.Test.YtfkknebjhcafhaaBase
import Derived.Lib.LaidTab
import Derived.LaidMore
import Derived.OpenShut
namespace Go.Proofs.Ytfkknebjhcafhaa
open Go.RowKit

/-- The names, by opcode. -/
def nmL : List (List UInt8) := [[], [99, 111, 110, 115, 116], [99, 111, 112, 121], [110, 101, 103], [110, 111, 116], [97, 100, 100], [115, 117, 98], [109, 117, 108], [100, 105, 118], [114, 101, 109], [97, 110, 100], [111, 114], [120, 111, 114], [115, 104, 108], [115, 104, 114], [101, 113], [108, 101, 115, 115], [101, 109, 105, 116], [109, 111, 118, 101]]
def nm (i : Nat) : List UInt8 := nmL.getD i []
def nmB (i : Nat) : ByteArray := ⟨(nm i).toArray⟩
theorem nmB_list (i : Nat) : (nmB i).toList = nm i := by rw [ByteArray.toList_eq]; rfl
theorem nmB_data (i : Nat) : (nmB i).data.toList = nm i := rfl

/-- The name of a number. -/
def nameB (op : Int) : ByteArray := if 1 ≤ op ∧ op ≤ 18 then nmB op.toNat else ⟨#[]⟩
theorem nameB_in {op : Int} (h : 1 ≤ op ∧ op ≤ 18) : nameB op = nmB op.toNat := by rw [nameB, if_pos h]
theorem nameB_out {op : Int} (h : ¬ (1 ≤ op ∧ op ≤ 18)) : nameB op = ⟨#[]⟩ := by rw [nameB, if_neg h]

/-- The opcode of a name. -/
def fnd (l : List UInt8) : Nat := ((List.range 19).find? fun k => nm k == l).getD 0
theorem fnd_nm {k : Nat} (h : k < 19) : fnd (nm k) = k := (by decide : ∀ k < 19, fnd (nm k) = k) k h
theorem fnd_hit {k : Nat} {l : List UInt8} (h : k < 19) (e : nm k = l) : fnd l = k := by subst e; exact fnd_nm h
theorem fnd_miss {l : List UInt8} (h : ∀ k, k < 19 → nm k ≠ l) : fnd l = 0 := by
  unfold fnd
  rw [List.find?_eq_none.2 fun k hk => by simpa using h k (List.mem_range.1 hk)]
  rfl
theorem fnd_cases (l : List UInt8) : (fnd l < 19 ∧ nm (fnd l) = l) ∨ fnd l = 0 := by
  by_cases h : ∃ k, k < 19 ∧ nm k = l
  · obtain ⟨k, hk, e⟩ := h
    rw [fnd_hit hk e]
    exact .inl ⟨hk, e⟩
  · exact .inr (fnd_miss fun k hk e => h ⟨k, hk, e⟩)
theorem fnd_lt (l : List UInt8) : fnd l < 19 := by
  rcases fnd_cases l with h | h
  · exact h.1
  · omega
theorem nm_ne {k : Nat} (h : 1 ≤ k) (h2 : k < 19) : nm k ≠ [] := (by decide : ∀ k < 19, 1 ≤ k → nm k ≠ []) k h2 h
theorem nm_zero : nm 0 = [] := rfl

/-- The shape of an opcode. -/
def uD (op : Int) : Bool := decide (1 ≤ op ∧ op ≤ 16)
def uA (op : Int) : Bool := decide (2 ≤ op ∧ op ≤ 17)
def uB (op : Int) : Bool := decide (5 ≤ op ∧ op ≤ 16)
def uI (op : Int) : Bool := decide (op = 1)
def uO (op : Int) : Bool := decide (1 ≤ op ∧ op ≤ 18)

/-- The table of names, as cells. -/
def tabL : List Value := nmL.map fun l => Value.string ⟨l.toArray⟩
def tabA : Array Value := tabL.toArray
theorem tabL_get {i : Nat} (h : i < 19) : tabL[i]? = some (.string (nmB i)) := by
  have hl : i < nmL.length := h
  rw [tabL, List.getElem?_map, List.getElem?_eq_getElem hl, nmB, nm, List.getD_eq_getElem?_getD, List.getElem?_eq_getElem hl]
  rfl
theorem tabA_size : tabA.size = 19 := rfl
theorem tabA_get {i : Nat} (h : i < 19) : tabA[i]? = some (.string (nmB i)) := by
  have := tabL_get h
  simpa [tabA] using this

/-- An array of strings that reads as these strings holds them, cell for cell. -/
theorem cells_of_strs {H : Type} {enc : TypeId × Value → H} {P : Program} {w : World} {base : Nat} {sp : Nat → Bool} {held : Bool} {fuel : Nat} {t e : TypeId} {n : Nat} {cs : List Value} {ls : List (List UInt8)} {p : List MemPlace}
    (ht : P.underlying t = some (.array n e)) (he : P.underlying e = some .string) (hce : P.cellsOf e = 1) (hct : P.cellsOf t = n)
    (h : DataW.trod enc P w base sp held fuel t cs = some (.agg (ls.map fun l => .lit (.string l)), p)) : cs = ls.map fun l => Value.string ⟨l.toArray⟩ := by
  obtain ⟨xs, m, -, hx, hl, hxl, hel⟩ := DataW.trod_array ht h
  rw [hct] at hl
  simp only [Prod.mk.injEq, DataW.agg.injEq] at hx
  have hxs := hx.1
  have hzl : ls.length = n := by
    have := congrArg List.length hxs
    simp at this
    omega
  apply List.ext_getElem?
  intro i
  by_cases hi : i < n
  · have hE := hel i hi
    rw [hce, Nat.mul_one] at hE
    have hxi : i < xs.length := by omega
    rw [List.getElem?_eq_getElem hxi] at hE
    obtain ⟨s, hc, hy, _⟩ := DataW.trod_string he hE
    have h1 : cs[i]? = some (.string s) := by
      have := congrArg (·[0]?) hc
      simpa [List.getElem?_take, List.getElem?_drop] using this
    have h2 : (xs.map (·.1))[i]? = some (DataW.lit (.string s.data.toList) : DataW H) := by
      rw [List.getElem?_map, List.getElem?_eq_getElem hxi, hy]
      rfl
    rw [← hxs] at h2
    simp only [List.getElem?_map, Option.map_eq_some_iff, DataW.lit.injEq, Lit.string.injEq] at h2
    obtain ⟨l, hl', rfl⟩ := h2
    rw [h1, List.getElem?_map, hl']
    rfl
  · rw [List.getElem?_eq_none (by omega), List.getElem?_eq_none (by simp; omega)]

end Go.Proofs.Ytfkknebjhcafhaa
