import Derived.Test.YtkapmfopfddmbaaGreatPk1
import Derived.LoopTactic
import Derived.Below
import Derived.Test.YtkapmfopfddmbaaGreatPk2
import Derived.Lib.BitFns
import Derived.Lib.ItoaNum
import Derived.Deep.QuietTactic
import Derived.BigQuiet

/-
  The program's inRange and unusedZero.
-/
namespace Go.Proofs.YtkapmfopfddmbaaGreat
open Go.RowKit
set_option linter.unusedVariables false

def Flds (w : World) (B : Nat) (A : Option Addr) (fs : List Fld) : Prop := Sees w B A (fs.flatMap Fld.cells)

theorem Flds.at_ {w : World} {B : Nat} {A : Option Addr} {fs : List Fld} (h : Flds w B A fs) {k : Nat} (hk : k < fs.length) :
    ∃ b o, A = some ⟨b, o, none⟩ ∧ b < B ∧ w.cell? ⟨b, o + k * 2, none⟩ = some (.bool fs[k].1) ∧ w.cell? ⟨b, o + k * 2 + 1, none⟩ = some (.int .i64 fs[k].2) := by
  have hg := flat_get Fld.cells 2 (fun _ => rfl) fs k fs[k] (List.getElem?_eq_getElem hk)
  have h0 := hg 0 _ rfl
  have h1 := hg 1 _ rfl
  obtain ⟨b, o, e, hb, hc⟩ := h (by intro e; rw [e] at h0; cases h0)
  exact ⟨b, o, e, hb, hc _ _ h0, by rw [Nat.add_assoc]; exact hc _ _ h1⟩

theorem Flds.below {w w' : World} {B : Nat} {A : Option Addr} {fs : List Fld} (h : Flds w B A fs) (hb : Below B w w') : Flds w' B A fs := Sees.below h hb

theorem Flds.more {w : World} {B B' : Nat} {A : Option Addr} {fs : List Fld} (h : Flds w B A fs) (hB : B ≤ B') : Flds w B' A fs := Sees.more h hB

end Go.Proofs.YtkapmfopfddmbaaGreat

/-
  The program's Instr.
-/
namespace Go.Proofs.YtkapmfopfddmbaaGreat
open Go.RowKit
set_option linter.unusedVariables false

theorem sees_new' {W : World} {p : Nat} (hp : W.heap.size = p) (cs : Array Value) (t : TypeId) {xs : List Value} (hx : xs = cs.toList) : Sees (W.alloc (.cells cs t)) (p + 1) (some ⟨p, 0, none⟩) xs := by
  subst hp
  subst hx
  exact sees_new W cs t

theorem Row.new' {W : World} {p : Nat} (hp : W.heap.size = p) (T : TypeId) (cs : Array Value) : Row (W.alloc (.cells cs T)) p T cs := by
  subst hp
  exact Row.new W T cs

/-- Fields laid one behind the other, and what a later world still shows of them. -/
theorem rows5 {W1 W3 : World} {s0 f0 f1 f2 f3 g : Array Value} {ts t : TypeId} (hb : Below ((((((W1.alloc (.cells s0 ts)).alloc (.cells f0 t)).alloc (.cells f1 t)).alloc (.cells f2 t)).alloc (.cells f3 t)).alloc (.cells g t)).heap.size ((((((W1.alloc (.cells s0 ts)).alloc (.cells f0 t)).alloc (.cells f1 t)).alloc (.cells f2 t)).alloc (.cells f3 t)).alloc (.cells g t)) W3) :
    (∀ i, W3.cell? ⟨W1.heap.size + 1, i, none⟩ = f0[i]?) ∧ (∀ i, W3.cell? ⟨W1.heap.size + 1 + 1, i, none⟩ = f1[i]?) ∧ (∀ i, W3.cell? ⟨W1.heap.size + 1 + 1 + 1, i, none⟩ = f2[i]?) ∧ (∀ i, W3.cell? ⟨W1.heap.size + 1 + 1 + 1 + 1, i, none⟩ = f3[i]?) ∧ Below W1.heap.size W1 W3 := by
  have r0 := (((((Row.new' (W := W1.alloc (.cells s0 ts)) (p := W1.heap.size + 1) (by simp) t f0).alloc (.cells f1 t)).alloc (.cells f2 t)).alloc (.cells f3 t)).alloc (.cells g t)).below hb (by simp)
  have r1 := ((((Row.new' (W := (W1.alloc (.cells s0 ts)).alloc (.cells f0 t)) (p := W1.heap.size + 1 + 1) (by simp) t f1).alloc (.cells f2 t)).alloc (.cells f3 t)).alloc (.cells g t)).below hb (by simp)
  have r2 := (((Row.new' (W := ((W1.alloc (.cells s0 ts)).alloc (.cells f0 t)).alloc (.cells f1 t)) (p := W1.heap.size + 1 + 1 + 1) (by simp) t f2).alloc (.cells f3 t)).alloc (.cells g t)).below hb (by simp)
  have r3 := ((Row.new' (W := (((W1.alloc (.cells s0 ts)).alloc (.cells f0 t)).alloc (.cells f1 t)).alloc (.cells f2 t)) (p := W1.heap.size + 1 + 1 + 1 + 1) (by simp) t f3).alloc (.cells g t)).below hb (by simp)
  refine ⟨r0.cell, r1.cell, r2.cell, r3.cell, ?_⟩
  have h0 := ((((((Below.refl W1.heap.size W1).alloc (Nat.le_refl _) (.cells s0 ts)).alloc (by simp) (.cells f0 t)).alloc (by simp; omega) (.cells f1 t)).alloc (by simp; omega) (.cells f2 t)).alloc (by simp; omega) (.cells f3 t)).alloc (by simp; omega) (.cells g t)
  exact h0.trans (hb.mono h0.size)

end Go.Proofs.YtkapmfopfddmbaaGreat

/-
  A list of machine instructions that a call owns; runs of moves in it.
-/
namespace Go.Proofs.YtkapmfopfddmbaaGreat
open Go.RowKit
set_option linter.unusedVariables false

def flatM (xs : List Mi) : List Value := xs.flatMap Mi.cells

theorem flatM_append (a b : List Mi) : flatM (a ++ b) = flatM a ++ flatM b := by simp [flatM]

theorem flatM_one (x : Mi) : flatM [x] = x.cells := by simp [flatM]

theorem flatM_length (xs : List Mi) : (flatM xs).length = xs.length * 7 := by
  induction xs with
  | nil => rfl
  | cons x r ih =>
    show (x.cells ++ flatM r).length = _
    rw [List.length_append, ih, List.length_cons]
    show 7 + r.length * 7 = _
    omega

theorem flatM_oneCell (xs : List Mi) : ∀ u ∈ flatM xs, u.oneCell' = true := fun u hu => by
  obtain ⟨x, _, hx⟩ := List.mem_flatMap.1 hu
  simp only [Mi.cells, List.mem_cons, List.not_mem_nil, or_false] at hx
  rcases hx with rfl | rfl | rfl | rfl | rfl | rfl | rfl <;> rfl

/-- What a call owns it sees. -/
theorem MisAt.of_own {W : World} {base : Nat} {T : TypeId} {A : Option Addr} {c : Nat} {xs : List Mi} (h : W.ownsRow base T 7 (.slice A xs.length c) xs.length (flatM xs)) (hok : ∀ x ∈ xs, x.Ok) : MisAt W W.heap.size A xs := fun hn => by
  have h0 : flatM xs ≠ [] := fun e => by
    have := congrArg List.length e
    rw [flatM_length] at this
    exact hn (List.eq_nil_of_length_eq_zero (by simp at this; omega))
  obtain ⟨b, o, e, hb, hc⟩ := sees_own h h0
  refine ⟨b, o, e, hb, fun i x hx => ?_⟩
  have hg := flat_get Mi.cells 7 (fun _ => rfl) xs i x hx
  have g := fun j u hu => hc _ _ (hg j u hu)
  refine ⟨hok x (List.mem_of_getElem? hx), ?_, ?_, ?_, ?_, ?_, ?_, ?_⟩
  · exact g 0 _ rfl
  · rw [Nat.add_assoc]; exact g 1 _ rfl
  · rw [Nat.add_assoc]; exact g 2 _ rfl
  · rw [Nat.add_assoc]; exact g 3 _ rfl
  · rw [Nat.add_assoc]; exact g 4 _ rfl
  · rw [Nat.add_assoc]; exact g 5 _ rfl
  · rw [Nat.add_assoc]; exact g 6 _ rfl

/-- A new block of one instruction. -/
theorem mach_new (w : World) (T : TypeId) (x : Mi) : ∀ j u, x.cells[j]? = some u → (w.alloc (.cells x.cells.toArray T)).cell? ((⟨w.heap.size, 0, none⟩ : Addr).add j) = some u := fun j u hu => by
  rw [Addr.add_lit]
  have := cell_of_row _ w.heap.size j _ T (0, 0) (heap_alloc_new w (.cells x.cells.toArray T))
  simp only [Nat.zero_add]
  rw [this]
  simpa using hu

theorem lead_none {a : List Mi} (h : ∀ x ∈ a, x.mv = false) : lead a = 0 := by
  cases a with
  | nil => rfl
  | cons x r => rw [lead, h x (by simp)]; rfl

theorem mvs_skip (l : List Mi) : ∀ a : List Mi, (∀ x ∈ a, x.mv = false) → mvs (a ++ l) = mvs l
  | [], _ => rfl
  | x :: r, h => by
    rw [List.cons_append, mvs, lead, h x (by simp), mvs_skip l r fun y hy => h y (List.mem_cons_of_mem _ hy)]
    simp

theorem lead_rep (m : Mi) (hm : m.mv = true) (c : List Mi) (hc : ∀ x ∈ c, x.mv = false) : ∀ k, lead (List.replicate k m ++ c) = k
  | 0 => by simpa using lead_none hc
  | k + 1 => by rw [List.replicate_succ, List.cons_append, lead, hm, if_pos rfl, lead_rep m hm c hc k]

theorem mvs_rep (m : Mi) (hm : m.mv = true) (c : List Mi) (hc : ∀ x ∈ c, x.mv = false) : ∀ k, mvs (List.replicate k m ++ c) = k
  | 0 => by
    have := mvs_skip [] c hc
    rw [List.append_nil] at this
    exact this
  | k + 1 => by
    have h1 := lead_rep m hm c hc (k + 1)
    rw [List.replicate_succ, List.cons_append] at h1 ⊢
    rw [mvs, h1, mvs_rep m hm c hc k]
    omega

theorem eCd_two (regs slots : Int) : ∀ (l : List Mi) (run : Nat), (∀ x ∈ l, eM x regs slots = 0) → eCd regs slots run l = 0 ∨ eCd regs slots run l = 15
  | [], _, _ => .inl rfl
  | x :: r, run, h => by
    rw [eCd, if_pos (h x (by simp))]
    split
    · exact .inr rfl
    · exact eCd_two regs slots r _ fun y hy => h y (List.mem_cons_of_mem _ hy)

theorem eCd_runs (regs slots : Int) (l : List Mi) (h : ∀ x ∈ l, eM x regs slots = 0) : eCd regs slots 0 l = if mvs l ≤ 64 then 0 else 15 := by
  have h1 := eCd_ok regs slots l 0 (by omega)
  have h2 := lead_mvs l
  split
  · exact h1.2 ⟨h, by omega, by omega⟩
  · rcases eCd_two regs slots l 0 h with h3 | h3
    · have := (h1.1 h3).2.2
      omega
    · exact h3

end Go.Proofs.YtkapmfopfddmbaaGreat

/-
  Lengths: math/bits.Len64, and the program's Len, which returns how many bytes the encoding has.
-/
namespace Go.Proofs.YtkapmfopfddmbaaGreat
open Go.RowKit

/-- An entry of the table of lengths. -/
theorem tab_at (i : Nat) (h : i < Lib.len8tab.size) : (Lib.len8tab[i]).toNat = Lib.bitLen i := by
  have hi : i < 256 := by rwa [Lib.len8tab_size] at h
  have e := Lib.len8_eq ⟨i, hi⟩
  simp only [Lib.len8, Int.toNat_natCast, ByteArray.getElem?_lt' _ _ h, Option.getD_some] at e
  omega

theorem len_end {s d : Nat} {x y : Int} (h0 : 0 ≤ x) (hx : x < 18446744073709551616) (hd : d = 2 ^ s) (hb : d ≤ x.toNat) (hy : y = x / d) (hy' : y < 256)
    {h : y.toNat < Lib.len8tab.size} : (s : Int) + ((Lib.len8tab[y.toNat]).toNat : Int) = (Lib.bitLen x.toNat : Int) := by
  subst hd
  have e := Lib.bitLen_shift s x.toNat hb (by omega)
  have hyn : y.toNat = x.toNat / 2 ^ s := by
    subst hy
    obtain ⟨n, rfl⟩ := Int.eq_ofNat_of_zero_le h0
    rw [← Int.natCast_ediv, Int.toNat_natCast, Int.toNat_natCast]
  rw [tab_at, hyn, e]
  omega

theorem len_end0 {x : Int} {h : x.toNat < Lib.len8tab.size} : ((Lib.len8tab[x.toNat]).toNat : Int) = (Lib.bitLen x.toNat : Int) := by rw [tab_at]

theorem tab_le (i : Nat) (h : i < Lib.len8tab.size) : (Lib.len8tab[i]).toNat ≤ 8 := by
  have hi : i < 256 := by rwa [Lib.len8tab_size] at h
  rw [tab_at]
  exact Lib.bitLen_le8 ⟨i, hi⟩

theorem wrap64_small {x : Int} (h0 : 0 ≤ x) (h1 : x ≤ 1000) : wrap64 x = x := by unfold wrap64; omega

theorem wrap_end {s n : Nat} (hs : s ≤ 56) (hn : n ≤ 8) : wrap64 ((s : Int) + wrap64 (n : Int)) = (s : Int) + n := by
  rw [wrap64_small (x := (n : Int)) (by omega) (by omega), wrap64_small (by omega) (by omega)]

theorem wrap_end0 {n : Nat} (hn : n ≤ 8) : wrap64 (wrap64 (n : Int)) = n := by
  rw [wrap64_small (x := (n : Int)) (by omega) (by omega), wrap64_small (by omega) (by omega)]

/-- How many digits the encoding has. -/
def lenS (v : Nat) : Nat := (putS v).length

theorem putS_last (v : Nat) (hv : v < 18446744073709551616) : ∃ x, x < 128 ∧ (putS v)[lenS v - 1]? = some x := by
  have hp := putS_pos v
  refine ⟨v / 128 ^ (lenS v - 1) % 128, Nat.mod_lt _ (by omega), ?_⟩
  unfold lenS
  rw [putS_get v _ (by omega) (by omega), if_neg (by omega)]
  rfl

theorem bitLen_sides (x : Nat) (h : x ≠ 0) (hx : x < 2 ^ 64) : 2 ^ (Lib.bitLen x - 1) ≤ x ∧ x < 2 ^ Lib.bitLen x ∧ 1 ≤ Lib.bitLen x := by
  obtain ⟨a, b, c⟩ := Lib.bitLenAux_bounds 64 x hx h
  exact ⟨b, c, a⟩

theorem len_digits (v : Nat) (hv : v < 18446744073709551616) : (Lib.bitLen (v ||| 1) + 6) / 7 = lenS v := by
  have hlt := putS_lt v (by omega)
  have hge := putS_ge v
  have hpos := putS_pos v
  unfold lenS
  generalize (putS v).length = m at hlt hge hpos
  have ho : v ||| 1 = v / 2 * 2 + 1 := by
    have := nat_join 1 (v / 2 * 2) 1 (by simp) (by decide)
    rw [← this]
    apply Nat.eq_of_testBit_eq
    intro i
    rw [Nat.testBit_or, Nat.testBit_or]
    cases i with
    | zero => simp
    | succ i => rw [Nat.testBit_succ, Nat.testBit_succ (x := v / 2 * 2)]; simp
  have hs := bitLen_sides (v ||| 1) (by omega) (by omega)
  generalize Lib.bitLen (v ||| 1) = n at hs
  obtain ⟨s1, s2, s3⟩ := hs
  rw [ho] at s1 s2
  have e7 : (128 : Nat) ^ m = 2 ^ (7 * m) := by rw [Nat.pow_mul]
  have h1 : n - 1 < 7 * m := by
    apply (Nat.pow_lt_pow_iff_right (a := 2) (by decide)).1
    have he : 2 ^ (7 * m) % 2 = 0 := by
      rw [show 7 * m = (7 * m - 1) + 1 by omega, Nat.pow_succ]
      exact Nat.mul_mod_left _ _
    rw [← e7] at he ⊢
    omega
  by_cases hm : m = 1
  · omega
  · have h2 := hge.resolve_left hm
    have e8 : (128 : Nat) ^ (m - 1) = 2 ^ (7 * (m - 1)) := by rw [Nat.pow_mul]
    have h3 : 7 * (m - 1) < n := by
      apply (Nat.pow_lt_pow_iff_right (a := 2) (by decide)).1
      rw [← e8]
      omega
    omega

end Go.Proofs.YtkapmfopfddmbaaGreat

/-
  Encoding: the program's Put returns a new slice that holds what putS computes, and turns nothing that was there.
-/
namespace Go.Proofs.YtkapmfopfddmbaaGreat
open Go.RowKit

theorem Tryz.infoU8 : (Tryz.prog.info? 5).map (fun i => (i.zero, i.size, i.bytes)) = some (some (.int .u8 0), 1, 1) := by kernel_rfl

/-- The slice while it is being filled: k digits are in, each with 128 added. -/
def ups (v m k : Nat) : List Nat := (List.range m).map fun j => if j < k then v / 128 ^ j % 128 + 128 else 0

theorem ups_length (v m k : Nat) : (ups v m k).length = m := by simp [ups]

theorem ups_get (v m k j : Nat) (h : j < m) : (ups v m k)[j]? = some (if j < k then v / 128 ^ j % 128 + 128 else 0) := by simp [ups, h]

theorem ups_zero (v m : Nat) : bts (ups v m 0) = List.replicate m (.int .u8 0) := by
  apply List.ext_getElem?
  intro j
  rw [bts_get]
  by_cases h : j < m
  · rw [ups_get v m 0 j h]
    simp [h]
  · rw [List.getElem?_eq_none (by rw [ups_length]; omega)]
    simp [h]

theorem bts_set (l : List Nat) (j x : Nat) : (bts l).set j (.int .u8 (x : Int)) = bts (l.set j x) := by simp [bts, List.map_set]

theorem ups_step (v m k : Nat) (h : k < m) : (ups v m k).set k (v / 128 ^ k % 128 + 128) = ups v m (k + 1) := by
  apply List.ext_getElem?
  intro j
  rw [List.getElem?_set]
  by_cases hj : j < m
  · rw [ups_get v m k j hj, ups_get v m (k + 1) j hj]
    by_cases e : k = j
    · subst e
      simp [ups_length, h]
    · rw [if_neg e]
      congr 1
      by_cases h2 : j < k
      · rw [if_pos h2, if_pos (by omega)]
      · rw [if_neg h2, if_neg (by omega)]
  · rw [List.getElem?_eq_none (l := ups v m (k + 1)) (by rw [ups_length]; omega), if_neg (by omega), List.getElem?_eq_none (by rw [ups_length]; omega)]

theorem ups_end (v m : Nat) (hv : v < 128 ^ 10) (hm : m = (putS v).length) : (ups v m m).set (m - 1) (v / 128 ^ (m - 1) % 128) = putS v := by
  have hp := putS_pos v
  apply List.ext_getElem?
  intro j
  rw [List.getElem?_set]
  by_cases hj : j < m
  · rw [ups_get v m m j hj, putS_get v j hv (by omega), if_pos hj]
    by_cases e : m - 1 = j
    · subst e
      rw [if_pos rfl, if_pos (by rw [ups_length]; omega), if_neg (by omega)]
      simp
    · rw [if_neg e, if_pos (by omega)]
  · rw [if_neg (by omega), List.getElem?_eq_none (by rw [ups_length]; omega), List.getElem?_eq_none (by omega)]

theorem digit_bits (v : Nat) (hv : v < 18446744073709551616) : bits .or .u8 (bits .and .u64 (v : Int) 127 % 256) 128 = ((v % 128 + 128 : Nat) : Int) := by
  have h1 : bits .and .u64 (v : Int) 127 = ((v % 128 : Nat) : Int) := by
    have := u64_and_nat v 127 hv (by omega)
    rwa [nat_mask7] at this
  rw [h1, Int.emod_eq_of_lt (by omega) (by omega), u8_or128_right _ (by omega) (by omega)]
  omega

end Go.Proofs.YtkapmfopfddmbaaGreat

/-
  Encoding by the reference: its Put returns a new slice that holds what putS computes, and turns nothing that was there.
-/
namespace Go.Proofs.YtkapmfopfddmbaaGreat
open Go.RowKit

/-- How the head of the loop stands: d is done, v is left. -/
def PutAt (n : Nat) (d : List Nat) (v : Nat) : Prop := ∃ f, putS n = d ++ putF f v ∧ v < 128 ^ (f + 1) ∧ d.length + f = 9

theorem PutAt.zero (n : Nat) (h : n < 128 ^ 10) : PutAt n [] n := ⟨9, rfl, h, rfl⟩

theorem PutAt.more {n v : Nat} {d : List Nat} (h : PutAt n d v) (hv : 128 ≤ v) : PutAt n (d ++ [v % 128 + 128]) (v / 128) := by
  obtain ⟨f, h1, h2, h3⟩ := h
  cases f with
  | zero => simp at h2; omega
  | succ f =>
    refine ⟨f, ?_, by rw [Nat.pow_succ] at h2; omega, by simp; omega⟩
    rw [h1, putF, if_neg (by omega)]
    simp

theorem PutAt.last {n v : Nat} {d : List Nat} (h : PutAt n d v) (hv : v < 128) : putS n = d ++ [v] := by
  obtain ⟨f, h1, _, _⟩ := h
  rw [h1]
  cases f with
  | zero => rfl
  | succ f => rw [putF, if_pos hv]

theorem PutAt.len {n v : Nat} {d : List Nat} (h : PutAt n d v) : d.length ≤ 9 := by obtain ⟨f, _, _, h3⟩ := h; omega

set_option maxRecDepth 100000 in
set_option maxHeartbeats 1000000 in
theorem rput_any (v : Int) (w : World) (h0 : 0 ≤ v) (h1 : v ≤ 18446744073709551615) :
    Calls Tryz.prog 58 #[.int .u64 v] w fun e w' => ∃ g c, e = .returned (.slice (some ⟨g, 0, none⟩) (lenS v.toNat) c) ∧
      w'.ownsRow w.heap.size 5 1 (.slice (some ⟨g, 0, none⟩) (lenS v.toNat) c) (lenS v.toNat) (bts (putS v.toNat)) ∧ Below w.heap.size w w' := by
  obtain ⟨n, rfl⟩ := Int.eq_ofNat_of_zero_le h0
  obtain ⟨i0, hi, hz0, hz1, hz2⟩ := info_parts Tryz.infoU8
  go_enter Tryz.func58, Tryz.ntmps58
  go_wp2
  go_loopw [0, 3] (fun u o wr => ∃ (d : List Nat) (v : Nat), u = .int .u64 v ∧ v < 18446744073709551616 ∧ PutAt n d v ∧
      wr.ownsRow w.heap.size 5 1 o d.length (bts d) ∧ Below w.heap.size w wr) (fun u _ _ => (intOf u).toNat)
  case atStart => exact ⟨[], n, rfl, by omega, PutAt.zero n (by omega), World.ownsRow_nil _ _ _ _, Below.refl _ _⟩
  case round =>
    obtain ⟨d, v, rfl, hv, hat, hown, hbel⟩ := hrel
    have hdl := hat.len
    have hsz := hbel.size
    by_cases hge : 128 ≤ v
    · have HA := Lib.hid (hat.more hge)
      clear hat
      go_wp2_with (first
        | (at_builtin; refine wpList_append_own _ rfl _ _ 33 rfl w.heap.size 5 i0 (.int .u8 0) 1 1 Tryz.underlying33 hi hz0 hz1 hz2 rfl (by decide) _ _ _ rfl (hown.alloc _) ⟨wr.heap.size, 0, none⟩ 1 1 (bts [v % 128 + 128]) rfl rfl ?c1 (bts_one _) ?c3 ?c4 ?c5 ?_))
      case c1 => exact one_new (by omega)
      case c3 => unfold maxLen; omega
      case c4 => omega
      case c5 => simp; omega
      intro o' w1 hown1 hgr _
      have hown2 : w1.ownsRow w.heap.size 5 1 o' (d ++ [v % 128 + 128]).length (bts (d ++ [v % 128 + 128])) := by
        rw [bts_append, List.length_append]
        exact hown1
      have hb2 : Below w.heap.size w w1 := (hbel.alloc hsz _).grown hgr (by simp; omega) (fun k hk => (hown.lt k hk).1)
      clear hown1 hgr hown hbel
      go_wp2
      go_roundw
      case rel => exact ⟨_, v / 128, by go_num, by omega, HA.out, hown2, hb2⟩
      case measure => simp [intOf]; omega
    · have HE := hat.last (by omega)
      clear hat
      go_wp2_with (first
        | (at_builtin; refine wpList_append_own _ rfl _ _ 33 rfl w.heap.size 5 i0 (.int .u8 0) 1 1 Tryz.underlying33 hi hz0 hz1 hz2 rfl (by decide) _ _ _ rfl (hown.alloc _) ⟨wr.heap.size, 0, none⟩ 1 1 (bts [v]) rfl rfl ?c1 (bts_one _) ?c3 ?c4 ?c5 ?_))
      case c1 => exact one_new (by omega)
      case c3 => unfold maxLen; omega
      case c4 => omega
      case c5 => simp; omega
      intro o' w1 hown1 hgr _
      have hb2 : Below w.heap.size w w1 := (hbel.alloc hsz _).grown hgr (by simp; omega) (fun k hk => (hown.lt k hk).1)
      have hlen : lenS n = d.length + 1 := by unfold lenS; rw [HE]; simp
      rw [← bts_append, ← HE, ← hlen] at hown1
      clear hgr hown hbel
      have HL := Lib.hid hlen
      clear hlen HE
      go_wp2
      go_ret
      have hpos : 0 < lenS n := by rw [HL.out]; omega
      obtain ⟨g, c, rfl, _, _⟩ := hown1.form hpos
      exact ⟨g, c, rfl, hown1, hb2⟩

end Go.Proofs.YtkapmfopfddmbaaGreat

/-
  The reference's Zigzag returns what the plain function computes.
-/
namespace Go.Proofs.YtkapmfopfddmbaaGreat
open Go.RowKit

set_option maxRecDepth 100000 in
set_option maxHeartbeats 1000000 in
theorem rzig_any (n : Int) (w : World) (h : InI n) :
    Calls Tryz.prog 63 #[.int .i64 n] w fun e w' => e = .returned (.int .u64 (zz n)) ∧ w = w' := by
  obtain ⟨h0, h1⟩ := h
  go_enter Tryz.func63, Tryz.ntmps63
  go_wp2
  all_goals go_ret
  · exact ⟨ret1 (zz_pos (by assumption)), rfl⟩
  · exact ⟨ret1 (zz_neg (by assumption)), rfl⟩

end Go.Proofs.YtkapmfopfddmbaaGreat

/-
  The reference's Unzigzag returns what the plain function computes.
-/
namespace Go.Proofs.YtkapmfopfddmbaaGreat
open Go.RowKit

end Go.Proofs.YtkapmfopfddmbaaGreat

/-
  The comparison of byte slices in the reference: it says whether the lists are equal; it may draw, and turns no memory.
-/
namespace Go.Proofs.YtkapmfopfddmbaaGreat
open Go.RowKit

def sameB (l r : List Nat) : Bool := decide (l = r)

theorem sameB_self (l : List Nat) : sameB l l = true := by simp [sameB]

theorem sameB_yes {l r : List Nat} (h : l = r) : sameB l r = true := by simp [sameB, h]

theorem sameB_no {l r : List Nat} (h : l ≠ r) : sameB l r = false := by simp [sameB, h]

theorem same_end {l r : List Nat} (hl : l.length = r.length) {k : Nat} (hk : l.length ≤ k) (h : l.take k = r.take k) : l = r := by
  rwa [List.take_of_length_le hk, List.take_of_length_le (by omega)] at h

theorem same_step {l r : List Nat} {k : Nat} (h : l.take k = r.take k) (hl : k < l.length) (hr : k < r.length) (he : l[k] = r[k]) : l.take (k + 1) = r.take (k + 1) := by
  rw [List.take_succ_eq_append_getElem hl, List.take_succ_eq_append_getElem hr, h, he]

end Go.Proofs.YtkapmfopfddmbaaGreat

/-
  The reference of layer 17: put; bytes of one's own.
-/
namespace Go.Proofs.YtkapmfopfddmbaaGreat
open Go.RowKit
set_option linter.unusedVariables false
set_option linter.unusedSimpArgs false

theorem Tryz.infoU8c : (Tryz.prog.info? 5).map (fun i => (i.zero, i.size, i.bytes)) = some (some (.int .u8 0), 1, 1) := by kernel_rfl

/-- The value v is a list of bytes in memory of its own, new to the world w0; of what was there nothing has turned. -/
structure BL (w0 : World) (v : Value) (l : List Nat) (W : World) : Prop where
  own : W.ownsRow w0.heap.size 5 1 v l.length (bts l)
  blw : Below w0.heap.size w0 W

theorem BL.next {w0 W W' : World} {v : Value} {l : List Nat} (h : BL w0 v l W) (hb : Below W.heap.size W W') : BL w0 v l W' :=
  ⟨(Mods.of_below (S := No) hb).own h.own fun _ _ hs => hs.elim, h.blw.trans (hb.mono h.blw.size)⟩

/-- Bytes appended. -/
theorem BL.app {w0 W W' : World} {v v' : Value} {l r : List Nat} {n : Nat} (h : BL w0 v l W) (hn : n = l.length) (ho : W'.ownsRow w0.heap.size 5 1 v' (n + r.length) (bts l ++ bts r)) (hg : W.grownBy W' v.ownBlock) : BL w0 v' (l ++ r) W' := by
  subst hn
  refine ⟨by rw [bts_append, List.length_append]; exact ho, h.blw.grown hg h.blw.size fun k hk => ?_⟩
  rcases h.own.2 with ⟨rfl, _⟩ | ⟨g, cap, cur, rfl, hg9, _⟩
  · cases hk
  · simp only [Value.ownBlock, Option.some.injEq] at hk
    omega

set_option maxRecDepth 100000 in
set_option maxHeartbeats 2000000 in
theorem rput17_any {w0 W : World} {v : Value} {l : List Nat} (h : BL w0 v l W) (x : Int) (h0 : 0 ≤ x) (h1 : x ≤ 9223372036854775807) (hl : l.length ≤ 10000) :
    Calls Tryz.prog 59 #[v, .int .i64 x] W fun e W' => ∃ v', e = .returned v' ∧ BL w0 v' (l ++ putS x.toNat) W' := by
  obtain ⟨i0, hi, hz0, hz1, hz2⟩ := info_parts Tryz.infoU8c
  have C1 := Lib.hid (rput_any x W h0 (by omega))
  have HL := Lib.hid h
  have hp := putS_le x.toNat
  clear h
  go_enter Tryz.func59, Tryz.ntmps59
  go_wp2_with fail
  refine C1.out.mono ?_
  rintro e W1 ⟨g, c, rfl, ho, hb⟩
  have HL1 := Lib.hid (HL.out.next hb)
  have hsee := Sees.of_own ho
  have hlo : w0.heap.size ≤ W1.heap.size := HL1.out.blw.size
  have HLS : Hid (lenS x.toNat = (putS x.toNat).length) := rfl
  clear ho hb C1 HL
  have hown := HL1.out.own
  go_wp2_with (at_builtin; refine wpList_append_sees _ rfl (.tmp 5) (.tmp 8) 33 rfl w0.heap.size 5 i0 (.int .u8 0) 1 Tryz.underlying33 hi hz0 hz1 hz2 rfl v l.length (bts l) rfl hown W1.heap.size _ _ _ (bts (putS x.toNat)) rfl hsee (bts_length _) (bts_one _) ?c1 ?c2 ?c3 ?_)
  case c1 => have h9 : lenS x.toNat = (putS x.toNat).length := rfl; unfold maxLen; omega
  case c2 => have h9 : lenS x.toNat = (putS x.toNat).length := rfl; omega
  case c3 => exact hlo
  intro v2 W2 ho2 hg2
  have HL2 := Lib.hid (HL1.out.app rfl ho2 hg2)
  clear ho2 hg2 hown hsee
  go_wp2
  go_ret
  exact ⟨v2, rfl, HL2.out⟩

end Go.Proofs.YtkapmfopfddmbaaGreat
