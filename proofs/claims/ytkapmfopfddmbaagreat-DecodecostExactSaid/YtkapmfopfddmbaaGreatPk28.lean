import Derived.Test.YtkapmfopfddmbaaGreatPk15
import Derived.Test.YtkapmfopfddmbaaGreatPk19
import Derived.Test.YtkapmfopfddmbaaGreatPk8
import Derived.Test.YtkapmfopfddmbaaGreatPk21

/-
  Encoding and decoding a certificate, as functions on data; what is decoded is valid and encoded as it was; cutting off; extending.
-/
namespace Go.Proofs.YtkapmfopfddmbaaGreat
open Go.RowKit
set_option linter.unusedVariables false

def Ct.f (c : Ct) : Fd := ⟨c.sa, c.sr, c.bs⟩

def Ct.g (c : Ct) : Gd := ⟨c.ta, c.tr, c.ts, c.ms⟩

def zCt : Ct := ⟨0, 0, [], 0, 0, 0, [], []⟩

def ids20 : List Nat := [1, 2, 3]

def parts20 (c : Ct) : List (List Nat) := [encF' c.f, encG c.g, encW19 c.inv]

def encCt (c : Ct) : List Nat := 82 :: 67 :: 1 :: packS ids20 (parts20 c)

/-- The error of an input of which nothing may be left. -/
def endT (t : Ip) : Int := if t.err = 0 ∧ 0 < t.rest.length then 2 else t.err

/-- Decoding the third section. -/
def dec3 (f : Fd) (g : Gd) (p : List Nat) : Ct × Int :=
  if endT (getE19 f.regs g.regs g.slots f.bs.length ⟨p, 0⟩).2 ≠ 0 then (zCt, endT (getE19 f.regs g.regs g.slots f.bs.length ⟨p, 0⟩).2)
  else (⟨f.args, f.regs, f.bs, g.args, g.regs, g.slots, g.ms, (getE19 f.regs g.regs g.slots f.bs.length ⟨p, 0⟩).1⟩, 0)

def dec2 (f : Fd) (p q : List Nat) : Ct × Int :=
  if endT (mfuncE ⟨p, 0⟩).2 ≠ 0 then (zCt, endT (mfuncE ⟨p, 0⟩).2)
  else if f.bs.length ≠ (mfuncE ⟨p, 0⟩).1.ms.length ∨ f.args ≠ (mfuncE ⟨p, 0⟩).1.args then (zCt, 14) else dec3 f (mfuncE ⟨p, 0⟩).1 q

def dec1 (o p q : List Nat) : Ct × Int :=
  if endT (funcE ⟨o, 0⟩).2 ≠ 0 then (zCt, endT (funcE ⟨o, 0⟩).2) else dec2 (funcE ⟨o, 0⟩).1 p q

def dec0 (r : List Nat) : Ct × Int :=
  if splitE ids20 r ≠ 0 then (zCt, splitE ids20 r) else dec1 ((splitF ids20 r).2.1.getD 0 []) ((splitF ids20 r).2.1.getD 1 []) ((splitF ids20 r).2.1.getD 2 [])

def decE (b : List Nat) : Ct × Int :=
  if b.length < 2 then (zCt, 1) else if b.getD 0 0 ≠ 82 ∨ b.getD 1 0 ≠ 67 then (zCt, 4) else if b.length < 3 then (zCt, 1) else if b.getD 2 0 ≠ 1 then (zCt, 5) else dec0 (b.drop 3)

theorem endT_zero {t : Ip} (h : endT t = 0) : t.err = 0 ∧ t.rest = [] := by
  unfold endT at h
  by_cases h9 : t.err = 0 ∧ 0 < t.rest.length
  · rw [if_pos h9] at h; cases h
  · rw [if_neg h9] at h
    exact ⟨h, List.length_eq_zero_iff.1 (by omega)⟩

theorem endT_full : endT ⟨[], 0⟩ = 0 := rfl

/-- The values of a certificate's immediate operands. -/
structure CtI (c : Ct) : Prop where
  s : ∀ b ∈ c.bs, ∀ x ∈ b.code, InI x.imm
  t : ∀ b ∈ c.ms, ∀ x ∈ b.code, InI x.imm

theorem valid_parts {c : Ct} (h : validC c = 0) : eF c.sa c.sr c.bs = 0 ∧ eMF c.ta c.tr c.ts c.ms = 0 ∧ c.bs.length = c.ms.length ∧ c.sa = c.ta ∧ validE c.inv c.bs.length c.sr c.tr c.ts = 0 := by
  unfold validC at h
  by_cases h1 : eF c.sa c.sr c.bs ≠ 0
  · rw [if_pos h1] at h; exact absurd h h1
  · rw [if_neg h1] at h
    by_cases h2 : eMF c.ta c.tr c.ts c.ms ≠ 0
    · rw [if_pos h2] at h; exact absurd h h2
    · rw [if_neg h2] at h
      by_cases h3 : c.bs.length ≠ c.ms.length ∨ c.sa ≠ c.ta
      · rw [if_pos h3] at h; cases h
      · rw [if_neg h3] at h
        exact ⟨by omega, by omega, by omega, by omega, h⟩

theorem valid_of {c : Ct} (h1 : eF c.sa c.sr c.bs = 0) (h2 : eMF c.ta c.tr c.ts c.ms = 0) (h3 : c.bs.length = c.ms.length) (h4 : c.sa = c.ta) (h5 : validE c.inv c.bs.length c.sr c.tr c.ts = 0) : validC c = 0 := by
  unfold validC
  rw [if_neg (by omega), if_neg (by omega), if_neg (by omega)]
  exact h5

/-- What has been decoded. -/
theorem dec1_ok {o p q : List Nat} (ho : Byt o) (hp : Byt p) (hq : Byt q) (h : (dec1 o p q).2 = 0) : validC (dec1 o p q).1 = 0 ∧ CtI (dec1 o p q).1 ∧ [o, p, q] = parts20 (dec1 o p q).1 := by
  unfold dec1 at *
  by_cases h1 : endT (funcE ⟨o, 0⟩).2 ≠ 0
  · rw [if_pos h1] at h; exact absurd h h1
  rw [if_neg h1] at h ⊢
  obtain ⟨a1, a2⟩ := endT_zero (t := (funcE ⟨o, 0⟩).2) (by omega)
  obtain ⟨_, f1, f2, f3, _, _, _⟩ := funcE_ok (s := ⟨o, 0⟩) ho a1
  rw [a2, List.append_nil] at f3
  generalize (funcE ⟨o, 0⟩).1 = f at *
  unfold dec2 at *
  by_cases h2 : endT (mfuncE ⟨p, 0⟩).2 ≠ 0
  · rw [if_pos h2] at h; exact absurd h h2
  rw [if_neg h2] at h ⊢
  obtain ⟨b1, b2⟩ := endT_zero (t := (mfuncE ⟨p, 0⟩).2) (by omega)
  obtain ⟨_, g1, g2, g3, _, _, _⟩ := mfuncE_ok (s := ⟨p, 0⟩) hp b1
  rw [b2, List.append_nil] at g3
  generalize (mfuncE ⟨p, 0⟩).1 = g at *
  by_cases h3 : f.bs.length ≠ g.ms.length ∨ f.args ≠ g.args
  · rw [if_pos h3] at h; cases h
  rw [if_neg h3] at h ⊢
  unfold dec3 at *
  by_cases h4 : endT (getE19 f.regs g.regs g.slots f.bs.length ⟨q, 0⟩).2 ≠ 0
  · rw [if_pos h4] at h; exact absurd h h4
  rw [if_neg h4] at h ⊢
  obtain ⟨c1, c2⟩ := endT_zero (t := (getE19 f.regs g.regs g.slots f.bs.length ⟨q, 0⟩).2) (by omega)
  obtain ⟨_, w1, w2⟩ := getE19_ok (s := ⟨q, 0⟩) hq c1
  rw [c2, List.append_nil] at w2
  generalize (getE19 f.regs g.regs g.slots f.bs.length ⟨q, 0⟩).1 = w at *
  refine ⟨valid_of f1 g1 (by dsimp only; omega) (by dsimp only; omega) w1, ⟨f2, g2⟩, ?_⟩
  show [o, p, q] = [encF' f, encG g, encW19 w]
  rw [show o = encF' f from f3, show p = encG g from g3, show q = encW19 w from w2]

theorem list3 {α : Type} {l : List α} (h : l.length = 3) (d : α) : l = [l.getD 0 d, l.getD 1 d, l.getD 2 d] := by
  match l, h with
  | [a, b, c], _ => rfl

/-- The contents of sections are bytes. -/
theorem packS_mem : ∀ (ids : List Nat) (xs : List (List Nat)), ids.length = xs.length → ∀ x ∈ xs, ∀ c ∈ x, c ∈ packS ids xs
  | id :: ids, y :: xs, h, x, hx, c, hc => by
    rw [packS]
    rcases List.mem_cons.1 hx with rfl | hx
    · exact List.mem_append_left _ (by unfold encS; exact List.mem_cons_of_mem _ (List.mem_append_right _ hc))
    · exact List.mem_append_right _ (packS_mem ids xs (by simpa using h) x hx c hc)
  | [], _ :: _, h, _, _, _, _ => by simp at h
  | _, [], _, _, hx, _, _ => by cases hx

theorem head3 {b : List Nat} (h : 3 ≤ b.length) : b = b.getD 0 0 :: b.getD 1 0 :: b.getD 2 0 :: b.drop 3 := by
  match b, h with
  | x :: y :: z :: r, _ => rfl

theorem dec0_ok {r : List Nat} (hr : Byt r) (h : (dec0 r).2 = 0) : validC (dec0 r).1 = 0 ∧ CtI (dec0 r).1 ∧ r = packS ids20 (parts20 (dec0 r).1) := by
  unfold dec0 at *
  by_cases h3 : splitE ids20 r ≠ 0
  · rw [if_pos h3] at h
    have : ((splitE ids20 r : Nat) : Int) = 0 := h
    omega
  rw [if_neg h3] at h ⊢
  obtain ⟨s1, s2⟩ := split_canon (ids := ids20) (l := r) hr (by omega)
  have hl3 := list3 s2 []
  generalize (splitF ids20 r).2.1 = ps at *
  have hbp : ∀ x ∈ ps, Byt x := fun x hx c hc => hr c (by rw [← s1]; exact packS_mem ids20 ps s2.symm x hx c hc)
  obtain ⟨e1, e2, e3⟩ := dec1_ok (o := ps.getD 0 []) (p := ps.getD 1 []) (q := ps.getD 2 []) (hbp _ (by rw [hl3]; simp)) (hbp _ (by rw [hl3]; simp)) (hbp _ (by rw [hl3]; simp)) h
  exact ⟨e1, e2, by rw [← e3, ← hl3, s1]⟩

theorem decE_ok {b : List Nat} (hb : Byt b) (h : (decE b).2 = 0) : validC (decE b).1 = 0 ∧ CtI (decE b).1 ∧ b = encCt (decE b).1 := by
  unfold decE at *
  by_cases h0 : b.length < 2
  · rw [if_pos h0] at h; cases h
  rw [if_neg h0] at h ⊢
  by_cases h1 : b.getD 0 0 ≠ 82 ∨ b.getD 1 0 ≠ 67
  · rw [if_pos h1] at h; cases h
  rw [if_neg h1] at h ⊢
  by_cases h2 : b.length < 3
  · rw [if_pos h2] at h; cases h
  rw [if_neg h2] at h ⊢
  by_cases h3 : b.getD 2 0 ≠ 1
  · rw [if_pos h3] at h; cases h
  rw [if_neg h3] at h ⊢
  obtain ⟨e1, e2, e3⟩ := dec0_ok (r := b.drop 3) (fun c hc => hb c (List.mem_of_mem_drop hc)) h
  refine ⟨e1, e2, ?_⟩
  unfold encCt
  rw [← e3]
  have := head3 (b := b) (by omega)
  rw [show b.getD 0 0 = 82 by omega, show b.getD 1 0 = 67 by omega, show b.getD 2 0 = 1 by omega] at this
  exact this

/-- A certificate whose encoding is no longer than memory. -/
structure CtL (c : Ct) : Prop where
  f : (encF' c.f).length < 18446744073709551616
  g : (encG c.g).length < 18446744073709551616
  w : (encW19 c.inv).length < 18446744073709551616

theorem CtL.all {c : Ct} (h : CtL c) : ∀ x ∈ parts20 c, x.length < 18446744073709551616 := by
  intro x hx
  unfold parts20 at hx
  rcases List.mem_cons.1 hx with rfl | hx
  · exact h.f
  rcases List.mem_cons.1 hx with rfl | hx
  · exact h.g
  rcases List.mem_cons.1 hx with rfl | hx
  · exact h.w
  · cases hx

/-- The numbers of registers and slots of a valid certificate are small. -/
structure CtR (c : Ct) : Prop where
  sr : c.sr ≤ 1000000000
  tr : c.tr ≤ 1000000000
  ts : c.ts ≤ 1000000000
  np : totP c.inv ≤ 1048576

theorem dec1_put {c : Ct} (h : validC c = 0) (hi : CtI c) (hr : CtR c) : dec1 (encF' c.f) (encG c.g) (encW19 c.inv) = (c, 0) := by
  obtain ⟨v1, v2, v3, v4, v5⟩ := valid_parts h
  have e1 := funcE_put (f := c.f) v1 hi.s []
  have e2 := mfuncE_put (g := c.g) v2 hi.t []
  rw [List.append_nil] at e1 e2
  have v6 : c.bs.length = c.inv.length := by
    unfold validE at v5
    by_cases h9 : (c.inv.length : Int) ≠ (c.bs.length : Int)
    · rw [if_pos h9] at v5; cases v5
    · omega
  have v7 : validE c.inv c.inv.length c.sr c.tr c.ts = 0 := by rw [v6] at v5; exact v5
  have e3 := getE19_put hr.sr hr.tr hr.ts v7 hr.np []
  rw [List.append_nil, ← v6] at e3
  unfold dec1
  rw [e1, if_neg (by rw [endT_full]; decide)]
  unfold dec2
  rw [e2, if_neg (by rw [endT_full]; decide), if_neg (by show ¬ (c.bs.length ≠ c.ms.length ∨ c.sa ≠ c.ta); omega)]
  unfold dec3
  rw [show getE19 c.f.regs c.g.regs c.g.slots c.f.bs.length ⟨encW19 c.inv, 0⟩ = (c.inv, ⟨[], 0⟩) from e3, if_neg (by rw [endT_full]; decide)]
  rfl

/-- Round trip. -/
theorem decE_put {c : Ct} (h : validC c = 0) (hi : CtI c) (hr : CtR c) (hl : CtL c) : decE (encCt c) = (c, 0) := by
  have hlen : 3 ≤ (encCt c).length := by unfold encCt; simp
  unfold decE
  rw [if_neg (by omega), if_neg (by show ¬ ((82 : Nat) ≠ 82 ∨ (67 : Nat) ≠ 67); decide), if_neg (by omega), if_neg (by show ¬ ((1 : Nat) ≠ 1); decide)]
  show dec0 (packS ids20 (parts20 c)) = _
  unfold dec0
  rw [splitE_pack ids20 (parts20 c) rfl hl.all, if_neg (by decide), split_pack ids20 (parts20 c) rfl hl.all]
  exact dec1_put h hi hr

/-- Cut off. -/
theorem decE_cut {c : Ct} (hl : CtL c) {j : Nat} (hj : j < (encCt c).length) : decE ((encCt c).take j) = (zCt, 1) := by
  have hlen : (encCt c).length = (packS ids20 (parts20 c)).length + 3 := by unfold encCt; simp
  have ht : ((encCt c).take j).length = j := by rw [List.length_take]; omega
  match j, hj with
  | 0, _ => rfl
  | 1, _ => rfl
  | 2, _ => rfl
  | j + 3, hj =>
    have e : (encCt c).take (j + 3) = 82 :: 67 :: 1 :: (packS ids20 (parts20 c)).take j := rfl
    rw [e]
    unfold decE
    rw [if_neg (by simp), if_neg (by show ¬ ((82 : Nat) ≠ 82 ∨ (67 : Nat) ≠ 67); decide), if_neg (by simp), if_neg (by show ¬ ((1 : Nat) ≠ 1); decide)]
    show dec0 ((packS ids20 (parts20 c)).take j) = _
    unfold dec0
    rw [splitE_cut ids20 (parts20 c) j rfl hl.all (by omega), if_pos (by decide)]
    rfl

/-- Extended. -/
theorem decE_long {c : Ct} (hl : CtL c) (y : Nat) : decE (encCt c ++ [y]) = (zCt, 2) := by
  have e : encCt c ++ [y] = 82 :: 67 :: 1 :: (packS ids20 (parts20 c) ++ [y]) := rfl
  rw [e]
  unfold decE
  rw [if_neg (by simp), if_neg (by show ¬ ((82 : Nat) ≠ 82 ∨ (67 : Nat) ≠ 67); decide), if_neg (by simp), if_neg (by show ¬ ((1 : Nat) ≠ 1); decide)]
  show dec0 (packS ids20 (parts20 c) ++ [y]) = _
  unfold dec0
  rw [splitE_long ids20 (parts20 c) y rfl hl.all, if_pos (by decide)]
  rfl

/-- Two certificates of the same encoding are one. -/
theorem decE_inj {c d : Ct} (h : validC c = 0) (hi : CtI c) (hr : CtR c) (hl : CtL c) {x : List Nat} (hx : Byt x) (hd : decE x = (d, 0)) (hc : x = encCt c) : d = c := by
  rw [hc, decE_put h hi hr hl] at hd
  injection hd with e _
  exact e.symm

/-- What is decoded from other bytes is another certificate. -/
theorem decE_other {c d : Ct} {x : List Nat} (hx : Byt x) (hd : decE x = (d, 0)) (hc : x ≠ encCt c) : d ≠ c := fun e => by
  have := (decE_ok hx (by rw [hd])).2.2
  rw [hd, e] at this
  exact hc this

end Go.Proofs.YtkapmfopfddmbaaGreat

/-
  Which errors decoding a certificate may return.
-/
namespace Go.Proofs.YtkapmfopfddmbaaGreat
open Go.RowKit
set_option linter.unusedVariables false

/-- One of the listed errors, or none. -/
def LE (x : Int) : Prop := 0 ≤ x ∧ x ≤ 16 ∧ x ≠ 12 ∧ x ≠ 13

theorem LE.lit {x : Int} (h : x = 0 ∨ x = 1 ∨ x = 2 ∨ x = 3 ∨ x = 4 ∨ x = 5 ∨ x = 6 ∨ x = 7 ∨ x = 8 ∨ x = 9 ∨ x = 10 ∨ x = 11 ∨ x = 14 ∨ x = 15 ∨ x = 16) : LE x := by unfold LE; omega

theorem getS_LE (l : List Nat) : LE ((getS l).2.2 : Int) := by
  rcases getS_kinds l with ⟨x, n, h⟩ | h | h <;> rw [h] <;> exact LE.lit (by simp)

theorem numE_LE {bd why : Int} {s : Ip} (h : LE s.err) (hw : LE why) : LE (numE bd why s).2.err := by
  unfold numE
  by_cases h0 : s.err ≠ 0
  · rw [if_pos h0]; exact h
  rw [if_neg h0]
  by_cases h1 : (getS s.rest).2.2 ≠ 0
  · rw [if_pos h1]; exact getS_LE _
  rw [if_neg h1]
  by_cases h2 : bd ≤ ((getS s.rest).1 : Int)
  · rw [if_pos h2]; exact hw
  · rw [if_neg h2]; exact LE.lit (by simp)

theorem optE_LE {b : Bool} {bd why : Int} {s : Ip} (h : LE s.err) (hw : LE why) : LE (optE b bd why s).2.err := by
  unfold optE
  split
  · exact numE_LE h hw
  · exact h

theorem immE_LE {b : Bool} {s : Ip} (h : LE s.err) : LE (immE b s).2.err := by
  unfold immE
  split
  · split
    · exact getS_LE _
    · exact LE.lit (by simp)
  · exact h

theorem locE_LE {r n : Int} {s : Ip} (h : LE s.err) : LE (locE r n s).2.err := by
  unfold locE
  split
  · exact LE.lit (by simp)
  · exact numE_LE h (LE.lit (by simp))

theorem olocE_LE {b : Bool} {r n : Int} {s : Ip} (h : LE s.err) : LE (olocE b r n s).2.err := by
  unfold olocE
  split
  · exact locE_LE h
  · exact h

theorem twoE_LE {b : Bool} {x y : Int} {s : Ip} (h : LE s.err) : LE (twoE b x y s).err := by
  unfold twoE
  split
  · exact LE.lit (by simp)
  · exact h

theorem firstE_LE {most nt why : Int} {s : Ip} (h : LE s.err) (hw : LE why) : LE (firstE most nt why s).2.err := by
  unfold firstE
  by_cases h0 : s.err ≠ 0
  · rw [if_pos h0]; exact h
  rw [if_neg h0]
  cases s.rest with
  | nil => exact LE.lit (by simp)
  | cons c r =>
    dsimp only
    split
    · exact hw
    · exact LE.lit (by simp)

theorem failE_LE {e : Int} {s : Ip} (h : LE s.err) (he : LE e) : LE (failE e s).err := by
  unfold failE
  split
  · exact h
  · exact he

theorem readE_LE {op regs n : Int} {s : Ip} (h : LE s.err) : LE (readE op regs n s).2.err := by
  have hz : LE (zE op regs n s).err := twoE_LE (olocE_LE (olocE_LE (immE_LE (optE_LE (optE_LE (optE_LE h (LE.lit (by simp))) (LE.lit (by simp))) (LE.lit (by simp))))))
  unfold readE
  split <;> exact hz

theorem machE_LE {r n : Int} {s : Ip} (h : LE s.err) : LE (machE r n s).2.err := by
  have h1 : LE (firstE 18 2 8 s).2.err := firstE_LE h (LE.lit (by simp))
  unfold machE
  split
  · exact h1
  · exact readE_LE h1

theorem instrE_LE {r : Int} {s : Ip} (h : LE s.err) : LE (instrE r s).2.err := by
  have h1 : LE (firstE 17 0 8 s).2.err := firstE_LE h (LE.lit (by simp))
  unfold instrE
  split
  · exact h1
  · exact readE_LE h1

theorem termE_LE {r n : Int} {s : Ip} (h : LE s.err) : LE (termE r n s).2.err := by
  have h1 : LE (teE r n s).2.err := optE_LE (optE_LE (optE_LE (firstE_LE h (LE.lit (by simp))) (LE.lit (by simp))) (LE.lit (by simp))) (LE.lit (by simp))
  unfold termE
  split <;> exact h1

theorem sizeE_LE {s : Ip} (h : LE s.err) : LE (sizeE s).2.err := numE_LE h (LE.lit (by simp))

theorem cntE_LE {k : Int} {s : Ip} (h : LE s.err) : LE (cntE k s).2.err := by
  unfold cntE
  split
  · exact failE_LE (sizeE_LE h) (LE.lit (by simp))
  · exact sizeE_LE h

theorem nblkE_LE {s : Ip} (h : LE s.err) : LE (nblkE s).2.err := by
  unfold nblkE
  split
  · exact failE_LE (cntE_LE h) (LE.lit (by simp))
  · exact cntE_LE h

theorem codeE_LE {tot : Int} {s : Ip} (h : LE s.err) : LE (codeE tot s).2.err := by
  unfold codeE
  split
  · exact failE_LE (cntE_LE h) (LE.lit (by simp))
  · exact cntE_LE h

theorem insE_LE {r : Int} : ∀ (k : Nat) (s : Ip), LE s.err → LE (insE r k s).2.err
  | 0, s, h => h
  | k + 1, s, h => by
    by_cases h0 : s.err = 0
    · rw [show insE r (k + 1) s = ((instrE r s).1.ins :: (insE r k (instrE r s).2).1, (insE r k (instrE r s).2).2) from if_neg fun hh => hh h0]
      exact insE_LE k _ (instrE_LE h)
    · rw [insE_err h0]; exact h

theorem miE_LE {r n : Int} : ∀ (k run : Nat) (s : Ip), LE s.err → LE (miE r n k run s).2.err
  | 0, run, s, h => h
  | k + 1, run, s, h => by
    by_cases h0 : s.err = 0
    · rw [show miE r n (k + 1) run s = ((machE r n s).1 :: (miE r n k (ext run (machE r n s).1) (mvE run (machE r n s).1 (machE r n s).2)).1, (miE r n k (ext run (machE r n s).1) (mvE run (machE r n s).1 (machE r n s).2)).2) from if_neg fun hh => hh h0]
      refine miE_LE k _ _ ?_
      unfold mvE
      split
      · exact failE_LE (machE_LE h) (LE.lit (by simp))
      · exact machE_LE h
    · rw [miE_err h0]; exact h

theorem blksE_LE {r n : Int} : ∀ (m : Nat) (tot : Int) (s : Ip), LE s.err → LE (blksE r n m tot s).2.err
  | 0, tot, s, h => h
  | m + 1, tot, s, h => by
    by_cases h0 : s.err = 0
    · rw [show blksE r n (m + 1) tot s = (⟨(blkI r tot s).1, (blkT r n tot s).1⟩ :: (blksE r n m (tot + blkK tot s) (blkT r n tot s).2).1, (blksE r n m (tot + blkK tot s) (blkT r n tot s).2).2) from if_neg fun hh => hh h0]
      exact blksE_LE m _ _ (termE_LE (insE_LE _ _ (codeE_LE h)))
    · rw [blksE_err h0]; exact h

theorem mblksE_LE {r sl n : Int} : ∀ (m : Nat) (tot : Int) (s : Ip), LE s.err → LE (mblksE r sl n m tot s).2.err
  | 0, tot, s, h => h
  | m + 1, tot, s, h => by
    by_cases h0 : s.err = 0
    · rw [show mblksE r sl n (m + 1) tot s = (⟨(mblkI r sl tot s).1, (mblkT r sl n tot s).1⟩ :: (mblksE r sl n m (tot + blkK tot s) (mblkT r sl n tot s).2).1, (mblksE r sl n m (tot + blkK tot s) (mblkT r sl n tot s).2).2) from if_neg fun hh => hh h0]
      exact mblksE_LE m _ _ (termE_LE (miE_LE _ _ _ (codeE_LE h)))
    · rw [mblksE_err h0]; exact h

theorem funcE_LE {s : Ip} (h : LE s.err) : LE (funcE s).2.err := by
  have h1 : LE (fR' s).2.err := sizeE_LE (sizeE_LE h)
  have h2 : LE (fC s).err := by
    unfold fC
    split
    · exact failE_LE h1 (LE.lit (by simp))
    · exact h1
  have h3 : LE (fB s).2.err := blksE_LE _ _ _ (nblkE_LE h2)
  unfold funcE
  split <;> exact h3

theorem mfuncE_LE {s : Ip} (h : LE s.err) : LE (mfuncE s).2.err := by
  have h1 : LE (gS s).2.err := sizeE_LE (sizeE_LE (sizeE_LE h))
  have h2 : LE (gC s).err := by
    unfold gC
    split
    · exact failE_LE h1 (LE.lit (by simp))
    · exact h1
  have h3 : LE (gB s).2.err := mblksE_LE _ _ _ (nblkE_LE h2)
  unfold mfuncE
  split <;> exact h3

theorem pairE_LE {vr r n : Int} {f : Bool} {q : Pr} {s : Ip} (h : LE s.err) : LE (pairE vr r n f q s).2.err := by
  have h1 : LE (pdlE vr q s).2.err := numE_LE (numE_LE h (LE.lit (by simp))) (LE.lit (by simp))
  unfold pairE
  dsimp only
  split
  · exact failE_LE h1 (LE.lit (by simp))
  · exact h1

theorem prsE_LE {vr r n : Int} : ∀ (k : Nat) (f : Bool) (q : Pr) (s : Ip), LE s.err → LE (prsE vr r n k f q s).2.err
  | 0, f, q, s, h => h
  | k + 1, f, q, s, h => by
    by_cases h0 : s.err = 0
    · rw [show prsE vr r n (k + 1) f q s = ((pairE vr r n f q s).1 :: (prsE vr r n k false (pairE vr r n f q s).1 (pairE vr r n f q s).2).1, (prsE vr r n k false (pairE vr r n f q s).1 (pairE vr r n f q s).2).2) from if_neg fun hh => hh h0]
      exact prsE_LE k _ _ _ (pairE_LE h)
    · rw [prsE_err h0]; exact h

theorem ivE_LE {vr r n tot : Int} {s : Ip} (h : LE s.err) : LE (ivE vr r n tot s).2.err := by
  refine prsE_LE _ _ _ _ ?_
  unfold icE
  dsimp only
  split
  · exact failE_LE (cntE_LE h) (LE.lit (by simp))
  · exact cntE_LE h

theorem ivsE_LE {vr r n : Int} : ∀ (m : Nat) (tot : Int) (s : Ip), LE s.err → LE (ivsE vr r n m tot s).2.err
  | 0, tot, s, h => h
  | m + 1, tot, s, h => by
    by_cases h0 : s.err = 0
    · rw [show ivsE vr r n (m + 1) tot s = ((ivE vr r n tot s).1 :: (ivsE vr r n m (tot + (icE tot s).1) (ivE vr r n tot s).2).1, (ivsE vr r n m (tot + (icE tot s).1) (ivE vr r n tot s).2).2) from if_neg fun hh => hh h0]
      exact ivsE_LE m _ _ (ivE_LE h)
    · rw [ivsE_err h0]; exact h

theorem getE19_LE {vr r n : Int} {m : Nat} {s : Ip} (h : LE s.err) : LE (getE19 vr r n m s).2.err := by
  have h1 := ivsE_LE (vr := vr) (r := r) (n := n) m 0 s h
  unfold getE19
  split <;> exact h1

theorem endT_LE {t : Ip} (h : LE t.err) : LE (endT t) := by
  unfold endT
  split
  · exact LE.lit (by simp)
  · exact h

theorem oneS_LE (id : Nat) (l : List Nat) : LE ((oneS id l).1 : Int) := by
  cases l with
  | nil => exact LE.lit (by simp [oneS])
  | cons x t =>
    rw [oneS]
    by_cases h0 : x ≠ id
    · rw [if_pos h0]; exact LE.lit (by simp)
    rw [if_neg h0]
    by_cases h1 : (getS t).2.2 ≠ 0
    · rw [if_pos h1]; exact getS_LE _
    rw [if_neg h1]
    by_cases h2 : t.length < (getS t).2.1 + (getS t).1
    · rw [if_pos h2]; exact LE.lit (by simp)
    · rw [if_neg h2]; exact LE.lit (by simp)

theorem splitF_LE : ∀ (ids l : List Nat), LE ((splitF ids l).1 : Int)
  | [], l => LE.lit (by simp [splitF])
  | id :: ids, l => by
    rw [splitF]
    split
    · exact oneS_LE _ _
    · exact splitF_LE ids _

theorem splitE_LE (ids l : List Nat) : LE (splitE ids l : Int) := by
  unfold splitE
  split
  · exact splitF_LE _ _
  · split
    · exact LE.lit (by simp)
    · exact LE.lit (by simp)

/-- The errors of decoding; with one, the zero certificate is returned. -/
theorem decE_LE (b : List Nat) : LE (decE b).2 ∧ ((decE b).2 ≠ 0 → (decE b).1 = zCt) := by
  have z : LE (0 : Int) := LE.lit (by simp)
  have h3 : ∀ f g p, LE (dec3 f g p).2 ∧ ((dec3 f g p).2 ≠ 0 → (dec3 f g p).1 = zCt) := fun f g p => by
    unfold dec3
    split
    · exact ⟨endT_LE (getE19_LE z), fun _ => rfl⟩
    · exact ⟨z, fun h => absurd rfl h⟩
  have h2 : ∀ f p q, LE (dec2 f p q).2 ∧ ((dec2 f p q).2 ≠ 0 → (dec2 f p q).1 = zCt) := fun f p q => by
    unfold dec2
    split
    · exact ⟨endT_LE (mfuncE_LE z), fun _ => rfl⟩
    · split
      · exact ⟨LE.lit (by simp), fun _ => rfl⟩
      · exact h3 _ _ _
  have h1 : ∀ o p q, LE (dec1 o p q).2 ∧ ((dec1 o p q).2 ≠ 0 → (dec1 o p q).1 = zCt) := fun o p q => by
    unfold dec1
    split
    · exact ⟨endT_LE (funcE_LE z), fun _ => rfl⟩
    · exact h2 _ _ _
  have h0 : ∀ r, LE (dec0 r).2 ∧ ((dec0 r).2 ≠ 0 → (dec0 r).1 = zCt) := fun r => by
    unfold dec0
    split
    · exact ⟨splitE_LE _ _, fun _ => rfl⟩
    · exact h1 _ _ _
  unfold decE
  split
  · exact ⟨LE.lit (by simp), fun _ => rfl⟩
  split
  · exact ⟨LE.lit (by simp), fun _ => rfl⟩
  split
  · exact ⟨LE.lit (by simp), fun _ => rfl⟩
  split
  · exact ⟨LE.lit (by simp), fun _ => rfl⟩
  exact h0 _

end Go.Proofs.YtkapmfopfddmbaaGreat

/-
  The parts of a certificate's encoding, and what their numbers are bounded by.
-/
namespace Go.Proofs.YtkapmfopfddmbaaGreat
open Go.RowKit
set_option linter.unusedVariables false

theorem packS_part : ∀ (ids : List Nat) (xs : List (List Nat)), ids.length = xs.length → ∀ x ∈ xs, x.length ≤ (packS ids xs).length
  | id :: ids, y :: xs, h, x, hx => by
    rw [packS, List.length_append]
    rcases List.mem_cons.1 hx with rfl | hx
    · have : x.length ≤ (encS id x).length := by unfold encS; simp; omega
      omega
    · have := packS_part ids xs (by simpa using h) x hx
      omega
  | [], _ :: _, h, _, _ => by simp at h
  | _, [], _, _, hx => by cases hx

theorem parts_of20 {r : List Nat} (hr : Byt r) (h : splitE ids20 r = 0) : ∃ x1 x2 x3, (splitF ids20 r).2.1 = [x1, x2, x3] ∧ Byt x1 ∧ Byt x2 ∧ Byt x3 ∧ x1.length ≤ r.length ∧ x2.length ≤ r.length ∧ x3.length ≤ r.length := by
  obtain ⟨s1, s2⟩ := split_canon (ids := ids20) (l := r) hr h
  have hl3 := list3 s2 []
  generalize (splitF ids20 r).2.1 = ps at *
  have hbp : ∀ x ∈ ps, Byt x := fun x hx c hc => hr c (by rw [← s1]; exact packS_mem ids20 ps s2.symm x hx c hc)
  have hlp : ∀ x ∈ ps, x.length ≤ r.length := fun x hx => by rw [← s1]; exact packS_part ids20 ps s2.symm x hx
  generalize ps.getD 0 [] = a at *
  generalize ps.getD 1 [] = b at *
  generalize ps.getD 2 [] = c at *
  subst hl3
  exact ⟨a, b, c, rfl, hbp a (by simp), hbp b (by simp), hbp c (by simp), hlp a (by simp), hlp b (by simp), hlp c (by simp)⟩

theorem fbnd21 {p : List Nat} (hp : Byt p) (h : endT (funcE ⟨p, 0⟩).2 = 0) : (funcE ⟨p, 0⟩).1.bs.length ≤ p.length ∧ 0 ≤ (funcE ⟨p, 0⟩).1.regs ∧ (funcE ⟨p, 0⟩).1.regs ≤ 1048576 := by
  obtain ⟨a1, a2⟩ := endT_zero h
  obtain ⟨_, f1, f2, f3, _, _, _⟩ := funcE_ok (s := ⟨p, 0⟩) hp a1
  have hv := VF.of f1 f2
  have h9 := congrArg List.length f3
  rw [List.length_append] at h9
  have h8 := encF_small (f := (funcE ⟨p, 0⟩).1) (n := p.length) (by have h7 : (⟨p, 0⟩ : Ip).rest.length = p.length := rfl; omega)
  exact ⟨by omega, hv.r.1, hv.r.2⟩

theorem gbnd21 {p : List Nat} (hp : Byt p) (h : endT (mfuncE ⟨p, 0⟩).2 = 0) : 0 ≤ (mfuncE ⟨p, 0⟩).1.regs ∧ (mfuncE ⟨p, 0⟩).1.regs ≤ 1048576 ∧ 0 ≤ (mfuncE ⟨p, 0⟩).1.slots ∧ (mfuncE ⟨p, 0⟩).1.slots ≤ 1048576 := by
  obtain ⟨a1, a2⟩ := endT_zero h
  obtain ⟨_, g0, g3, _, _, g1, g2, _⟩ := mfuncE_ok (s := ⟨p, 0⟩) hp a1
  have hv := VG.of g0 g3
  exact ⟨hv.r.1, g1, hv.s.1, g2⟩

end Go.Proofs.YtkapmfopfddmbaaGreat
