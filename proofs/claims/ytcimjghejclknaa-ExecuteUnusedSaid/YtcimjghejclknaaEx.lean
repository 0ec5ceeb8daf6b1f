/-
  Runs of allocated functions as data: a step, many steps, and what stays true of them.
-/
import Derived.Test.YtcimjghejclknaaPk1
namespace Go.Proofs.Ytcimjghejclknaa
open Go.RowKit
set_option linter.unusedVariables false

structure Xn where
  st : Int
  blk : Nat
  pos : Nat
  val : Int
  regs : List Int
  slots : List Int
  trace : List Int
  steps : Nat

def mblkAt (bs : List MBlk) (k : Nat) : MBlk := bs.getD k ⟨[], ⟨0, 0, 0, 0⟩⟩
/-- The value of a location; a run with another one. -/
def rdX (r : Xn) (l : Int) : Int := if l % 2 = 1 then rg r.slots (l / 2) else rg r.regs (l / 2)
def putX (r : Xn) (l v : Int) : Xn := if l % 2 = 1 then { r with slots := r.slots.set (l / 2).toNat v } else { r with regs := r.regs.set (l / 2).toNat v }
/-- Performing an instruction; leaving a block; a step. -/
def xperf (i : Mi) (r : Xn) : Xn :=
  if i.op = 18 then { putX r i.dst (rdX r i.src) with pos := r.pos + 1, steps := r.steps + 1 }
  else if i.op = 17 then { r with trace := r.trace ++ [rg r.regs i.a], pos := r.pos + 1, steps := r.steps + 1 }
  else if evo i.op (rg r.regs i.b) = true then { r with regs := r.regs.set i.d.toNat (ev i.op (rg r.regs i.a) (rg r.regs i.b) i.imm), pos := r.pos + 1, steps := r.steps + 1 }
  else { r with st := 2 }
def xleav (t : Tm) (r : Xn) : Xn :=
  if t.kind = 3 then { r with st := 1, val := rg r.regs t.a, steps := r.steps + 1 }
  else { r with blk := if t.kind = 2 ∧ rg r.regs t.a = 0 then t.el.toNat else t.to.toNat, pos := 0, steps := r.steps + 1 }
def stepX (bs : List MBlk) (r : Xn) : Xn :=
  if r.st = 0 then if h : r.pos < (mblkAt bs r.blk).code.length then xperf ((mblkAt bs r.blk).code[r.pos]) r else xleav (mblkAt bs r.blk).term r else r
def runX (bs : List MBlk) (r : Xn) : Nat → Xn
  | 0 => r
  | n + 1 => stepX bs (runX bs r n)
def xn0 (regs slots : Nat) (args : List Int) : Xn := ⟨0, 0, 0, 0, List.replicate regs 0, args ++ List.replicate (slots - args.length) 0, [], 0⟩

/-- What a valid function's locations, instructions and terminators are. -/
def LocOk (regs slots : Nat) (l : Int) : Prop := 0 ≤ l ∧ ((l % 2 = 1 ∧ l / 2 < slots) ∨ (l % 2 = 0 ∧ l / 2 < regs))
def MiOk (regs slots : Nat) (x : Mi) : Prop :=
  (x.op = 18 ∧ LocOk regs slots x.dst ∧ LocOk regs slots x.src) ∨ (x.op = 17 ∧ 0 ≤ x.a ∧ x.a < regs) ∨
    (¬ x.op = 18 ∧ ¬ x.op = 17 ∧ InI x.imm ∧ 0 ≤ x.a ∧ x.a < regs ∧ 0 ≤ x.d ∧ x.d < regs ∧ 0 ≤ x.b ∧ x.b < regs)
structure OkM (regs slots : Nat) (bs : List MBlk) : Prop where
  ne : 0 < bs.length
  ins : ∀ b ∈ bs, ∀ i ∈ b.code, MiOk regs slots i
  tm : ∀ b ∈ bs, TmOk regs bs.length b.term
structure GoodX (regs slots : Nat) (bs : List MBlk) (r : Xn) : Prop where
  blk : r.blk < bs.length
  pos : r.pos ≤ (mblkAt bs r.blk).code.length
  lenr : r.regs.length = regs
  lens : r.slots.length = slots
  wfr : ∀ v ∈ r.regs, InI v
  wfs : ∀ v ∈ r.slots, InI v
  tr : r.trace.length ≤ r.steps

theorem mblkAt_lt {bs : List MBlk} {k : Nat} (h : k < bs.length) : mblkAt bs k = bs[k] := by simp [mblkAt, List.getD, h]
theorem mblkAt_mem {bs : List MBlk} {k : Nat} (h : k < bs.length) : mblkAt bs k ∈ bs := by rw [mblkAt_lt h]; exact List.getElem_mem h

theorem locS_ok {l : Int} {regs slots : Nat} (h : locS l regs slots = true) : LocOk regs slots l := by
  unfold locS at h
  by_cases h0 : l < 0
  · rw [if_pos h0] at h; cases h
  · rw [if_neg h0] at h
    by_cases h1 : l % 2 = 1
    · rw [if_pos h1] at h
      exact ⟨by omega, .inl ⟨h1, of_decide_eq_true h⟩⟩
    · rw [if_neg h1] at h
      exact ⟨by omega, .inr ⟨by omega, of_decide_eq_true h⟩⟩
theorem locOk_S {l : Int} {regs slots : Nat} (h : LocOk regs slots l) : locS l regs slots = true := by
  obtain ⟨h0, ⟨h1, h2⟩ | ⟨h1, h2⟩⟩ := h
  · unfold locS
    rw [if_neg (by omega), if_pos h1]
    exact decide_eq_true h2
  · unfold locS
    rw [if_neg (by omega), if_neg (by omega)]
    exact decide_eq_true h2
theorem eM_ok {x : Mi} {regs slots : Nat} (h : eM x regs slots = 0) (hw : x.Wf) : MiOk regs slots x := by
  unfold eM at h
  split at h
  · split at h
    · rename_i hm
      unfold eMv at h
      split at h
      · cases h
      · rename_i hb
        unfold Mi.bad at hb
        simp only [Bool.or_eq_true, Bool.not_eq_true', not_or, Bool.not_eq_false] at hb
        exact .inl ⟨by simpa [Mi.mv] using hm, locS_ok hb.1.1, locS_ok hb.1.2⟩
    · rename_i hm
      have h18 : ¬ x.op = 18 := by simpa [Mi.mv] using hm
      have he : eI x.ins regs = 0 := by
        unfold eOt at h
        split at h
        · cases h
        · exact h
      have hi : x.ins.Wf := ⟨hw.1, hw.2.1, hw.2.2.1, hw.2.2.2.1, hw.2.2.2.2.1⟩
      obtain ⟨g1, g2, g3, g4⟩ := eI_ok he hi
      rcases g4 with g4 | ⟨g4, g5⟩
      · exact .inr (.inl ⟨g4, g2, g3⟩)
      · exact .inr (.inr ⟨h18, g4, g1, g2, g3, g5⟩)
  · cases h
theorem eMBs_ok {regs slots : Nat} {n : Nat} : ∀ {l : List MBlk}, eMBs regs slots n l = 0 → (∀ y ∈ l, y.Wf) → (∀ b ∈ l, ∀ i ∈ b.code, MiOk regs slots i) ∧ ∀ b ∈ l, TmOk regs n b.term
  | [], _, _ => ⟨fun b hb => by simp at hb, fun b hb => by simp at hb⟩
  | x :: r, h, hw => by
    unfold eMBs at h
    split at h
    · rename_i hx
      obtain ⟨h1, h2⟩ := eMBs_ok h (fun z hz => hw z (by simp [hz]))
      unfold eMB at hx
      split at hx
      · rename_i hi
        have hxw := hw x (by simp)
        have hall := ((eCd_ok regs slots x.code 0 (by omega)).1 hi).1
        refine ⟨fun b hb i him => ?_, fun b hb => ?_⟩
        · rcases List.mem_cons.1 hb with rfl | hb
          · exact eM_ok (hall i him) (hxw.1 i him)
          · exact h1 b hb i him
        · rcases List.mem_cons.1 hb with rfl | hb
          · exact eT_ok hx
          · exact h2 b hb
      · rename_i hi; exact absurd hx hi
    · rename_i hx; exact absurd h hx
/-- What Check's acceptance says. -/
theorem eMF_ok {args regs slots : Int} {bs : List MBlk} (h : eMF args regs slots bs = 0) (hw : ∀ y ∈ bs, y.Wf) : ∃ n m : Nat, regs = n ∧ slots = m ∧ 0 ≤ args ∧ args ≤ m ∧ OkM n m bs := by
  unfold eMF at h
  split at h
  · rename_i hz
    unfold eMSz at hz
    split at hz
    · cases hz
    · rename_i h1
      split at hz
      · cases hz
      · rename_i h2
        split at hz
        · cases hz
        · split at hz
          · cases hz
          · rename_i h3
            obtain ⟨n, rfl⟩ := Int.eq_ofNat_of_zero_le (show 0 ≤ regs by omega)
            obtain ⟨m, rfl⟩ := Int.eq_ofNat_of_zero_le (show 0 ≤ slots by omega)
            obtain ⟨g1, g2⟩ := eMBs_ok h hw
            exact ⟨n, m, rfl, rfl, by omega, by omega, ⟨by omega, g1, g2⟩⟩
  · rename_i hz; exact absurd h hz

section
variable {regs slots : Nat} {bs : List MBlk} {r : Xn}
theorem GoodX.reg (h : GoodX regs slots bs r) {k : Int} (h0 : 0 ≤ k) (h1 : k < regs) : InI (rg r.regs k) := h.wfr _ (rg_mem h0 (by rw [h.lenr]; exact h1))
theorem GoodX.rd (h : GoodX regs slots bs r) {l : Int} (hl : LocOk regs slots l) : InI (rdX r l) := by
  obtain ⟨h0, ⟨h1, h2⟩ | ⟨h1, h2⟩⟩ := hl
  · rw [rdX, if_pos h1]
    exact h.wfs _ (rg_mem (by omega) (by rw [h.lens]; exact h2))
  · rw [rdX, if_neg (by omega)]
    exact h.wfr _ (rg_mem (by omega) (by rw [h.lenr]; exact h2))
theorem putX_ways (r : Xn) (l v : Int) : (l % 2 = 1 ∧ putX r l v = { r with slots := r.slots.set (l / 2).toNat v }) ∨ (¬ l % 2 = 1 ∧ putX r l v = { r with regs := r.regs.set (l / 2).toNat v }) := by
  unfold putX
  by_cases h : l % 2 = 1
  · rw [if_pos h]; exact .inl ⟨h, rfl⟩
  · rw [if_neg h]; exact .inr ⟨h, rfl⟩
theorem xperf_good (h : GoodX regs slots bs r) (hp : r.pos < (mblkAt bs r.blk).code.length) {i : Mi} (hi : MiOk regs slots i) : GoodX regs slots bs (xperf i r) := by
  unfold xperf
  split
  · rename_i h18
    rcases hi with ⟨_, hd, hs⟩ | ⟨h1, _⟩ | ⟨h1, _⟩
    · have hv := h.rd hs
      rcases putX_ways r i.dst (rdX r i.src) with ⟨_, e⟩ | ⟨_, e⟩
      · rw [e]
        refine ⟨h.blk, hp, h.lenr, by rw [List.length_set]; exact h.lens, h.wfr, fun v hv2 => ?_, Nat.le_succ_of_le h.tr⟩
        rcases List.mem_or_eq_of_mem_set hv2 with hv2 | rfl
        · exact h.wfs v hv2
        · exact hv
      · rw [e]
        refine ⟨h.blk, hp, by rw [List.length_set]; exact h.lenr, h.lens, fun v hv2 => ?_, h.wfs, Nat.le_succ_of_le h.tr⟩
        rcases List.mem_or_eq_of_mem_set hv2 with hv2 | rfl
        · exact h.wfr v hv2
        · exact hv
    · omega
    · exact absurd h18 h1
  · rename_i h18
    split
    · exact ⟨h.blk, hp, h.lenr, h.lens, h.wfr, h.wfs, by show (r.trace ++ [_]).length ≤ r.steps + 1; rw [List.length_append]; exact Nat.succ_le_succ h.tr⟩
    · rename_i h17
      split
      · refine ⟨h.blk, hp, by rw [List.length_set]; exact h.lenr, h.lens, fun v hv => ?_, h.wfs, Nat.le_succ_of_le h.tr⟩
        rcases List.mem_or_eq_of_mem_set hv with hv | rfl
        · exact h.wfr v hv
        · rcases hi with ⟨h1, _⟩ | ⟨h1, _⟩ | ⟨_, _, h1, h2, h3, h4, h5, h6, h7⟩
          · exact absurd h1 h18
          · exact absurd h1 h17
          · exact ev_in (h.reg h2 h3) (h.reg h6 h7) h1
      · exact ⟨h.blk, h.pos, h.lenr, h.lens, h.wfr, h.wfs, h.tr⟩
theorem xleav_good (h : GoodX regs slots bs r) {t : Tm} (ht : TmOk regs bs.length t) : GoodX regs slots bs (xleav t r) := by
  unfold xleav
  split
  · exact ⟨h.blk, h.pos, h.lenr, h.lens, h.wfr, h.wfs, Nat.le_succ_of_le h.tr⟩
  · rename_i h3
    refine ⟨?_, Nat.zero_le _, h.lenr, h.lens, h.wfr, h.wfs, Nat.le_succ_of_le h.tr⟩
    show (if t.kind = 2 ∧ rg r.regs t.a = 0 then t.el.toNat else t.to.toNat) < bs.length
    rcases ht with ⟨e, h1, h2⟩ | ⟨e, h1, h2, h4, h5, h6, h7⟩ | ⟨e, h1, h2⟩
    · rw [if_neg (fun h => by omega)]
      have : t.to.toNat < bs.length := by clear h3; omega
      exact this
    · have g1 : t.to.toNat < bs.length := by clear h3; omega
      have g2 : t.el.toNat < bs.length := by clear h3; omega
      split
      · exact g2
      · exact g1
    · exact absurd e h3
theorem stepX_good (hF : OkM regs slots bs) (h : GoodX regs slots bs r) : GoodX regs slots bs (stepX bs r) := by
  unfold stepX
  split
  · split
    · rename_i hp
      exact xperf_good h hp (hF.ins _ (mblkAt_mem h.blk) _ (List.getElem_mem hp))
    · exact xleav_good h (hF.tm _ (mblkAt_mem h.blk))
  · exact h
theorem runX_good (hF : OkM regs slots bs) (h : GoodX regs slots bs r) : ∀ n, GoodX regs slots bs (runX bs r n)
  | 0 => h
  | n + 1 => stepX_good hF (runX_good hF h n)
theorem xn0_good {args : List Int} (hF : OkM regs slots bs) (hl : args.length ≤ slots) (hw : ∀ v ∈ args, InI v) : GoodX regs slots bs (xn0 regs slots args) :=
  ⟨hF.ne, Nat.zero_le _, by simp [xn0], by simp [xn0]; omega, fun v hv => by
    rw [(List.mem_replicate.1 hv).2]; unfold InI; decide, fun v hv => by
    rcases List.mem_append.1 hv with hv | hv
    · exact hw v hv
    · rw [(List.mem_replicate.1 hv).2]; unfold InI; decide, Nat.le_refl _⟩

theorem xperf_steps (i : Mi) (r : Xn) : ((xperf i r).st = 2 ∧ (xperf i r).steps = r.steps ∨ (xperf i r).st = r.st ∧ (xperf i r).steps = r.steps + 1) ∧ ∃ l, (xperf i r).trace = r.trace ++ l := by
  unfold xperf
  split
  · rcases putX_ways r i.dst (rdX r i.src) with ⟨_, e⟩ | ⟨_, e⟩
    · rw [e]; exact ⟨.inr ⟨rfl, rfl⟩, [], by simp⟩
    · rw [e]; exact ⟨.inr ⟨rfl, rfl⟩, [], by simp⟩
  · split
    · exact ⟨.inr ⟨rfl, rfl⟩, [_], rfl⟩
    · split
      · exact ⟨.inr ⟨rfl, rfl⟩, [], by simp⟩
      · exact ⟨.inl ⟨rfl, rfl⟩, [], by simp⟩
theorem xleav_steps (t : Tm) (r : Xn) : ((xleav t r).st = 1 ∨ (xleav t r).st = r.st) ∧ (xleav t r).steps = r.steps + 1 ∧ (xleav t r).trace = r.trace := by
  unfold xleav
  split
  · exact ⟨.inl rfl, rfl, rfl⟩
  · exact ⟨.inr rfl, rfl, rfl⟩
theorem stepX_stop {bs : List MBlk} {r : Xn} (h : ¬ r.st = 0) : stepX bs r = r := by rw [stepX, if_neg h]
theorem stepX_steps (bs : List MBlk) (r : Xn) : (stepX bs r).steps ≤ r.steps + 1 ∧ ((stepX bs r).st = 0 → r.st = 0 ∧ (stepX bs r).steps = r.steps + 1) ∧ ∃ l, (stepX bs r).trace = r.trace ++ l := by
  by_cases h : r.st = 0
  · rw [stepX, if_pos h]
    split
    · rename_i hp
      obtain ⟨h1, h2⟩ := xperf_steps ((mblkAt bs r.blk).code[r.pos]) r
      refine ⟨by omega, fun h0 => ⟨h, by omega⟩, h2⟩
    · obtain ⟨h1, h2, h3⟩ := xleav_steps (mblkAt bs r.blk).term r
      exact ⟨by omega, fun h0 => ⟨h, h2⟩, [], by rw [h3]; simp⟩
  · rw [stepX_stop h]
    exact ⟨by omega, fun h0 => absurd h0 h, [], by simp⟩
theorem stepX_pre (bs : List MBlk) (r : Xn) : (stepX bs r).steps ≤ r.steps + 1 ∧ r.steps ≤ (stepX bs r).steps := by
  refine ⟨(stepX_steps bs r).1, ?_⟩
  by_cases h : r.st = 0
  · rw [stepX, if_pos h]
    split
    · rename_i hp
      have := (xperf_steps ((mblkAt bs r.blk).code[r.pos]) r).1
      omega
    · have := (xleav_steps (mblkAt bs r.blk).term r).2.1
      omega
  · rw [stepX_stop h]; exact Nat.le_refl _

theorem runX_steps (bs : List MBlk) (r : Xn) : ∀ n, (runX bs r n).steps ≤ r.steps + n ∧ r.steps ≤ (runX bs r n).steps ∧ ((runX bs r n).st = 0 → (runX bs r n).steps = r.steps + n)
  | 0 => ⟨Nat.le_refl _, Nat.le_refl _, fun _ => rfl⟩
  | n + 1 => by
    obtain ⟨h1, h2, h3⟩ := runX_steps bs r n
    obtain ⟨g1, g2, _⟩ := stepX_steps bs (runX bs r n)
    have g3 := (stepX_pre bs (runX bs r n)).2
    refine ⟨?_, ?_, fun h0 => ?_⟩
    · show (stepX bs (runX bs r n)).steps ≤ _
      omega
    · show _ ≤ (stepX bs (runX bs r n)).steps
      omega
    · obtain ⟨k1, k2⟩ := g2 h0
      have := h3 k1
      show (stepX bs (runX bs r n)).steps = _
      omega
theorem runX_stop (bs : List MBlk) (r : Xn) {n : Nat} (h : ¬ (runX bs r n).st = 0) : ∀ k, runX bs r (n + k) = runX bs r n
  | 0 => rfl
  | k + 1 => by
    show stepX bs (runX bs r (n + k)) = _
    rw [runX_stop bs r h k, stepX_stop h]
theorem runX_pre (bs : List MBlk) (r : Xn) (n : Nat) : ∀ k, ∃ l, (runX bs r (n + k)).trace = (runX bs r n).trace ++ l
  | 0 => ⟨[], by simp⟩
  | k + 1 => by
    obtain ⟨l, hl⟩ := runX_pre bs r n k
    obtain ⟨l2, hl2⟩ := (stepX_steps bs (runX bs r (n + k))).2.2
    refine ⟨l ++ l2, ?_⟩
    show (stepX bs (runX bs r (n + k))).trace = _
    rw [hl2, hl, List.append_assoc]
theorem runX_mono (bs : List MBlk) (r : Xn) (n : Nat) : ∀ k, (runX bs r n).steps ≤ (runX bs r (n + k)).steps
  | 0 => Nat.le_refl _
  | k + 1 => Nat.le_trans (runX_mono bs r n k) (stepX_pre bs (runX bs r (n + k))).2
end

end Go.Proofs.Ytcimjghejclknaa
