/-
  An accepted block simulates its source block.
-/
import Derived.Test.YtcoehkphdfejjaaPk5
import Derived.Test.YtcoehkphdfejjaaPk1
namespace Go.Proofs.Ytcoehkphdfejjaa
open Go.RowKit
set_option linter.unusedVariables false

/-- The value of a location. -/
def rd2 (yr ys : List Int) (l : Int) : Int := if l % 2 = 1 then rg ys (l / 2) else rg yr (l / 2)

/-- All pairs of a set hold. -/
def HoldS (n m : Nat) (S : List Pr) (x yr ys : List Int) : Prop := ∀ q ∈ S, 0 ≤ q.1 ∧ q.1 < x.length ∧ LocOk n m q.2 ∧ rd2 yr ys q.2 = rg x q.1

theorem rg_set_eq {l : List Int} {d : Int} (h0 : 0 ≤ d) (h1 : d < l.length) (v : Int) : rg (l.set d.toNat v) d = v := by
  have : d.toNat < l.length := by omega
  simp [rg, List.getD, this]

theorem rg_set_ne {l : List Int} {d q : Int} (h0 : 0 ≤ d) (hq : 0 ≤ q) (h : q ≠ d) (v : Int) : rg (l.set d.toNat v) q = rg l q := by
  have : d.toNat ≠ q.toNat := by omega
  simp [rg, List.getD, List.getElem?_set_ne this]

section
variable {n m : Nat} {S : List Pr} {x yr ys : List Int}

theorem hold_cp (h : HoldS n m S x yr ys) {d a : Int} (h0 : 0 ≤ d) (h1 : d < x.length) : HoldS n m (cpP S d a) (x.set d.toNat (rg x a)) yr ys := fun q hq => by
  rcases mem_cpP.1 hq with ⟨g1, g2⟩ | ⟨g1, g2⟩
  · obtain ⟨a1, a2, a3, a4⟩ := h q g1
    refine ⟨a1, by rw [List.length_set]; exact a2, a3, ?_⟩
    by_cases hd : q.1 = d
    · rw [hd, rg_set_eq h0 h1, a4, hd]
      rcases g2 with g2 | g2
      · rw [g2]
      · exact absurd hd g2
    · rw [rg_set_ne h0 a1 hd]
      exact a4
  · obtain ⟨a1, a2, a3, a4⟩ := h _ g2
    refine ⟨by omega, by rw [List.length_set]; omega, a3, ?_⟩
    rw [g1, rg_set_eq h0 h1]
    exact a4

/-- The values with another one at a location. -/
def put2 (yr ys : List Int) (l v : Int) : List Int × List Int := if l % 2 = 1 then (yr, ys.set (l / 2).toNat v) else (yr.set (l / 2).toNat v, ys)

theorem put2_eq {l : Int} (hl : LocOk yr.length ys.length l) (v : Int) : rd2 (put2 yr ys l v).1 (put2 yr ys l v).2 l = v := by
  obtain ⟨h0, ⟨h1, h2⟩ | ⟨h1, h2⟩⟩ := hl
  · unfold put2 rd2
    rw [if_pos h1, if_pos h1]
    exact rg_set_eq (by omega) h2 v
  · unfold put2 rd2
    rw [if_neg (by omega), if_neg (by omega)]
    exact rg_set_eq (by omega) h2 v

theorem put2_ne {l q : Int} (hl : 0 ≤ l) (hq : 0 ≤ q) (h : q ≠ l) (v : Int) : rd2 (put2 yr ys l v).1 (put2 yr ys l v).2 q = rd2 yr ys q := by
  unfold put2 rd2
  by_cases h1 : l % 2 = 1
  · rw [if_pos h1]
    by_cases h2 : q % 2 = 1
    · rw [if_pos h2, if_pos h2]
      exact rg_set_ne (by omega) (by omega) (by omega) v
    · rw [if_neg h2, if_neg h2]
  · rw [if_neg h1]
    by_cases h2 : q % 2 = 1
    · rw [if_pos h2, if_pos h2]
    · rw [if_neg h2, if_neg h2]
      exact rg_set_ne (by omega) (by omega) (by omega) v

theorem put2_len (l v : Int) : (put2 yr ys l v).1.length = yr.length ∧ (put2 yr ys l v).2.length = ys.length := by
  unfold put2
  split <;> simp

theorem hold_mv (h : HoldS n m S x yr ys) (hn : yr.length = n) (hm : ys.length = m) {t s : Int} (ht : LocOk n m t) : HoldS n m (mvP S t s) x (put2 yr ys t (rd2 yr ys s)).1 (put2 yr ys t (rd2 yr ys s)).2 := fun q hq => by
  subst hn hm
  rcases mem_mvP.1 hq with ⟨g1, g2⟩ | ⟨g1, g2⟩
  · obtain ⟨a1, a2, a3, a4⟩ := h q g1
    refine ⟨a1, a2, a3, ?_⟩
    by_cases hd : q.2 = t
    · rw [hd, put2_eq ht]
      rcases g2 with g2 | g2
      · rw [← g2, ← hd]
        exact a4
      · exact absurd hd g2
    · rw [put2_ne ht.1 a3.1 hd]
      exact a4
  · obtain ⟨a1, a2, a3, a4⟩ := h _ g2
    refine ⟨a1, a2, by rw [g1]; exact ht, ?_⟩
    rw [g1, put2_eq ht]
    exact a4

theorem rd2_reg (g : Int) : rd2 yr ys (2 * g) = rg yr g := by
  unfold rd2
  rw [if_neg (by omega), show 2 * g / 2 = g by omega]

theorem hold_df (h : HoldS n m S x yr ys) (hn : yr.length = n) (hm : ys.length = m) {d g : Int} (h0 : 0 ≤ d) (h1 : d < x.length) (g0 : 0 ≤ g) (g1 : g < n) (z : Int) : HoldS n m (dfP S d (2 * g)) (x.set d.toNat z) (yr.set g.toNat z) ys := fun q hq => by
  subst hn hm
  rcases mem_dfP.1 hq with ⟨k1, k2, k3⟩ | rfl
  · obtain ⟨a1, a2, a3, a4⟩ := h q k1
    refine ⟨a1, by rw [List.length_set]; exact a2, a3, ?_⟩
    rw [rg_set_ne h0 a1 k2, ← a4]
    have := put2_ne (yr := yr) (ys := ys) (l := 2 * g) (by omega) a3.1 k3 z
    unfold put2 at this
    rw [if_neg (by omega), show 2 * g / 2 = g by omega] at this
    exact this
  · refine ⟨h0, by rw [List.length_set]; exact h1, ⟨by omega, .inr ⟨by omega, by omega⟩⟩, ?_⟩
    rw [rd2_reg, rg_set_eq g0 g1, rg_set_eq h0 h1]

end

/-- What a step that goes on has done. -/
theorem stepE_out {most : Int} {r : Rs} {e : EOp} (h : (stepE most r e).err = 0) : r.err = 0 ∧ (stepE most r e).out = e.set r.out ∧ ∀ v g k, e = .us v g k → (v, 2 * g) ∈ r.out := by
  by_cases h0 : r.err = 0
  · refine ⟨h0, ?_, ?_⟩
    · rcases stepE_ways most r e h0 with ⟨h1, _⟩ | ⟨h1, _⟩ | h1 | ⟨h1, h2⟩
      · rw [h1]
      · rw [h1] at h; cases h
      · rw [h1] at h; cases h
      · rw [h1, h2]
    · rintro v g k rfl
      cases hh : hasP r.out (v, 2 * g)
      · unfold stepE at h
        rw [if_pos h0] at h
        change (r.use v g k).err = 0 at h
        rw [Rs.use, hh, if_neg (by simp)] at h
        cases h
      · simpa [hasP] using hh
  · rw [stepE_err h0] at h
    exact absurd h h0

theorem foldE_first {most : Int} {es : List EOp} {r : Rs} (h : (foldE most es r).err = 0) : r.err = 0 := by
  by_cases h0 : r.err = 0
  · exact h0
  · rw [foldE_err h0] at h
    exact absurd h h0

theorem runR_add (bs : List Blk) (x : Rn) (a : Nat) : ∀ b, runR bs x (a + b) = runR bs (runR bs x a) b
  | 0 => rfl
  | b + 1 => by
    show stepR bs (runR bs x (a + b)) = stepR bs (runR bs (runR bs x a) b)
    rw [runR_add bs x a b]

theorem runX_add (ms : List MBlk) (y : Xn) (a : Nat) : ∀ b, runX ms y (a + b) = runX ms (runX ms y a) b
  | 0 => rfl
  | b + 1 => by
    show stepX ms (runX ms y (a + b)) = stepX ms (runX ms (runX ms y a) b)
    rw [runX_add ms y a b]

/-- The source run, the allocated run, in block q. -/
structure SQ (N q i : Nat) (x : Rn) : Prop where
  st : x.st = 0
  blk : x.blk = q
  pos : x.pos = i
  len : x.regs.length = N
  val : x.val = 0

structure SZ (n m q k : Nat) (y : Xn) : Prop where
  st : y.st = 0
  blk : y.blk = q
  pos : y.pos = k
  lr : y.regs.length = n
  ls : y.slots.length = m
  val : y.val = 0

/-- In the first block. -/
abbrev SS (N i : Nat) (x : Rn) : Prop := SQ N 0 i x

abbrev SY (n m k : Nat) (y : Xn) : Prop := SZ n m 0 k y

section
variable {N n m q : Nat} {code : List In} {mach : List Mi} {bt mt : Tm} {bs : List Blk} {ms : List MBlk} {most : Int}

theorem step_src (hb : blkAt bs q = ⟨code, bt⟩) {i : Nat} {x : Rn} (h : SQ N q i x) (hi : i < code.length) : stepR bs x = perf code[i] x := by
  have e1 : (blkAt bs x.blk).code = code := by rw [h.blk, hb]
  unfold stepR
  rw [if_pos h.st, dif_pos (by rw [e1, h.pos]; exact hi)]
  congr 1
  simp only [h.blk, hb, h.pos]

theorem step_mach (hb : mblkAt ms q = ⟨mach, mt⟩) {k : Nat} {y : Xn} (h : SZ n m q k y) (hk : k < mach.length) : stepX ms y = xperf mach[k] y := by
  have e1 : (mblkAt ms y.blk).code = mach := by rw [h.blk, hb]
  unfold stepX
  rw [if_pos h.st, dif_pos (by rw [e1, h.pos]; exact hk)]
  congr 1
  simp only [h.blk, hb, h.pos]

/-- Copies. -/
theorem sim_cp (hb : blkAt bs q = ⟨code, bt⟩) (hok : ∀ x ∈ code, InOk N x) (kk : Nat) : ∀ (c i : Nat) (x : Rn) (r : Rs), SQ N q i x → i + c ≤ code.length → (∀ z (h : z < code.length), i ≤ z → z < i + c → isC code[z] = true) → ∀ (yr ys : List Int), HoldS n m r.out x.regs yr ys →
    (foldE most (((code.drop i).take c).map fun x => EOp.cp x.d x.a kk) r).err = 0 →
    SQ N q (i + c) (runR bs x c) ∧ (runR bs x c).trace = x.trace ∧ HoldS n m (foldE most (((code.drop i).take c).map fun x => EOp.cp x.d x.a kk) r).out (runR bs x c).regs yr ys
  | 0, i, x, r, hx, _, _, yr, ys, hh, _ => by
    rw [List.take_zero, List.map_nil, foldE_nil]
    exact ⟨hx, rfl, hh⟩
  | c + 1, i, x, r, hx, hc, hz, yr, ys, hh, hf => by
    have hi : i < code.length := by omega
    rw [List.drop_eq_getElem_cons hi, List.take_succ_cons, List.map_cons, foldE_cons] at hf ⊢
    obtain ⟨s1, s2, _⟩ := stepE_out (foldE_first hf)
    have hcp := hz i hi (Nat.le_refl _) (by omega)
    have h2 : code[i].op = 2 := by simpa [isC] using hcp
    obtain ⟨o1, o2, o3, o4⟩ := hok _ (List.getElem_mem hi)
    obtain ⟨o5, o6, o7, o8, o9⟩ := o4.resolve_left (by omega)
    have hp : perf code[i] x = { x with regs := x.regs.set code[i].d.toNat (rg x.regs code[i].a), pos := x.pos + 1, steps := x.steps + 1 } := by
      unfold perf
      rw [if_neg (by omega), h2, if_pos (by rfl), ev_2]
    have hst : SQ N q (i + 1) (stepR bs x) := by
      rw [step_src hb hx hi, hp]
      exact ⟨hx.st, hx.blk, by show x.pos + 1 = _; rw [hx.pos], by show (x.regs.set _ _).length = _; rw [List.length_set]; exact hx.len, hx.val⟩
    have hh2 : HoldS n m (stepE most r (.cp code[i].d code[i].a kk)).out (stepR bs x).regs yr ys := by
      rw [s2, step_src hb hx hi, hp]
      exact hold_cp hh o6 (by rw [hx.len]; exact o7)
    have ht : (stepR bs x).trace = x.trace := by rw [step_src hb hx hi, hp]
    obtain ⟨r1, r2, r3⟩ := sim_cp hb hok kk c (i + 1) (stepR bs x) _ hst (by omega) (fun z h h1 h2 => hz z h (by omega) (by omega)) yr ys hh2 hf
    have e : runR bs x (c + 1) = runR bs (stepR bs x) c := by
      rw [Nat.add_comm c 1, runR_add]
      rfl
    rw [e]
    exact ⟨by rw [show i + (c + 1) = i + 1 + c by omega]; exact r1, r2.trans ht, r3⟩

/-- Moves. -/
theorem sim_mv (hb : mblkAt ms q = ⟨mach, mt⟩) (hok : ∀ y ∈ mach, MiOk n m y) : ∀ (c k : Nat) (y : Xn) (r : Rs), SZ n m q k y → k + c ≤ mach.length → (∀ z (h : z < mach.length), k ≤ z → z < k + c → isM mach[z] = true) → ∀ x : List Int, HoldS n m r.out x y.regs y.slots →
    (foldE most (mvOps ((mach.drop k).take c) k) r).err = 0 →
    SZ n m q (k + c) (runX ms y c) ∧ (runX ms y c).trace = y.trace ∧ HoldS n m (foldE most (mvOps ((mach.drop k).take c) k) r).out x (runX ms y c).regs (runX ms y c).slots
  | 0, k, y, r, hy, _, _, x, hh, _ => by
    rw [List.take_zero, mvOps, foldE_nil]
    exact ⟨hy, rfl, hh⟩
  | c + 1, k, y, r, hy, hc, hz, x, hh, hf => by
    have hk : k < mach.length := by omega
    rw [List.drop_eq_getElem_cons hk, List.take_succ_cons, mvOps, foldE_cons] at hf ⊢
    obtain ⟨s1, s2, _⟩ := stepE_out (foldE_first hf)
    have hmv := hz k hk (Nat.le_refl _) (by omega)
    have h18 : mach[k].op = 18 := by simpa [isM] using hmv
    have ho : LocOk n m mach[k].dst := by
      rcases hok _ (List.getElem_mem hk) with ⟨_, h1, _⟩ | ⟨h1, _⟩ | ⟨h1, _⟩
      · exact h1
      · omega
      · omega
    have hp : xperf mach[k] y = { putX y mach[k].dst (rdX y mach[k].src) with pos := y.pos + 1, steps := y.steps + 1 } := by
      unfold xperf
      rw [if_pos h18]
    have hr : (stepX ms y).regs = (put2 y.regs y.slots mach[k].dst (rd2 y.regs y.slots mach[k].src)).1 ∧ (stepX ms y).slots = (put2 y.regs y.slots mach[k].dst (rd2 y.regs y.slots mach[k].src)).2 ∧ (stepX ms y).st = 0 ∧ (stepX ms y).blk = q ∧ (stepX ms y).pos = k + 1 ∧ (stepX ms y).val = 0 ∧ (stepX ms y).trace = y.trace := by
      rw [step_mach hb hy hk, hp]
      unfold put2
      rcases putX_ways y mach[k].dst (rdX y mach[k].src) with ⟨h1, h2⟩ | ⟨h1, h2⟩
      · rw [h2, if_pos h1]
        exact ⟨rfl, rfl, hy.st, hy.blk, by show y.pos + 1 = _; rw [hy.pos], hy.val, rfl⟩
      · rw [h2, if_neg h1]
        exact ⟨rfl, rfl, hy.st, hy.blk, by show y.pos + 1 = _; rw [hy.pos], hy.val, rfl⟩
    obtain ⟨p1, p2, p3, p4, p5, p6, p7⟩ := hr
    have hl := put2_len (yr := y.regs) (ys := y.slots) mach[k].dst (rd2 y.regs y.slots mach[k].src)
    have hst : SZ n m q (k + 1) (stepX ms y) := ⟨p3, p4, p5, by rw [p1, hl.1]; exact hy.lr, by rw [p2, hl.2]; exact hy.ls, p6⟩
    have hh2 : HoldS n m (stepE most r (.mv mach[k].dst mach[k].src k)).out x (stepX ms y).regs (stepX ms y).slots := by
      rw [s2, p1, p2]
      exact hold_mv hh hy.lr hy.ls ho
    obtain ⟨r1, r2, r3⟩ := sim_mv hb hok c (k + 1) (stepX ms y) _ hst (by omega) (fun z h h1 h2 => hz z h (by omega) (by omega)) x hh2 hf
    have e : runX ms y (c + 1) = runX ms (stepX ms y) c := by
      rw [Nat.add_comm c 1, runX_add]
      rfl
    rw [e]
    exact ⟨by rw [show k + (c + 1) = k + 1 + c by omega]; exact r1, r2.trans p7, r3⟩

/-- The elementary operations of an instruction that went well. -/
theorem ins_out {x : In} {y : Mi} {kk : Nat} {r : Rs} (hf : (foldE most (insOps x y kk) r).err = 0) :
    (uA x.op = true → (x.a, 2 * y.a) ∈ r.out) ∧ (uB x.op = true → (x.b, 2 * y.b) ∈ r.out) ∧ (foldE most (insOps x y kk) r).out = if uD x.op = true then dfP r.out x.d (2 * y.d) else r.out := by
  unfold insOps at hf ⊢
  rw [foldE_append, foldE_append] at hf ⊢
  obtain ⟨r1, hr1⟩ : ∃ z, z = foldE most (if uA x.op = true then [EOp.us x.a y.a kk] else []) r := ⟨_, rfl⟩
  rw [← hr1] at hf ⊢
  obtain ⟨r2, hr2⟩ : ∃ z, z = foldE most (if uB x.op = true then [EOp.us x.b y.b kk] else []) r1 := ⟨_, rfl⟩
  rw [← hr2] at hf ⊢
  have h2 : r2.err = 0 := foldE_first hf
  have h1 : r1.err = 0 := by rw [hr2] at h2; exact foldE_first h2
  have a1 : (uA x.op = true → (x.a, 2 * y.a) ∈ r.out) ∧ r1.out = r.out := by
    by_cases hu : uA x.op = true
    · rw [if_pos hu, foldE_cons, foldE_nil] at hr1
      rw [hr1] at h1 ⊢
      obtain ⟨_, b2, b3⟩ := stepE_out h1
      exact ⟨fun _ => b3 _ _ _ rfl, b2⟩
    · rw [if_neg hu, foldE_nil] at hr1
      exact ⟨fun h => absurd h hu, by rw [hr1]⟩
  have a2 : (uB x.op = true → (x.b, 2 * y.b) ∈ r1.out) ∧ r2.out = r1.out := by
    by_cases hu : uB x.op = true
    · rw [if_pos hu, foldE_cons, foldE_nil] at hr2
      rw [hr2] at h2 ⊢
      obtain ⟨_, b2, b3⟩ := stepE_out h2
      exact ⟨fun _ => b3 _ _ _ rfl, b2⟩
    · rw [if_neg hu, foldE_nil] at hr2
      exact ⟨fun h => absurd h hu, by rw [hr2]⟩
  refine ⟨a1.1, fun hu => a1.2 ▸ a2.1 hu, ?_⟩
  by_cases hu : uD x.op = true
  · rw [if_pos hu] at hf ⊢
    rw [if_pos hu]
    rw [foldE_cons, foldE_nil] at hf ⊢
    obtain ⟨_, b2, _⟩ := stepE_out hf
    rw [b2, a2.2, a1.2]
    rfl
  · rw [if_neg hu, if_neg hu, foldE_nil, a2.2, a1.2]

/-- An instruction and its allocated one. -/
theorem sim_ins (hb : blkAt bs q = ⟨code, bt⟩) (hmb : mblkAt ms q = ⟨mach, mt⟩) {i k : Nat} (hi : i < code.length) (hk : k < mach.length) (hok : InOk N code[i]) (hmk : MiOk n m mach[k]) (hs : smP code[i] mach[k] = true) {x : Rn} {y : Xn} {r : Rs} {kk : Nat} (hx : SQ N q i x) (hy : SZ n m q k y) (ht : x.trace = y.trace)
    (hh : HoldS n m r.out x.regs y.regs y.slots) (hf : (foldE most (insOps code[i] mach[k] kk) r).err = 0) :
    (stepR bs x).st = 2 ∨ (SQ N q (i + 1) (stepR bs x) ∧ SZ n m q (k + 1) (stepX ms y) ∧ (stepR bs x).trace = (stepX ms y).trace ∧ HoldS n m (foldE most (insOps code[i] mach[k] kk) r).out (stepR bs x).regs (stepX ms y).regs (stepX ms y).slots) := by
  obtain ⟨a1, a2, a3⟩ := ins_out hf
  rw [a3, step_src hb hx hi, step_mach hmb hy hk]
  generalize code[i] = u at *
  generalize mach[k] = v at *
  clear a3 hf
  simp only [smP, Bool.and_eq_true, beq_iff_eq, bne_iff_ne] at hs
  obtain ⟨⟨⟨e1, e2⟩, e3⟩, e4⟩ := hs
  obtain ⟨o1, o2, o3, o4⟩ := hok
  have hA : uA u.op = true → rg x.regs u.a = rg y.regs v.a := fun h => by
    have := (hh _ (a1 h)).2.2.2
    rw [rd2_reg] at this
    exact this.symm
  have hB : uB u.op = true → rg x.regs u.b = rg y.regs v.b := fun h => by
    have := (hh _ (a2 h)).2.2.2
    rw [rd2_reg] at this
    exact this.symm
  by_cases h17 : u.op = 17
  · right
    have hp : perf u x = { x with trace := x.trace ++ [rg x.regs u.a], pos := x.pos + 1, steps := x.steps + 1 } := by unfold perf; rw [if_pos h17]
    have hq : xperf v y = { y with trace := y.trace ++ [rg y.regs v.a], pos := y.pos + 1, steps := y.steps + 1 } := by unfold xperf; rw [if_neg (by omega), if_pos (by omega)]
    have hd : uD u.op = false := by rw [h17]; rfl
    rw [hp, hq, hd, if_neg (by simp)]
    refine ⟨⟨hx.st, hx.blk, by show x.pos + 1 = _; rw [hx.pos], hx.len, hx.val⟩, ⟨hy.st, hy.blk, by show y.pos + 1 = _; rw [hy.pos], hy.lr, hy.ls, hy.val⟩, ?_, hh⟩
    show x.trace ++ [rg x.regs u.a] = y.trace ++ [rg y.regs v.a]
    rw [ht, hA (by rw [h17]; rfl)]
  · obtain ⟨o5, o6, o7, o8, o9⟩ := o4.resolve_left h17
    obtain ⟨k1, k2, k3, k4, k5, k6, k7, k8, k9⟩ := (hmk.resolve_left (fun h => by omega)).resolve_left (fun h => by omega)
    by_cases hev : evo u.op (rg x.regs u.b) = true
    · right
      have hrange : 1 ≤ u.op ∧ u.op ≤ 16 := by
        by_cases hr : 1 ≤ u.op ∧ u.op ≤ 16
        · exact hr
        · rw [evo_out hr] at hev
          cases hev
      have hd : uD u.op = true := decide_eq_true hrange
      have hev2 : evo v.op (rg y.regs v.b) = true ∧ ev v.op (rg y.regs v.a) (rg y.regs v.b) v.imm = ev u.op (rg x.regs u.a) (rg x.regs u.b) u.imm := by
        rw [← e1, ← e4]
        by_cases hb5 : 5 ≤ u.op
        · rw [← hB (decide_eq_true ⟨hb5, hrange.2⟩), ← hA (decide_eq_true ⟨by omega, by omega⟩)]
          exact ⟨hev, rfl⟩
        · have e5 : ∀ b, evo u.op b = true := fun b => by
            unfold evo
            rw [decide_eq_true hrange, decide_eq_false (by omega)]
            rfl
          refine ⟨e5 _, ?_⟩
          by_cases h1 : u.op = 1
          · rw [h1]
            rfl
          · rw [← hA (decide_eq_true ⟨by omega, by omega⟩)]
            rcases (by omega : u.op = 2 ∨ u.op = 3 ∨ u.op = 4) with h | h | h <;> rw [h] <;> rfl
      have hp : perf u x = { x with regs := x.regs.set u.d.toNat (ev u.op (rg x.regs u.a) (rg x.regs u.b) u.imm), pos := x.pos + 1, steps := x.steps + 1 } := by unfold perf; rw [if_neg h17, if_pos hev]
      have hq : xperf v y = { y with regs := y.regs.set v.d.toNat (ev u.op (rg x.regs u.a) (rg x.regs u.b) u.imm), pos := y.pos + 1, steps := y.steps + 1 } := by unfold xperf; rw [if_neg k1, if_neg k2, if_pos hev2.1, hev2.2]
      rw [hp, hq, if_pos hd]
      refine ⟨⟨hx.st, hx.blk, by show x.pos + 1 = _; rw [hx.pos], by show (x.regs.set _ _).length = _; rw [List.length_set]; exact hx.len, hx.val⟩, ⟨hy.st, hy.blk, by show y.pos + 1 = _; rw [hy.pos], by show (y.regs.set _ _).length = _; rw [List.length_set]; exact hy.lr, hy.ls, hy.val⟩, ht, ?_⟩
      exact hold_df hh hy.lr hy.ls o6 (by rw [hx.len]; exact o7) k6 k7 _
    · left
      unfold perf
      rw [if_neg h17, if_neg hev]

/-- The rows of a block. -/
theorem sim_rows (hb : blkAt bs q = ⟨code, bt⟩) (hmb : mblkAt ms q = ⟨mach, mt⟩) (hok : ∀ x ∈ code, InOk N x) (hmk : ∀ y ∈ mach, MiOk n m y) {i k : Nat} {rows : List Rw} (hch : Chn code mach i k rows) :
    ∀ (x : Rn) (y : Xn) (r : Rs), SQ N q i x → SZ n m q k y → x.trace = y.trace → HoldS n m r.out x.regs y.regs y.slots → (foldE most (rows.flatMap (rowOps code mach)) r).err = 0 →
      (∃ j, j ≤ code.length - i ∧ (runR bs x j).st = 2) ∨
      (SQ N q code.length (runR bs x (code.length - i)) ∧ SZ n m q mach.length (runX ms y (mach.length - k)) ∧ (runR bs x (code.length - i)).trace = (runX ms y (mach.length - k)).trace ∧
        HoldS n m (foldE most (rows.flatMap (rowOps code mach)) r).out (runR bs x (code.length - i)).regs (runX ms y (mach.length - k)).regs (runX ms y (mach.length - k)).slots) := by
  induction hch with
  | @last i k hi hk hcc hmm =>
    intro x y r hx hy ht hh hf
    right
    rw [List.flatMap_cons, List.flatMap_nil, List.append_nil, rowOps_last, foldE_append] at hf ⊢
    have e1 : (code.drop i).take (code.length - i) = code.drop i := List.take_of_length_le (by simp)
    have e2 : (mach.drop k).take (mach.length - k) = mach.drop k := List.take_of_length_le (by simp)
    have c1 := sim_cp (most := most) (n := n) (m := m) hb hok k (code.length - i) i x r hx (by omega) (fun z h h1 _ => hcc z h h1) y.regs y.slots hh
    rw [e1] at c1
    obtain ⟨s1, s2, s3⟩ := c1 (foldE_first hf)
    have c2 := sim_mv (most := most) (n := n) (m := m) hmb hmk (mach.length - k) k y _ hy (by omega) (fun z h h1 _ => hmm z h h1) _ s3
    rw [e2] at c2
    obtain ⟨t1, t2, t3⟩ := c2 hf
    exact ⟨by rwa [show i + (code.length - i) = code.length by omega] at s1, by rwa [show k + (mach.length - k) = mach.length by omega] at t1, s2.trans (ht.trans t2.symm), t3⟩
  | @step i k a b rest hi hxl hk hyl hcc hmm hs hr ih =>
    intro x y r hx hy ht hh hf
    rw [List.flatMap_cons, foldE_append] at hf ⊢
    have hf1 := foldE_first hf
    rw [rowOps_step hxl hyl, foldE_append, foldE_append] at hf1 hf ⊢
    have hf2 := foldE_first hf1
    have hf3 := foldE_first hf2
    obtain ⟨s1, s2, s3⟩ := sim_cp (most := most) (n := n) (m := m) hb hok k (a - i) i x r hx (by omega) (fun z h h1 h2 => hcc z h h1 (by omega)) y.regs y.slots hh hf3
    obtain ⟨t1, t2, t3⟩ := sim_mv (most := most) (n := n) (m := m) hmb hmk (b - k) k y _ hy (by omega) (fun z h h1 h2 => hmm z h h1 (by omega)) _ s3 hf2
    rw [show i + (a - i) = a by omega] at s1
    rw [show k + (b - k) = b by omega] at t1
    have hio := sim_ins (most := most) (kk := b) hb hmb hxl hyl (hok _ (List.getElem_mem hxl)) (hmk _ (List.getElem_mem hyl)) hs s1 t1 (s2.trans (ht.trans t2.symm)) t3 hf1
    have ex : runR bs x (a - i + 1) = stepR bs (runR bs x (a - i)) := rfl
    have ey : runX ms y (b - k + 1) = stepX ms (runX ms y (b - k)) := rfl
    rcases hio with h2 | ⟨u1, u2, u3, u4⟩
    · exact .inl ⟨a - i + 1, by omega, by rw [ex]; exact h2⟩
    · have c := ih (stepR bs (runR bs x (a - i))) (stepX ms (runX ms y (b - k))) _ u1 u2 u3 u4 hf
      rw [← ex, ← ey, ← runR_add, ← runX_add, show a - i + 1 + (code.length - (a + 1)) = code.length - i by omega, show b - k + 1 + (mach.length - (b + 1)) = mach.length - k by omega] at c
      rcases c with ⟨j, hj, c⟩ | c
      · rw [← runR_add] at c
        exact .inl ⟨a - i + 1 + j, by omega, c⟩
      · exact .inr c

/-- What the statement on soundness asks: from values for which the pairs hold, an accepted block does what its source block does. -/
theorem block_sound (hb : blkAt bs q = ⟨code, bt⟩) (hmb : mblkAt ms q = ⟨mach, mt⟩) (hok : ∀ x ∈ code, InOk N x) (hmk : ∀ y ∈ mach, MiOk n m y) {ok : Bool} (htm : ok = true → bt.kind = mt.kind ∧ bt.to = mt.to ∧ bt.el = mt.el) {l : List Pr} {x : Rn} {y : Xn}
    (hx : SQ N q 0 x) (hy : SZ n m q 0 y) (ht : x.trace = y.trace) (hh : HoldS n m l x.regs y.regs y.slots) (hacc : (checkE code mach bt mt ok l most).err = 0) :
    (runR bs x (code.length + 1)).st = 2 ∨
    ((runR bs x (code.length + 1)).st = (runX ms y (mach.length + 1)).st ∧ (runR bs x (code.length + 1)).blk = (runX ms y (mach.length + 1)).blk ∧ (runR bs x (code.length + 1)).val = (runX ms y (mach.length + 1)).val ∧ (runR bs x (code.length + 1)).trace = (runX ms y (mach.length + 1)).trace ∧
      HoldS n m (checkE code mach bt mt ok l most).out (runR bs x (code.length + 1)).regs (runX ms y (mach.length + 1)).regs (runX ms y (mach.length + 1)).slots ∧ (runR bs x (code.length + 1)).regs.length = N) := by
  unfold checkE at hacc ⊢
  by_cases hmst : most < (l.length : Int)
  · rw [if_pos hmst] at hacc
    cases hacc
  · rw [if_neg hmst] at hacc ⊢
    rcases alC_out code mach with ⟨rows, hr, hch⟩ | ⟨z, hr, _, _⟩
    · rw [hr] at hacc ⊢
      dsimp only at hacc ⊢
      simp only [ne_eq, not_true_eq_false, if_false] at hacc ⊢
      cases ok
      · simp only [if_true] at hacc
        cases hacc
      · simp only [Bool.true_eq_false, if_false] at hacc ⊢
        obtain ⟨tk, tt, te⟩ := htm rfl
        unfold runE at hacc ⊢
        dsimp only at hacc ⊢
        have hq : (foldE most (blkOps code mach rows bt mt) ⟨l, 0, 0, 0, l.length⟩).err = 0 := by
          by_cases h0 : (foldE most (blkOps code mach rows bt mt) ⟨l, 0, 0, 0, l.length⟩).err = 0
          · exact h0
          · rw [if_neg h0] at hacc
            exact absurd hacc h0
        rw [if_pos hq]
        show _ ∨ (_ ∧ _ ∧ _ ∧ _ ∧ HoldS n m (foldE most (blkOps code mach rows bt mt) ⟨l, 0, 0, 0, l.length⟩).out _ _ _ ∧ _)
        unfold blkOps at hq ⊢
        rw [foldE_append] at hq ⊢
        have hq1 := foldE_first hq
        rcases sim_rows hb hmb hok hmk hch x y ⟨l, 0, 0, 0, l.length⟩ hx hy ht hh hq1 with ⟨j, hj, h2⟩ | ⟨c1, c2, c3, c4⟩
        · left
          have := run_stop bs x (n := j) (by rw [h2]; decide) (code.length + 1 - j)
          rw [show j + (code.length + 1 - j) = code.length + 1 by omega] at this
          rw [this]
          exact h2
        · right
          simp only [Nat.sub_zero] at c1 c2 c3 c4
          have ex : runR bs x (code.length + 1) = stepR bs (runR bs x code.length) := rfl
          have ey : runX ms y (mach.length + 1) = stepX ms (runX ms y mach.length) := rfl
          rw [ex, ey]
          generalize runR bs x code.length = x' at *
          generalize runX ms y mach.length = y' at *
          generalize foldE most (rows.flatMap (rowOps code mach)) ⟨l, 0, 0, 0, l.length⟩ = r at *
          have hA : ¬ bt.kind = 1 → rg x'.regs bt.a = rg y'.regs mt.a := fun h => by
            rw [if_neg h, foldE_cons, foldE_nil] at hq
            obtain ⟨_, _, b3⟩ := stepE_out hq
            have := (c4 _ (b3 _ _ _ rfl)).2.2.2
            rw [rd2_reg] at this
            exact this.symm
          have hout : (foldE most (if bt.kind = 1 then [] else [EOp.us bt.a mt.a mach.length]) r).out = r.out := by
            by_cases h : bt.kind = 1
            · rw [if_pos h, foldE_nil]
            · rw [if_neg h, foldE_cons, foldE_nil] at hq ⊢
              exact (stepE_out hq).2.1
          rw [hout]
          have sx : stepR bs x' = leav bt x' := by
            unfold stepR
            rw [if_pos c1.st, dif_neg (by rw [c1.blk, hb, c1.pos]; exact Nat.lt_irrefl _), c1.blk, hb]
          have sy : stepX ms y' = xleav mt y' := by
            unfold stepX
            rw [if_pos c2.st, dif_neg (by rw [c2.blk, hmb, c2.pos]; exact Nat.lt_irrefl _), c2.blk, hmb]
          rw [sx, sy]
          unfold leav xleav
          by_cases h3 : bt.kind = 3
          · rw [if_pos h3, if_pos (show mt.kind = 3 by omega)]
            exact ⟨rfl, by show x'.blk = y'.blk; rw [c1.blk, c2.blk], hA (by omega), c3, c4, c1.len⟩
          · rw [if_neg h3, if_neg (show ¬ mt.kind = 3 by omega)]
            refine ⟨by show x'.st = y'.st; rw [c1.st, c2.st], ?_, by show x'.val = y'.val; rw [c1.val, c2.val], c3, c4, c1.len⟩
            show (if bt.kind = 2 ∧ rg x'.regs bt.a = 0 then bt.el.toNat else bt.to.toNat) = if mt.kind = 2 ∧ rg y'.regs mt.a = 0 then mt.el.toNat else mt.to.toNat
            rw [← tk, ← tt, ← te]
            by_cases h2 : bt.kind = 2
            · rw [hA (by omega)]
            · rw [if_neg (fun h => h2 h.1), if_neg (fun h => h2 h.1)]
    · rw [hr] at hacc
      dsimp only at hacc
      rw [if_pos (by decide)] at hacc
      cases hacc

end

end Go.Proofs.Ytcoehkphdfejjaa
