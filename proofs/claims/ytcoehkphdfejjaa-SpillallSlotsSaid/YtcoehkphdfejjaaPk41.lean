import Derived.Test.YtcoehkphdfejjaaPk42
import Derived.Test.YtcoehkphdfejjaaCkFit

/-
  The spill-everything certificate is valid.
-/
namespace Go.Proofs.Ytcoehkphdfejjaa
open Go.RowKit
set_option linter.unusedVariables false

theorem loc_reg {n r : Int} (hn : 0 ≤ n ∧ n < 2) : locS (2 * n) 2 r = true := by
  unfold locS
  rw [if_neg (by omega), if_neg (by omega)]
  exact decide_eq_true (by omega)

theorem loc_slot {v r : Int} (hv : 0 ≤ v ∧ v < r) : locS (2 * v + 1) 2 r = true := by
  unfold locS
  rw [if_neg (by omega), if_pos (by omega)]
  exact decide_eq_true (by omega)

theorem ldM_ok {n v r : Int} (hn : 0 ≤ n ∧ n < 2) (hv : 0 ≤ v ∧ v < r) : eM (ldM n v) 2 r = 0 := by
  have h1 := loc_reg (r := r) hn
  have h2 := loc_slot hv
  have h3 : decide ((2 * n) % 2 = 1) = false := decide_eq_false (by omega)
  have hb : (ldM n v).bad 2 r = false := by
    show (!locS (2 * n) 2 r || !locS (2 * v + 1) 2 r || (decide ((2 * n) % 2 = 1) && decide ((2 * v + 1) % 2 = 1))) = false
    rw [h1, h2, h3]
    rfl
  show (if mopc 18 = true then if (ldM n v).mv = true then eMv (ldM n v) 2 r else eOt (ldM n v) 2 else 8) = 0
  rw [if_pos (by decide), if_pos (by rfl)]
  unfold eMv
  rw [hb]
  rfl

theorem stM_ok {v r : Int} (hv : 0 ≤ v ∧ v < r) : eM (stM v) 2 r = 0 := by
  have h1 : locS 0 2 r = true := loc_reg (n := 0) (r := r) (by omega)
  have h2 := loc_slot hv
  have hb : (stM v).bad 2 r = false := by
    show (!locS (2 * v + 1) 2 r || !locS 0 2 r || (decide ((2 * v + 1) % 2 = 1) && decide ((0 : Int) % 2 = 1))) = false
    rw [h1, h2, Bool.and_comm]
    rfl
  show (if mopc 18 = true then if (stM v).mv = true then eMv (stM v) 2 r else eOt (stM v) 2 else 8) = 0
  rw [if_pos (by decide), if_pos (by rfl)]
  unfold eMv
  rw [hb]
  rfl

theorem opM_ok {x : In} {r s : Int} (h : eI x r = 0) (h2 : x.op ≠ 2) : eM (opM x) 2 s = 0 := by
  obtain ⟨⟨o1, o2⟩, _, _, _, hz⟩ := eI_of h
  have hs : srcO x.op = true := by simp [srcO, uO]; omega
  have hm : mopc x.op = true := by simp [mopc, uO]; omega
  have hv : (x.op == 18) = false := by simp; omega
  have e1 : okR 2 [(uD x.op, 0), (uA x.op, 0), (uB x.op, if uB x.op = true then 1 else 0)] = true := by
    cases uD x.op <;> cases uA x.op <;> cases uB x.op <;> rfl
  have e2 : okZ [(uD x.op, 0), (uA x.op, 0), (uB x.op, if uB x.op = true then 1 else 0), (uI x.op, x.imm)] = true := by
    simp only [okZ, List.all_cons, List.all_nil, Bool.and_true, hz]
    cases uD x.op <;> cases uA x.op <;> cases uB x.op <;> rfl
  have hi : eI (opM x).ins 2 = 0 := by
    show (if srcO x.op = true then if okR 2 [(uD x.op, 0), (uA x.op, 0), (uB x.op, if uB x.op = true then 1 else 0)] = true then if okZ [(uD x.op, 0), (uA x.op, 0), (uB x.op, if uB x.op = true then 1 else 0), (uI x.op, x.imm)] = true then 0 else 12 else 9 else 8) = 0
    rw [if_pos hs, if_pos e1, if_pos e2]
  show (if mopc x.op = true then if (x.op == 18) = true then eMv (opM x) 2 s else eOt (opM x) 2 else 8) = 0
  rw [if_pos hm, hv, if_neg (by simp)]
  unfold eOt
  rw [hi]
  rfl

theorem spI_ok {x : In} {r : Int} (h : eI x r = 0) : ∀ y ∈ spI x, eM y 2 r = 0 := fun y hy => by
  obtain ⟨⟨o1, o2⟩, hd, ha, hb, _⟩ := eI_of h
  unfold spI at hy
  split at hy
  · rename_i h2
    simp only [List.mem_cons, List.not_mem_nil, or_false] at hy
    rcases hy with rfl | rfl
    · exact ldM_ok (by omega) (ha (by rw [h2]; rfl))
    · exact stM_ok (hd (by rw [h2]; rfl))
  · rename_i h2
    unfold spO spA spBb spD at hy
    simp only [List.mem_append, List.mem_cons] at hy
    rcases hy with (hy | hy) | rfl | hy
    · split at hy
      · rename_i hu; rw [List.mem_singleton] at hy; subst hy; exact ldM_ok (by omega) (ha hu)
      · cases hy
    · split at hy
      · rename_i hu; rw [List.mem_singleton] at hy; subst hy; exact ldM_ok (by omega) (hb hu)
      · cases hy
    · exact opM_ok h h2
    · split at hy
      · rename_i hu; rw [List.mem_singleton] at hy; subst hy; exact stM_ok (hd hu)
      · cases hy

theorem spT_ok {t : Tm} {r n : Int} (h : eT t r n = 0) : (∀ y ∈ spT t, eM y 2 r = 0) ∧ eT { t with a := 0 } 2 n = 0 := by
  refine ⟨fun y hy => ?_, ?_⟩
  · unfold spT at hy
    split at hy
    · cases hy
    · rw [List.mem_singleton] at hy
      subst hy
      rcases eT_of h with ⟨h1, _⟩ | ⟨_, h1⟩
      · contradiction
      · exact ldM_ok (by omega) h1
  · unfold eT at h ⊢
    dsimp only
    split at h
    · rename_i hO
      split at h
      · split at h
        · rename_i hR
          split at h
          · rename_i hZ
            simp only [Tm.allF, okZ, List.all_cons, List.all_nil, Bool.and_true, Bool.and_eq_true] at hZ
            rw [if_pos hO]
            have e1 : okR 2 (Tm.aF { t with a := 0 }) = true := by
              show (fR 2 (t.kind != 1, 0) && true) = true
              cases (t.kind != 1) <;> rfl
            have e2 : okR n (Tm.toF { t with a := 0 }) = true := hR
            have e3 : okZ (Tm.allF { t with a := 0 }) = true := by
              show (fZ (t.kind != 1, 0) && (fZ (t.kind != 3, t.to) && (fZ (t.kind == 2, t.el) && true))) = true
              rw [hZ.2.1, hZ.2.2]
              cases (t.kind != 1) <;> rfl
            rw [if_pos e1, if_pos e2, if_pos e3]
          · cases h
        · cases h
      · cases h
    · cases h

theorem spB_ok {b : Blk} {r n : Int} (h1 : ∀ x ∈ b.code, eI x r = 0) (h2 : eT b.term r n = 0) (h3 : mvs (spB b).code ≤ 64) : eMB (spB b) 2 r n = 0 := by
  have hc : eCd 2 r 0 (spB b).code = 0 := by
    refine (eCd_ok 2 r _ 0 (by omega)).2 ⟨fun y hy => ?_, by have := lead_mvs (spB b).code; omega, h3⟩
    have hy : y ∈ b.code.flatMap spI ++ spT b.term := hy
    rcases List.mem_append.1 hy with hy | hy
    · obtain ⟨x, hx, hy⟩ := List.mem_flatMap.1 hy
      exact spI_ok (h1 x hx) y hy
    · exact (spT_ok h2).1 y hy
  unfold eMB
  rw [hc, if_pos rfl]
  exact (spT_ok h2).2

theorem eMBs_all {r s n : Int} : ∀ {l : List MBlk}, (∀ b ∈ l, eMB b r s n = 0) → eMBs r s n l = 0
  | [], _ => rfl
  | x :: l, h => by
    rw [eMBs, if_pos (h x (by simp))]
    exact eMBs_all fun b hb => h b (by simp [hb])

theorem vlsE_all {v r s : Int} : ∀ {w : List (List Pr)}, (∀ l ∈ w, vlE v r s none l = 0) → vlsE v r s w = 0
  | [], _ => rfl
  | x :: w, h => by
    rw [vlsE, h x (by simp), if_neg (by simp)]
    exact vlsE_all fun b hb => h b (by simp [hb])

theorem vlE_inv {v s : Int} : ∀ (k j : Nat) (q : Option Pr), ((j + k : Nat) : Int) ≤ v → v ≤ s → (∀ p, q = some p → p.1 < (j : Int)) → vlE v 2 s q ((List.range' j k).map fun i : Nat => ((i : Int), 2 * (i : Int) + 1)) = 0
  | 0, j, q, _, _, _ => rfl
  | k + 1, j, q, h1, h2, hq => by
    rw [List.range'_succ, List.map_cons, vlE]
    have e : prE v 2 s q ((j : Int), 2 * (j : Int) + 1) = 0 := by
      have hl : locS (2 * (j : Int) + 1) 2 s = true := loc_slot (by omega)
      unfold prE
      dsimp only
      rw [if_neg (by omega), hl, if_neg (by simp)]
      rcases q with _ | p
      · rfl
      · dsimp only
        rw [if_pos]
        rw [ltP_iff]
        exact .inl (hq p rfl)
    rw [e, if_neg (by simp)]
    exact vlE_inv k (j + 1) _ (by omega) h2 fun p hp => by
      injection hp with hp
      subst hp
      dsimp only
      omega

theorem invN_eq (n : Nat) : invN n = (List.range' 0 n).map fun i : Nat => ((i : Int), 2 * (i : Int) + 1) := by
  unfold invN
  rw [List.range_eq_range']

theorem mem_invN {n : Nat} {p : Pr} : p ∈ invN n ↔ (0 ≤ p.1 ∧ p.1 < (n : Int)) ∧ p.2 = 2 * p.1 + 1 := by
  unfold invN
  simp only [List.mem_map, List.mem_range]
  constructor
  · rintro ⟨v, hv, rfl⟩
    exact ⟨⟨by simp, by simp; omega⟩, rfl⟩
  · rintro ⟨⟨h1, h2⟩, h3⟩
    exact ⟨p.1.toNat, by omega, Prod.ext (by simp; omega) (by simp; omega)⟩

/-- The certificate of a valid function without long runs is valid. -/
theorem spC_valid {a r : Int} {bs : List Blk} (h : eF a r bs = 0) (hf : FewF r bs) (hl : longB bs = false) : validC (spC a r bs) = 0 := by
  obtain ⟨h1, h2, h3, h4, h5, h6, h7⟩ := eF_of h
  obtain ⟨f1, f2, f3⟩ := hf
  have hm := spBs_len bs
  have hlen : (bs.map spB).length = bs.length := List.length_map _
  have hz : eMSz a 2 r (bs.map spB) = 0 := by
    unfold eMSz
    rw [if_neg (by omega), if_neg (by omega), if_neg (by omega), if_neg (by omega), if_neg (by omega)]
  have hb : eMBs 2 r bs.length (bs.map spB) = 0 := eMBs_all fun b hb => by
    obtain ⟨y, hy, rfl⟩ := List.mem_map.1 hb
    refine spB_ok (h7 y hy).1 (h7 y hy).2 ?_
    unfold longB at hl
    have := List.any_eq_false.1 hl y hy
    simpa using this
  have hM : eMF a 2 r (bs.map spB) = 0 := by
    unfold eMF
    rw [if_pos hz, hlen]
    exact hb
  show (if eF a r bs ≠ 0 then eF a r bs else if eMF a 2 r (bs.map spB) ≠ 0 then eMF a 2 r (bs.map spB) else if bs.length ≠ (bs.map spB).length ∨ a ≠ a then 14 else validE (bs.map fun _ => invN r.toNat) bs.length r 2 r) = 0
  rw [h, hM, hlen, if_neg (by simp), if_neg (by simp), if_neg (by simp)]
  unfold validE
  rw [List.length_map, if_neg (by simp)]
  refine vlsE_all fun l hl => ?_
  obtain ⟨_, _, rfl⟩ := List.mem_map.1 hl
  rw [invN_eq]
  exact vlE_inv _ 0 none (by omega) (Int.le_refl _) fun p hp => by cases hp

theorem spC_sm {a r : Int} {bs : List Blk} (h : eF a r bs = 0) (hf : FewF r bs) : SmC (spC a r bs) := by
  obtain ⟨h1, h2, h3, h4, h5, h6, h7⟩ := eF_of h
  have hm := spBs_len bs
  obtain ⟨f1, f2, f3⟩ := hf
  refine ⟨⟨f1, f2, f3⟩, ⟨by show (bs.map spB).length ≤ 40; rw [List.length_map]; exact f1, by show (2 : Int) ≤ 60; decide, f2, by show mcodeN (bs.map spB) ≤ 1300; omega⟩, by show (bs.map fun _ => invN r.toNat).length ≤ 40; rw [List.length_map]; exact f1, fun x hx => ?_⟩
  obtain ⟨_, _, rfl⟩ := List.mem_map.1 hx
  rw [invN_len]
  omega

end Go.Proofs.Ytcoehkphdfejjaa

/-
  The check of a spilled block, as data: it is accepted, and all pairs hold behind it.
-/
namespace Go.Proofs.Ytcoehkphdfejjaa
open Go.RowKit
set_option linter.unusedVariables false

/-! The alignment. -/

theorem idx_mv : ∀ (l : List Mi) (k : Nat), (∀ y ∈ l, isM y = true) → idx isM l k = []
  | [], _, _ => rfl
  | y :: l, k, h => by rw [idx, if_pos (h y (by simp)), idx_mv l (k + 1) fun z hz => h z (by simp [hz])]

theorem spA_mv (x : In) : ∀ y ∈ spA x, isM y = true := fun y hy => by
  unfold spA at hy
  split at hy
  · rw [List.mem_singleton] at hy; subst hy; rfl
  · cases hy

theorem spBb_mv (x : In) : ∀ y ∈ spBb x, isM y = true := fun y hy => by
  unfold spBb at hy
  split at hy
  · rw [List.mem_singleton] at hy; subst hy; rfl
  · cases hy

theorem spD_mv (x : In) : ∀ y ∈ spD x, isM y = true := fun y hy => by
  unfold spD at hy
  split at hy
  · rw [List.mem_singleton] at hy; subst hy; rfl
  · cases hy

theorem spT_mv (t : Tm) : ∀ y ∈ spT t, isM y = true := fun y hy => by
  unfold spT at hy
  split at hy
  · cases hy
  · rw [List.mem_singleton] at hy; subst hy; rfl

theorem opM_nm {x : In} (h : 1 ≤ x.op ∧ x.op ≤ 17) : isM (opM x) = false := by
  show (x.op == 18) = false
  simp
  omega

theorem sp_smP {x : In} (h : 1 ≤ x.op ∧ x.op ≤ 17) (h2 : x.op ≠ 2) : smP x (opM x) = true := by
  show (x.op == x.op && x.op != 2 && x.op != 18 && x.imm == x.imm) = true
  simp
  omega

theorem drop_tail {α : Type} {l r t : List α} {i : Nat} (h : l.drop i = r ++ t) : l.drop (i + r.length) = t := by
  rw [← List.drop_drop, h]
  simp

theorem drop_at {α : Type} {l t : List α} {x : α} {i : Nat} (h : l.drop i = x :: t) : l[i]? = some x ∧ l.drop (i + 1) = t := by
  refine ⟨?_, ?_⟩
  · have := congrArg (fun z => z[0]?) h
    simpa using this
  · have := drop_tail (l := l) (r := [x]) (t := t) (i := i) (by simpa using h)
    simpa using this

theorem al_spill (C : List In) (M tl : List Mi) (htl : ∀ y ∈ tl, isM y = true) : ∀ (cs : List In) (i k i0 k0 : Nat) (acc : List Rw), (∀ x ∈ cs, 1 ≤ x.op ∧ x.op ≤ 17) → C.drop i = cs → M.drop k = cs.flatMap spI ++ tl →
    (al C M (idx isC cs i) (idx isM (cs.flatMap spI ++ tl) k) i0 k0 acc).2.2 = 0
  | [], i, k, i0, k0, acc, _, _, _ => by
    rw [List.flatMap_nil, List.nil_append, idx_mv tl k htl]
    rfl
  | x :: cs, i, k, i0, k0, acc, ho, hC, hM => by
    have hx := ho x (by simp)
    have ho' : ∀ z ∈ cs, 1 ≤ z.op ∧ z.op ≤ 17 := fun z hz => ho z (by simp [hz])
    obtain ⟨hCi, hC'⟩ := drop_at hC
    rw [List.flatMap_cons, List.append_assoc] at hM ⊢
    by_cases h2 : x.op = 2
    · have hc : isC x = true := by show (x.op == 2) = true; rw [h2]; rfl
      have hs : spI x = [ldM 0 x.a, stM x.d] := by unfold spI; rw [if_pos h2]
      rw [hs] at hM ⊢
      have hM' := drop_tail hM
      rw [idx_append, idx_mv [ldM 0 x.a, stM x.d] k (fun y hy => by
        simp only [List.mem_cons, List.not_mem_nil, or_false] at hy
        rcases hy with rfl | rfl <;> rfl), List.nil_append, idx, if_pos hc]
      exact al_spill C M tl htl cs (i + 1) _ i0 k0 acc ho' hC' hM'
    · have hc : isC x = false := by show (x.op == 2) = false; simp; exact h2
      have hs : spI x = spO x := by unfold spI; rw [if_neg h2]
      rw [hs] at hM ⊢
      unfold spO at hM ⊢
      rw [List.append_assoc (spA x ++ spBb x)] at hM ⊢
      have hM1 := drop_tail hM
      obtain ⟨hMi, hM2⟩ := drop_at hM1
      have hM3 := drop_tail hM2
      have hl : ∀ y ∈ spA x ++ spBb x, isM y = true := fun y hy => by
        rcases List.mem_append.1 hy with h | h
        · exact spA_mv x y h
        · exact spBb_mv x y h
      have ex : idx isC (x :: cs) i = i :: idx isC cs (i + 1) := by rw [idx, hc, if_neg (by simp)]
      have em : ∀ (r : List Mi) (q : Nat), idx isM (opM x :: r) q = q :: idx isM r (q + 1) := fun r q => by rw [idx, opM_nm hx, if_neg (by simp)]
      rw [idx_append, idx_mv _ k hl, List.nil_append, List.cons_append, em, ex, idx_append, idx_mv _ _ (spD_mv x), List.nil_append, al]
      have hsm : smA C M i (k + (spA x ++ spBb x).length) = true := by
        unfold smA
        rw [hCi, hMi]
        exact sp_smP hx h2
      rw [if_pos hsm]
      exact al_spill C M tl htl cs (i + 1) _ _ _ _ ho' hC' hM3

/-! Values. -/

def upd (f : Int → Int) (k v : Int) : Int → Int := fun z => if z = k then v else f z

theorem upd_eq (f : Int → Int) (k v : Int) : upd f k v k = v := if_pos rfl

theorem upd_ne (f : Int → Int) {k z : Int} (v : Int) (h : z ≠ k) : upd f k v z = f z := if_neg h

/-- The values of registers and of locations, by number. -/
structure Sv where
  rho : Int → Int
  mu : Int → Int
  K : Int

def semE (s : Sv) : EOp → Sv
  | .cp d a _ => ⟨upd s.rho d (s.rho a), s.mu, s.K⟩
  | .mv t u _ => ⟨s.rho, upd s.mu t (s.mu u), s.K⟩
  | .us _ _ _ => s
  | .df d g _ => ⟨upd s.rho d s.K, upd s.mu (2 * g) s.K, s.K + 1⟩

def SvOk (s : Sv) : EOp → Prop
  | .us v g _ => s.mu (2 * g) = s.rho v
  | _ => True

def SvOks : Sv → List EOp → Prop
  | _, [] => True
  | s, e :: es => SvOk s e ∧ SvOks (semE s e) es

theorem SvOks_append : ∀ {a b : List EOp} {s : Sv}, SvOks s a → SvOks (a.foldl semE s) b → SvOks s (a ++ b)
  | [], _, _, _, h => h
  | e :: a, b, s, h1, h2 => ⟨h1.1, SvOks_append (a := a) h1.2 h2⟩

/-- A set that holds all pairs of equal values. -/
structure Vw (l : List Pr) (s : Sv) : Prop where
  has : ∀ v t, s.mu t = s.rho v → (v, t) ∈ l
  r : ∀ v, s.rho v < s.K
  m : ∀ t, s.mu t < s.K

theorem Vw.step {l : List Pr} {s : Sv} (h : Vw l s) (e : EOp) : Vw (e.set l) (semE s e) := by
  obtain ⟨h1, h2, h3⟩ := h
  cases e with
  | cp d a k =>
    refine ⟨fun v t ht => ?_, fun v => ?_, h3⟩
    · show (v, t) ∈ cpP l d a
      have ht : s.mu t = upd s.rho d (s.rho a) v := ht
      rw [mem_cpP]
      by_cases hv : v = d
      · subst hv
        rw [upd_eq] at ht
        exact .inr ⟨rfl, h1 _ _ ht⟩
      · rw [upd_ne _ _ hv] at ht
        exact .inl ⟨h1 _ _ ht, .inr hv⟩
    · show upd s.rho d (s.rho a) v < s.K
      unfold upd
      split
      · exact h2 _
      · exact h2 _
  | mv t' u k =>
    refine ⟨fun v t ht => ?_, h2, fun t => ?_⟩
    · show (v, t) ∈ mvP l t' u
      have ht : upd s.mu t' (s.mu u) t = s.rho v := ht
      rw [mem_mvP]
      by_cases hv : t = t'
      · subst hv
        rw [upd_eq] at ht
        exact .inr ⟨rfl, h1 _ _ ht⟩
      · rw [upd_ne _ _ hv] at ht
        exact .inl ⟨h1 _ _ ht, .inr hv⟩
    · show upd s.mu t' (s.mu u) t < s.K
      unfold upd
      split
      · exact h3 _
      · exact h3 _
  | us v g k => exact ⟨h1, h2, h3⟩
  | df d g k =>
    refine ⟨fun v t ht => ?_, fun v => ?_, fun t => ?_⟩
    · show (v, t) ∈ dfP l d (2 * g)
      have ht : upd s.mu (2 * g) s.K t = upd s.rho d s.K v := ht
      rw [mem_dfP]
      have a2 := h2 v
      have a3 := h3 t
      by_cases hv : v = d
      · by_cases hg : t = 2 * g
        · exact .inr (by rw [hv, hg])
        · rw [upd_ne _ _ hg, hv, upd_eq] at ht
          omega
      · by_cases hg : t = 2 * g
        · rw [upd_ne _ _ hv, hg, upd_eq] at ht
          omega
        · rw [upd_ne _ _ hv, upd_ne _ _ hg] at ht
          exact .inl ⟨h1 _ _ ht, hv, hg⟩
    · show upd s.rho d s.K v < s.K + 1
      have := h2 v
      unfold upd
      split <;> omega
    · show upd s.mu (2 * g) s.K t < s.K + 1
      have := h3 t
      unfold upd
      split <;> omega

theorem sv_run {R L : List Int} {most : Int} (hm : ((R.length * L.length : Nat) : Int) ≤ most) : ∀ (es : List EOp) (r : Rs) (s : Sv), (∀ e ∈ es, e.In R L) → r.err = 0 → Srt r.out → PIn R L r.out → r.out.length ≤ r.largest → Vw r.out s → SvOks s es →
    (foldE most es r).err = 0 ∧ Vw (foldE most es r).out (es.foldl semE s)
  | [], r, s, _, h0, _, _, _, hv, _ => ⟨h0, hv⟩
  | e :: es, r, s, he, h0, hs, hi, ho, hv, hk => by
    have h1 := he e (by simp)
    rw [foldE_cons, List.foldl_cons]
    rcases stepE_room (most := most) h0 hs hi h1 ho hm with ⟨a1, _⟩ | ⟨_, v, g, k, rfl, a2⟩
    · rw [a1]
      exact sv_run hm es _ _ (fun f hf => he f (List.mem_cons_of_mem _ hf)) rfl (set_srt hs e) (hi.set h1) (Nat.le_max_right _ _) (hv.step e) hk.2
    · have := hv.has v (2 * g) hk.1
      unfold hasP at a2
      exact absurd this (of_decide_eq_false a2)

/-! Copies and moves. -/

def cpF (l : List In) (f : Int → Int) : Int → Int := l.foldl (fun f x => upd f x.d (f x.a)) f

def mvF (l : List Mi) (f : Int → Int) : Int → Int := l.foldl (fun f y => upd f y.dst (f y.src)) f

theorem mvF_append (a b : List Mi) (f : Int → Int) : mvF (a ++ b) f = mvF b (mvF a f) := List.foldl_append

theorem cps_sem (k : Nat) : ∀ (l : List In) (s : Sv), SvOks s (l.map fun x => EOp.cp x.d x.a k) ∧ (l.map fun x => EOp.cp x.d x.a k).foldl semE s = ⟨cpF l s.rho, s.mu, s.K⟩
  | [], s => ⟨trivial, rfl⟩
  | x :: l, s => ⟨⟨trivial, (cps_sem k l _).1⟩, (cps_sem k l _).2⟩

theorem mvs_sem : ∀ (l : List Mi) (k : Nat) (s : Sv), SvOks s (mvOps l k) ∧ (mvOps l k).foldl semE s = ⟨s.rho, mvF l s.mu, s.K⟩
  | [], k, s => ⟨trivial, rfl⟩
  | x :: l, k, s => ⟨⟨trivial, (mvs_sem l (k + 1) _).1⟩, (mvs_sem l (k + 1) _).2⟩

/-- Each slot has its register's value. -/
def Sy (N : Int) (f g : Int → Int) : Prop := ∀ v, 0 ≤ v → v < N → g (2 * v + 1) = f v

theorem cp_sy {N : Int} : ∀ (cs : List In) (f g : Int → Int), (∀ x ∈ cs, isC x = true ∧ eI x N = 0) → Sy N f g → Sy N (cpF cs f) (mvF (cs.flatMap spI) g)
  | [], _, _, _, h => h
  | x :: cs, f, g, hx, h => by
    obtain ⟨hc, he⟩ := hx x (by simp)
    have h2 : x.op = 2 := by have : (x.op == 2) = true := hc; simpa using this
    obtain ⟨_, hd, ha, _⟩ := eI_of he
    have hd := hd (by rw [h2]; rfl)
    have ha := ha (by rw [h2]; rfl)
    have hs : spI x = [ldM 0 x.a, stM x.d] := by unfold spI; rw [if_pos h2]
    rw [List.flatMap_cons, mvF_append, hs]
    refine cp_sy cs (upd f x.d (f x.a)) _ (fun z hz => hx z (by simp [hz])) fun v h0 h1 => ?_
    show upd (upd g (2 * 0) (g (2 * x.a + 1))) (2 * x.d + 1) (upd g (2 * 0) (g (2 * x.a + 1)) 0) (2 * v + 1) = upd f x.d (f x.a) v
    rw [show (2 * 0 : Int) = 0 from rfl, upd_eq]
    by_cases hv : v = x.d
    · rw [hv, upd_eq, upd_eq]
      exact h _ ha.1 ha.2
    · rw [upd_ne _ _ hv, upd_ne _ _ (by omega), upd_ne _ _ (by omega)]
      exact h v h0 h1

theorem cps_mv {l : List In} (h : ∀ x ∈ l, isC x = true) : ∀ y ∈ l.flatMap spI, isM y = true := fun y hy => by
  obtain ⟨x, hx, hy⟩ := List.mem_flatMap.1 hy
  have h2 : x.op = 2 := by have : (x.op == 2) = true := h x hx; simpa using this
  unfold spI at hy
  rw [if_pos h2] at hy
  simp only [List.mem_cons, List.not_mem_nil, or_false] at hy
  rcases hy with rfl | rfl <;> rfl

/-- What the loads leave. -/
theorem loads_sy {N : Int} {x : In} {g : Int → Int} (hb : uB x.op = true → 0 ≤ x.b) : (uA x.op = true → mvF (spA x ++ spBb x) g 0 = g (2 * x.a + 1)) ∧ (uB x.op = true → mvF (spA x ++ spBb x) g 2 = g (2 * x.b + 1)) ∧ ∀ v, 0 ≤ v → mvF (spA x ++ spBb x) g (2 * v + 1) = g (2 * v + 1) := by
  have eA : uA x.op = true → mvF (spA x) g = upd g 0 (g (2 * x.a + 1)) := fun h => by unfold spA; rw [if_pos h]; rfl
  have nA : ¬ uA x.op = true → mvF (spA x) g = g := fun h => by unfold spA; rw [if_neg h]; rfl
  have eB : ∀ g : Int → Int, uB x.op = true → mvF (spBb x) g = upd g 2 (g (2 * x.b + 1)) := fun g h => by unfold spBb; rw [if_pos h]; rfl
  have nB : ∀ g : Int → Int, ¬ uB x.op = true → mvF (spBb x) g = g := fun g h => by unfold spBb; rw [if_neg h]; rfl
  rw [mvF_append]
  have k1 : ∀ v, 0 ≤ v → mvF (spA x) g (2 * v + 1) = g (2 * v + 1) := fun v hv => by
    by_cases h : uA x.op = true
    · rw [eA h, upd_ne _ _ (by omega)]
    · rw [nA h]
  refine ⟨fun h => ?_, fun h => ?_, fun v hv => ?_⟩
  · by_cases h2 : uB x.op = true
    · rw [eB _ h2, upd_ne _ _ (by omega), eA h, upd_eq]
    · rw [nB _ h2, eA h, upd_eq]
  · rw [eB _ h, upd_eq]
    exact k1 _ (hb h)
  · by_cases h2 : uB x.op = true
    · rw [eB _ h2, upd_ne _ _ (by omega)]
      exact k1 v hv
    · rw [nB _ h2]
      exact k1 v hv

/-- Where the first element that is no move lies. -/
theorem mv_split : ∀ {a b : List Mi} {y z : Mi} {c d : List Mi}, a ++ y :: c = b ++ z :: d → (∀ x ∈ a, isM x = true) → (∀ x ∈ b, isM x = true) → isM y = false → isM z = false → a = b ∧ y = z ∧ c = d
  | [], [], y, z, c, d, h, _, _, _, _ => by injection h with h1 h2; exact ⟨rfl, h1, h2⟩
  | [], b0 :: b, y, z, c, d, h, _, hb, hy, _ => by
    injection h with h1 h2
    have := hb b0 (by simp)
    rw [← h1, hy] at this
    cases this
  | a0 :: a, [], y, z, c, d, h, ha, _, _, hz => by
    injection h with h1 h2
    have := ha a0 (by simp)
    rw [h1, hz] at this
    cases this
  | a0 :: a, b0 :: b, y, z, c, d, h, ha, hb, hy, hz => by
    injection h with h1 h2
    obtain ⟨e1, e2, e3⟩ := mv_split h2 (fun x hx => ha x (by simp [hx])) (fun x hx => hb x (by simp [hx])) hy hz
    exact ⟨by rw [h1, e1], e2, e3⟩

theorem drop_split {α : Type} {l : List α} {i x : Nat} (hi : i ≤ x) (hx : x < l.length) : l.drop i = (l.drop i).take (x - i) ++ l[x] :: l.drop (x + 1) := by
  have h1 : (l.drop i).drop (x - i) = l[x] :: l.drop (x + 1) := by
    rw [List.drop_drop, show i + (x - i) = x by omega, List.drop_eq_getElem_cons hx]
  rw [← h1, List.take_append_drop]

theorem mem_part {α : Type} {l : List α} {i n : Nat} {p : α → Prop} (h : ∀ z (hz : z < l.length), i ≤ z → z < i + n → p l[z]) : ∀ y ∈ (l.drop i).take n, p y := fun y hy => by
  obtain ⟨j, hj, rfl⟩ := List.getElem_of_mem hy
  rw [List.length_take, List.length_drop] at hj
  rw [List.getElem_take, List.getElem_drop]
  exact h _ (by omega) (by omega) (by omega)

theorem ins_sem (x : In) (s : Sv) (k : Nat) (hA : uA x.op = true → s.mu 0 = s.rho x.a) (hB : uB x.op = true → s.mu 2 = s.rho x.b) :
    SvOks s (insOps x (opM x) k) ∧ (insOps x (opM x) k).foldl semE s = if uD x.op = true then ⟨upd s.rho x.d s.K, upd s.mu 0 s.K, s.K + 1⟩ else s := by
  unfold insOps opM
  dsimp only
  by_cases hu : uA x.op = true <;> by_cases hv : uB x.op = true <;> by_cases hw : uD x.op = true <;> simp only [if_pos, if_neg, hu, hv, hw, List.nil_append, List.cons_append, List.append_nil, SvOks, SvOk, semE, List.foldl_cons, List.foldl_nil, Int.mul_zero, Int.mul_one, and_true, not_false_eq_true, Bool.false_eq_true] <;> first | exact ⟨hA hu, hB hv⟩ | exact hA hu | exact hB hv | trivial

section
variable {N : Int} {code : List In} {mach tl : List Mi}

theorem sv_rows (hok : ∀ x ∈ code, eI x N = 0) {i k : Nat} {rows : List Rw} (hch : Chn code mach i k rows) :
    ∀ (pend : List Mi) (s : Sv), (∀ y ∈ pend, isM y = true) → mach.drop k = pend ++ ((code.drop i).flatMap spI ++ tl) → Sy N s.rho (mvF pend s.mu) →
      SvOks s (rows.flatMap (rowOps code mach)) ∧ ∃ g, Sy N ((rows.flatMap (rowOps code mach)).foldl semE s).rho g ∧ ((rows.flatMap (rowOps code mach)).foldl semE s).mu = mvF tl g := by
  induction hch with
  | @last i k hi hk hc hm =>
    intro pend s hp hM hS
    rw [List.flatMap_cons, List.flatMap_nil, List.append_nil, rowOps_last]
    obtain ⟨c1, c2⟩ := cps_sem k (code.drop i) s
    obtain ⟨m1, m2⟩ := mvs_sem (mach.drop k) k ⟨cpF (code.drop i) s.rho, s.mu, s.K⟩
    refine ⟨SvOks_append c1 (by rw [c2]; exact m1), mvF ((code.drop i).flatMap spI) (mvF pend s.mu), ?_, ?_⟩
    · rw [List.foldl_append, c2, m2]
      refine cp_sy _ _ _ (fun x hx => ⟨?_, hok x (List.mem_of_mem_drop hx)⟩) hS
      obtain ⟨j, hj, rfl⟩ := List.getElem_of_mem hx
      rw [List.length_drop] at hj
      rw [List.getElem_drop]
      exact hc _ (by omega) (by omega)
    · rw [List.foldl_append, c2, m2]
      show mvF (mach.drop k) s.mu = _
      rw [hM, mvF_append, mvF_append]
  | @step i k x y rest hi hx hk hy hc hm hs hr ih =>
    intro pend s hp hM hS
    have hcs := mem_part (l := code) (i := i) (n := x - i) (p := fun z => isC z = true) fun z hz h1 h2 => hc z hz h1 (by omega)
    have hms := mem_part (l := mach) (i := k) (n := y - k) (p := fun z => isM z = true) fun z hz h1 h2 => hm z hz h1 (by omega)
    have dC := drop_split hi hx
    have dM := drop_split hk hy
    have hxe := hok _ (List.getElem_mem hx)
    have hxo := (eI_of hxe).1
    have hb := (eI_of hxe).2.2.2.1
    have ha := (eI_of hxe).2.2.1
    have hd := (eI_of hxe).2.1
    have hsp : code[x].op = mach[y].op ∧ code[x].op ≠ 2 ∧ code[x].op ≠ 18 := by
      unfold smP at hs
      simp only [Bool.and_eq_true, beq_iff_eq, bne_iff_ne, ne_eq] at hs
      exact ⟨hs.1.1.1, hs.1.1.2, hs.1.2⟩
    have hyn : isM mach[y] = false := by
      show (mach[y].op == 18) = false
      rw [← hsp.1]
      simp
      omega
    have hro := rowOps_step (code := code) (mach := mach) (i := i) (k := k) hx hy
    have hE : ∀ z ∈ (code.drop i).take (x - i), isC z = true ∧ eI z N = 0 := fun z hz => ⟨hcs z hz, hok z (List.mem_of_mem_drop (List.mem_of_mem_take hz))⟩
    generalize (code.drop i).take (x - i) = cs1 at *
    generalize (mach.drop k).take (y - k) = M1 at *
    have hcx : spI code[x] = spO code[x] := by unfold spI; rw [if_neg hsp.2.1]
    rw [dM, dC, List.flatMap_append, List.flatMap_cons, hcx, spO] at hM
    have hM : M1 ++ mach[y] :: mach.drop (y + 1) = (pend ++ (cs1.flatMap spI ++ (spA code[x] ++ spBb code[x]))) ++ opM code[x] :: (spD code[x] ++ ((code.drop (x + 1)).flatMap spI ++ tl)) := by
      rw [hM]
      simp only [List.append_assoc, List.cons_append]
    obtain ⟨e1, e2, e3⟩ := mv_split hM hms (fun z hz => by
      rcases List.mem_append.1 hz with h | h
      · exact hp z h
      · rcases List.mem_append.1 h with h | h
        · exact cps_mv (fun u hu => (hE u hu).1) z h
        · rcases List.mem_append.1 h with h | h
          · exact spA_mv _ z h
          · exact spBb_mv _ z h) hyn (opM_nm hxo)
    have hS1 := cp_sy cs1 s.rho (mvF pend s.mu) hE hS
    obtain ⟨l1, l2, l3⟩ := loads_sy (N := N) (x := code[x]) (g := mvF (cs1.flatMap spI) (mvF pend s.mu)) fun h => (hb h).1
    have hmu : mvF M1 s.mu = mvF (spA code[x] ++ spBb code[x]) (mvF (cs1.flatMap spI) (mvF pend s.mu)) := by
      rw [e1, mvF_append, mvF_append]
    rw [List.flatMap_cons, hro]
    obtain ⟨c1, c2⟩ := cps_sem k cs1 s
    obtain ⟨m1, m2⟩ := mvs_sem M1 k ⟨cpF cs1 s.rho, s.mu, s.K⟩
    have hf2 : ((cs1.map fun x => EOp.cp x.d x.a k) ++ mvOps M1 k).foldl semE s = ⟨cpF cs1 s.rho, mvF M1 s.mu, s.K⟩ := by rw [List.foldl_append, c2, m2]
    obtain ⟨n1, n2⟩ := ins_sem code[x] ⟨cpF cs1 s.rho, mvF M1 s.mu, s.K⟩ y
      (fun h => by
        show mvF M1 s.mu 0 = cpF cs1 s.rho code[x].a
        rw [hmu, l1 h]
        exact hS1 _ (ha h).1 (ha h).2)
      (fun h => by
        show mvF M1 s.mu 2 = cpF cs1 s.rho code[x].b
        rw [hmu, l2 h]
        exact hS1 _ (hb h).1 (hb h).2)
    rw [← e2] at n1 n2
    have hf3 : ((cs1.map fun x => EOp.cp x.d x.a k) ++ mvOps M1 k ++ insOps code[x] mach[y] y).foldl semE s = if uD code[x].op = true then ⟨upd (cpF cs1 s.rho) code[x].d s.K, upd (mvF M1 s.mu) 0 s.K, s.K + 1⟩ else ⟨cpF cs1 s.rho, mvF M1 s.mu, s.K⟩ := by
      rw [List.foldl_append, hf2, n2]
    have hS2 : Sy N (cpF cs1 s.rho) (mvF M1 s.mu) := fun v h0 h1 => by
      rw [hmu, l3 v h0]
      exact hS1 v h0 h1
    have hq := ih (spD code[x]) (((cs1.map fun x => EOp.cp x.d x.a k) ++ mvOps M1 k ++ insOps code[x] mach[y] y).foldl semE s) (spD_mv _) e3 (by
      rw [hf3]
      by_cases hu : uD code[x].op = true
      · rw [if_pos hu]
        have eD : spD code[x] = [stM code[x].d] := by unfold spD; rw [if_pos hu]
        rw [eD]
        intro v h0 h1
        show upd (upd (mvF M1 s.mu) 0 s.K) (2 * code[x].d + 1) (upd (mvF M1 s.mu) 0 s.K 0) (2 * v + 1) = upd (cpF cs1 s.rho) code[x].d s.K v
        by_cases hv : v = code[x].d
        · rw [hv, upd_eq, upd_eq, upd_eq]
        · rw [upd_ne _ _ hv, upd_ne _ _ (by omega), upd_ne _ _ (by omega)]
          exact hS2 v h0 h1
      · rw [if_neg hu]
        have eD : spD code[x] = [] := by unfold spD; rw [if_neg hu]
        rw [eD]
        exact hS2)
    obtain ⟨q1, g, q2, q3⟩ := hq
    refine ⟨SvOks_append (SvOks_append (SvOks_append c1 (by rw [c2]; exact m1)) (by rw [hf2]; exact n1)) q1, g, ?_, ?_⟩
    · rw [List.foldl_append]
      exact q2
    · rw [List.foldl_append]
      exact q3

end

/-- The values at the start of a block. -/
def sv0 (N : Int) : Sv := ⟨fun v => if 0 ≤ v ∧ v < N then v else -2, fun t => if t % 2 = 1 ∧ 0 ≤ t / 2 ∧ t / 2 < N then t / 2 else -1, max N 0⟩

theorem sv0_vw (N : Nat) : Vw (invN N) (sv0 N) := by
  refine ⟨fun v t h => ?_, fun v => ?_, fun t => ?_⟩
  · have h : (if t % 2 = 1 ∧ 0 ≤ t / 2 ∧ t / 2 < (N : Int) then t / 2 else -1) = if 0 ≤ v ∧ v < (N : Int) then v else -2 := h
    rw [mem_invN]
    dsimp only
    split at h <;> split at h <;> omega
  · show (if 0 ≤ v ∧ v < (N : Int) then v else -2) < max (N : Int) 0
    split <;> omega
  · show (if t % 2 = 1 ∧ 0 ≤ t / 2 ∧ t / 2 < (N : Int) then t / 2 else -1) < max (N : Int) 0
    split <;> omega

theorem sv0_sy (N : Nat) : Sy N (sv0 N).rho (sv0 N).mu := fun v h0 h1 => by
  show (if (2 * v + 1) % 2 = 1 ∧ 0 ≤ (2 * v + 1) / 2 ∧ (2 * v + 1) / 2 < (N : Int) then (2 * v + 1) / 2 else -1) = if 0 ≤ v ∧ v < (N : Int) then v else -2
  rw [if_pos (by omega), if_pos (by omega)]
  omega

/-- A block's check is accepted, and all pairs hold behind it. -/
theorem spB_check {b : Blk} {N n : Nat} {R L : List Int} (h1 : ∀ x ∈ b.code, eI x N = 0) (h2 : eT b.term N n = 0) (hR : ((R.length * L.length : Nat) : Int) ≤ 1048576) (hin : ∀ rows, Chn b.code (spB b).code 0 0 rows → ∀ e ∈ blkOps b.code (spB b).code rows b.term (spB b).term, e.In R L)
    (hi : PIn R L (invN N)) (hs : Srt (invN N)) (hN : N ≤ 1048576) :
    (checkE b.code (spB b).code b.term (spB b).term true (invN N) 1048576).err = 0 ∧ ∀ p ∈ invN N, p ∈ (checkE b.code (spB b).code b.term (spB b).term true (invN N) 1048576).out := by
  have hl := invN_len N
  unfold checkE
  rw [if_neg (by omega)]
  have hal : (alC b.code (spB b).code).2.2 = 0 := al_spill b.code (spB b).code (spT b.term) (spT_mv _) b.code 0 0 0 0 [] (fun x hx => (eI_of (h1 x hx)).1) rfl rfl
  rcases alC_out b.code (spB b).code with ⟨rows, hr, hch⟩ | ⟨y, hr, _⟩
  · rw [hr]
    dsimp only
    rw [if_neg (by simp), if_neg (by simp)]
    obtain ⟨q1, g, q2, q3⟩ := sv_rows (N := N) (tl := spT b.term) h1 hch [] (sv0 N) (fun y hy => by cases hy) rfl (sv0_sy N)
    have hT : mvF (spT b.term) g = if b.term.kind = 1 then g else upd g 0 (g (2 * b.term.a + 1)) := by
      unfold spT
      split <;> rfl
    obtain ⟨k1, k2⟩ := sv_run hR (blkOps b.code (spB b).code rows b.term (spB b).term) ⟨invN N, 0, 0, 0, (invN N).length⟩ (sv0 N) (hin rows hch) rfl hs hi (Nat.le_refl _) (sv0_vw N) (by
      unfold blkOps
      refine SvOks_append q1 ?_
      by_cases hk : b.term.kind = 1
      · rw [if_pos hk]; trivial
      · rw [if_neg hk]
        refine ⟨?_, trivial⟩
        show _ = _
        rw [q3, hT, if_neg hk]
        rcases eT_of h2 with ⟨h, _⟩ | ⟨_, h3, h4⟩
        · exact absurd h hk
        · rw [← q2 _ h3 h4]
          exact upd_eq _ _ _)
    have hsem : (blkOps b.code (spB b).code rows b.term (spB b).term).foldl semE (sv0 N) = (rows.flatMap (rowOps b.code (spB b).code)).foldl semE (sv0 N) := by
      unfold blkOps
      rw [List.foldl_append]
      split <;> rfl
    rw [hsem] at k2
    unfold runE
    dsimp only
    rw [if_pos k1]
    refine ⟨k1, fun p hp => ?_⟩
    obtain ⟨⟨p1, p2⟩, p3⟩ := mem_invN.1 hp
    have := k2.has p.1 p.2 (by
      rw [q3, hT, p3, ← q2 _ p1 p2]
      split
      · rfl
      · exact upd_ne _ _ (by omega))
    exact this
  · rw [hr] at hal
    cases hal

end Go.Proofs.Ytcoehkphdfejjaa

/-
  The spill-everything certificate: accepted; each slot has its register's value at the end.
-/
namespace Go.Proofs.Ytcoehkphdfejjaa
open Go.RowKit
set_option linter.unusedVariables false
set_option linter.unusedSectionVars false

theorem i64_of22 {x : Int} (h : InI x) : I64 x := by
  unfold I64 InI at *
  simp [Lit.wf, IntKind.min, IntKind.max, IntKind.signed, IntKind.bits]
  omega

theorem spI_wf {x : In} {r : Int} (h : eI x r = 0) (hr : r ≤ 1048576) (hw : x.Wf) : ∀ y ∈ spI x, y.Wf := fun y hy => by
  obtain ⟨⟨o1, o2⟩, hd, ha, hb, _⟩ := eI_of h
  have i0 : ∀ z : Int, -4000000 ≤ z → z ≤ 4000000 → I64 z := fun z h1 h2 => i64_of22 ⟨by omega, by omega⟩
  have hl : ∀ n v : Int, 0 ≤ n → n < 2 → 0 ≤ v → v < r → (ldM n v).Wf := fun n v h1 h2 h3 h4 =>
    ⟨i0 18 (by omega) (by omega), i0 0 (by omega) (by omega), i0 0 (by omega) (by omega), i0 0 (by omega) (by omega), i0 0 (by omega) (by omega), i0 (2 * n) (by omega) (by omega), i0 (2 * v + 1) (by omega) (by omega)⟩
  have hs : ∀ v : Int, 0 ≤ v → v < r → (stM v).Wf := fun v h3 h4 =>
    ⟨i0 18 (by omega) (by omega), i0 0 (by omega) (by omega), i0 0 (by omega) (by omega), i0 0 (by omega) (by omega), i0 0 (by omega) (by omega), i0 (2 * v + 1) (by omega) (by omega), i0 0 (by omega) (by omega)⟩
  unfold spI at hy
  split at hy
  · rename_i h2
    simp only [List.mem_cons, List.not_mem_nil, or_false] at hy
    have hd := hd (by rw [h2]; rfl)
    have ha := ha (by rw [h2]; rfl)
    rcases hy with rfl | rfl
    · exact hl _ _ (by omega) (by omega) ha.1 ha.2
    · exact hs _ hd.1 hd.2
  · unfold spO spA spBb spD at hy
    simp only [List.mem_append, List.mem_cons] at hy
    rcases hy with (hy | hy) | rfl | hy
    · split at hy
      · rename_i hu; rw [List.mem_singleton] at hy; subst hy; exact hl _ _ (by omega) (by omega) (ha hu).1 (ha hu).2
      · cases hy
    · split at hy
      · rename_i hu; rw [List.mem_singleton] at hy; subst hy; exact hl _ _ (by omega) (by omega) (hb hu).1 (hb hu).2
      · cases hy
    · refine ⟨hw.1, i0 0 (by omega) (by omega), i0 0 (by omega) (by omega), ?_, hw.2.2.2.2, i0 0 (by omega) (by omega), i0 0 (by omega) (by omega)⟩
      show I64 (if uB x.op = true then 1 else 0)
      split
      · exact i0 1 (by omega) (by omega)
      · exact i0 0 (by omega) (by omega)
    · split at hy
      · rename_i hu; rw [List.mem_singleton] at hy; subst hy; exact hs _ (hd hu).1 (hd hu).2
      · cases hy

theorem spB_wf {b : Blk} {r n : Int} (h1 : ∀ x ∈ b.code, eI x r = 0) (h2 : eT b.term r n = 0) (hr : r ≤ 1048576) (hw : b.Wf) : (spB b).Wf := by
  have i0 : ∀ z : Int, -4000000 ≤ z → z ≤ 4000000 → I64 z := fun z h1 h2 => i64_of22 ⟨by omega, by omega⟩
  refine ⟨fun y hy => ?_, hw.2.1, i0 0 (by omega) (by omega), hw.2.2.2.1, hw.2.2.2.2⟩
  have hy : y ∈ b.code.flatMap spI ++ spT b.term := hy
  rcases List.mem_append.1 hy with hy | hy
  · obtain ⟨x, hx, hy⟩ := List.mem_flatMap.1 hy
    exact spI_wf (h1 x hx) hr (hw.1 x hx) y hy
  · unfold spT at hy
    split at hy
    · cases hy
    · rw [List.mem_singleton] at hy
      subst hy
      rcases eT_of h2 with ⟨h, _⟩ | ⟨_, h3, h4⟩
      · contradiction
      · exact ⟨i0 18 (by omega) (by omega), i0 0 (by omega) (by omega), i0 0 (by omega) (by omega), i0 0 (by omega) (by omega), i0 0 (by omega) (by omega), i0 (2 * 0) (by omega) (by omega), i0 (2 * b.term.a + 1) (by omega) (by omega)⟩

theorem spC_wf {a r : Int} {bs : List Blk} (h : eF a r bs = 0) (hw : ∀ y ∈ bs, y.Wf) : (spC a r bs).Wf := by
  obtain ⟨h1, h2, h3, h4, h5, h6, h7⟩ := eF_of h
  have i0 : ∀ z : Int, -4000000 ≤ z → z ≤ 4000000 → I64 z := fun z h1 h2 => i64_of22 ⟨by omega, by omega⟩
  refine ⟨i0 a (by omega) (by omega), i0 r (by omega) (by omega), i0 a (by omega) (by omega), i0 2 (by omega) (by omega), i0 r (by omega) (by omega), hw, fun y hy => ?_, fun l hl p hp => ?_⟩
  · obtain ⟨b, hb, rfl⟩ := List.mem_map.1 hy
    exact spB_wf (h7 b hb).1 (h7 b hb).2 h3 (hw b hb)
  · obtain ⟨_, _, rfl⟩ := List.mem_map.1 hl
    obtain ⟨⟨p1, p2⟩, p3⟩ := mem_invN.1 hp
    exact ⟨i0 _ (by omega) (by omega), i0 _ (by omega) (by omega)⟩

section
variable {a r : Int} {bs : List Blk} (h : eF a r bs = 0) (hf : FewF r bs) (hl : longB bs = false) (hw : ∀ y ∈ bs, y.Wf)
include h hf hl hw

theorem spC_blk {N n m : Nat} (hfit : FitC (spC a r bs) N n m) (j : Nat) (hj : j < bs.length) : (ckB (spC a r bs) j).err = 0 ∧ ∀ p ∈ invN N, p ∈ (ckB (spC a r bs) j).out := by
  obtain ⟨h1, h2, h3, h4, h5, h6, h7⟩ := eF_of h
  have hN : r = N := hfit.sr
  have hNn : r.toNat = N := by omega
  have e1 : mblkAt (bs.map spB) j = spB (blkAt bs j) := by rw [mblkAt_lt (by rw [List.length_map]; exact hj), List.getElem_map, blkAt_lt hj]
  have e2 : (spC a r bs).i j = invN N := by
    unfold Ct.i
    show (bs.map fun _ => invN r.toNat).getD j [] = _
    rw [List.getD, List.getElem?_eq_getElem (by rw [List.length_map]; exact hj), List.getElem_map, hNn]
    rfl
  have e3 : tmP (blkAt bs j).term (spB (blkAt bs j)).term = true := by
    show ((blkAt bs j).term.kind == (blkAt bs j).term.kind && (blkAt bs j).term.to == (blkAt bs j).term.to && (blkAt bs j).term.el == (blkAt bs j).term.el) = true
    simp
  have ops := hfit.ops hj
  have hinv := hfit.inv (invN N) (by
    show invN N ∈ bs.map fun _ => invN r.toNat
    rw [hNn]
    exact List.mem_map.2 ⟨bs[j], List.getElem_mem hj, rfl⟩)
  change ∀ rows, Chn (blkAt bs j).code (mblkAt (bs.map spB) j).code 0 0 rows → ∀ e ∈ blkOps (blkAt bs j).code (mblkAt (bs.map spB) j).code rows (blkAt bs j).term (mblkAt (bs.map spB) j).term, e.In rg60 lc120 at ops
  rw [e1] at ops
  have hb := h7 _ (blkAt_mem hj)
  have hroom := room120
  have key := spB_check (b := blkAt bs j) (N := N) (n := bs.length) (R := rg60) (L := lc120) (fun x hx => by rw [← hN]; exact hb.1 x hx) (by rw [← hN]; exact hb.2) (by omega) ops hinv.2.2.2 hinv.1 (by have := hfit.hN; omega)
  show (checkE (blkAt bs j).code (mblkAt (bs.map spB) j).code (blkAt bs j).term (mblkAt (bs.map spB) j).term (tmP (blkAt bs j).term (mblkAt (bs.map spB) j).term) ((spC a r bs).i j) 1048576).err = 0 ∧ ∀ p ∈ invN N, p ∈ (checkE (blkAt bs j).code (mblkAt (bs.map spB) j).code (blkAt bs j).term (mblkAt (bs.map spB) j).term (tmP (blkAt bs j).term (mblkAt (bs.map spB) j).term) ((spC a r bs).i j) 1048576).out
  rw [e1, e2, e3]
  exact key

theorem spC_okC : okC (spC a r bs) := by
  have hv := spC_valid h hf hl
  obtain ⟨N, n, m, hfit⟩ := fitC_of hv (spC_sm h hf) (spC_wf h hw)
  obtain ⟨h1, h2, h3, h4, h5, h6, h7⟩ := eF_of h
  have hN : r = N := hfit.sr
  have hNn : r.toNat = N := by omega
  have hi : ∀ j, ∀ p ∈ (spC a r bs).i j, p ∈ invN N := fun j p hp => by
    unfold Ct.i at hp
    change p ∈ (bs.map fun _ => invN r.toNat).getD j [] at hp
    rw [List.getD, List.getElem?_map, hNn] at hp
    cases hq : bs[j]? with
    | none => rw [hq] at hp; cases hp
    | some z => rw [hq] at hp; exact hp
  refine ⟨hv, entP_none.2 fun p hp => ?_, fun j hj => ?_⟩
  · obtain ⟨⟨p1, p2⟩, p3⟩ := mem_invN.1 (hi 0 p hp)
    unfold initP
    show (if p.1 < a then decide (p.2 % 2 = 1) && decide (p.2 / 2 = p.1) else decide (p.2 % 2 ≠ 1) || decide (a ≤ p.2 / 2)) = true
    split
    · rw [decide_eq_true (show p.2 % 2 = 1 by omega), decide_eq_true (show p.2 / 2 = p.1 by omega)]
      rfl
    · rw [decide_eq_true (show a ≤ p.2 / 2 by omega), Bool.or_true]
  · obtain ⟨k1, k2⟩ := spC_blk h hf hl hw hfit j hj
    exact ⟨k1, fun t ht => misP_none.2 fun p hp => k2 p (hi _ p hp)⟩

/-- What the statement on acceptance asks. -/
theorem spC_acc : validC (spC a r bs) = 0 ∧ (checkC (spC a r bs)).err = 0 ∧ (checkC (spC a r bs)).blocks = bs.length := by
  have hk := okC_checkC (spC_okC h hf hl hw)
  have hv := spC_valid h hf hl
  exact ⟨hv, hk, ((checkC_once hv).2.2.2 hk).1⟩

end

theorem sim_slots {c : Ct} {N n m : Nat} (hc : SimC c N n m) (P : List Pr) (hP : ∀ q, q < c.bs.length → ∀ p ∈ P, p ∈ (ckB c q).out) : ∀ (f q : Nat) (x : Rn) (y : Xn), q < c.bs.length → SQ N q 0 x → SZ n m q 0 y → x.trace = y.trace → HoldS n m (c.i q) x.regs y.regs y.slots →
    (runR c.bs x f).st = 1 → ∃ s k, (runR c.bs x f).steps = x.steps + s ∧ k ≤ 65 * s ∧ (runX c.ms y k).st = 1 ∧ (runX c.ms y k).val = (runR c.bs x f).val ∧ (runX c.ms y k).trace = (runR c.bs x f).trace ∧ (runX c.ms y k).blk = (runR c.bs x f).blk ∧
      HoldS n m P (runR c.bs x f).regs (runX c.ms y k).regs (runX c.ms y k).slots ∧ (runR c.bs x f).regs.length = N ∧ (runX c.ms y k).slots.length = m := by
  intro f
  induction f using Nat.strongRecOn with
  | _ f ih =>
    intro q x y hq hx hy ht hh hst
    have hPq := hP q hq
    have hqm : q < c.ms.length := by rw [← hc.len]; exact hq
    obtain ⟨hok1, hok2⟩ := hc.ok q hq
    have hb : blkAt c.bs q = ⟨(blkAt c.bs q).code, (blkAt c.bs q).term⟩ := rfl
    have hmb : mblkAt c.ms q = ⟨(mblkAt c.ms q).code, (mblkAt c.ms q).term⟩ := rfl
    have htm := hc.fs.tm _ (blkAt_mem hq)
    obtain ⟨g1, g2, g3⟩ := block_go (most := 1048576) hb hmb (hc.fs.ins _ (blkAt_mem hq)) (hc.ft.ins _ (mblkAt_mem hqm)) (hc.mv _ (mblkAt_mem hqm)) (ok := tmP (blkAt c.bs q).term (mblkAt c.ms q).term) tmP_eq hx hy ht hh hok1
    change _ ∨ ∃ x' y', _ ∧ _ ∧ _ ∧ _ ∧ _ ∧ HoldS n m (ckB c q).out _ _ _ ∧ _ at g3
    generalize (blkAt c.bs q).code = code at *
    generalize (mblkAt c.ms q).code = mach at *
    generalize (blkAt c.bs q).term = bt at *
    generalize (mblkAt c.ms q).term = mt at *
    generalize (ckB c q).out = out at *
    clear hb hmb hP
    by_cases hfc : f ≤ code.length
    · rcases g1 f hfc with ⟨j', hj', h2⟩ | ⟨h0, k', hk', h2⟩
      · rw [run_two hj' h2] at hst
        cases hst
      · rw [h0] at hst
        cases hst
    · rcases g3 with ⟨j, hj, h2⟩ | ⟨x', y', ex, ey, sx, sy, st, sh, sa, lx, ly, tk, tt, te⟩
      · rw [run_two (by omega) h2] at hst
        cases hst
      · have e1 : runR c.bs x (code.length + 1) = leav bt x' := by rw [← lx, ex]; rfl
        have e2 : runX c.ms y (mach.length + 1) = xleav mt y' := by rw [← ly, ey]; rfl
        have es : x'.steps = x.steps + code.length := by
          have := (run_steps c.bs x code.length).2.2
          rw [← ex] at this
          exact this sx.st
        by_cases h3 : bt.kind = 3
        · have f1 : leav bt x' = { x' with st := 1, val := rg x'.regs bt.a, steps := x'.steps + 1 } := by unfold leav; rw [if_pos h3]
          have f2 : xleav mt y' = { y' with st := 1, val := rg y'.regs mt.a, steps := y'.steps + 1 } := by unfold xleav; rw [if_pos (show mt.kind = 3 by omega)]
          have f3 : runR c.bs x f = leav bt x' := by
            have := run_stop c.bs x (n := code.length + 1) (by rw [e1, f1]; show ¬ (1 : Int) = 0; decide) (f - (code.length + 1))
            rw [show code.length + 1 + (f - (code.length + 1)) = f by omega] at this
            rw [this, e1]
          rw [f3, f1]
          refine ⟨code.length + 1, mach.length + 1, by show x'.steps + 1 = _; omega, g2, ?_⟩
          rw [e2, f2]
          exact ⟨rfl, (sa (by omega)).symm, st.symm, sy.blk.trans sx.blk.symm, fun p hp => sh p (hPq p hp), sx.len, sy.ls⟩
        · have f1 : leav bt x' = { x' with blk := if bt.kind = 2 ∧ rg x'.regs bt.a = 0 then bt.el.toNat else bt.to.toNat, pos := 0, steps := x'.steps + 1 } := by unfold leav; rw [if_neg h3]
          have f2 : xleav mt y' = { y' with blk := if mt.kind = 2 ∧ rg y'.regs mt.a = 0 then mt.el.toNat else mt.to.toNat, pos := 0, steps := y'.steps + 1 } := by unfold xleav; rw [if_neg (show ¬ mt.kind = 3 by omega)]
          obtain ⟨q', hq'⟩ : ∃ z, z = if bt.kind = 2 ∧ rg x'.regs bt.a = 0 then bt.el.toNat else bt.to.toNat := ⟨_, rfl⟩
          have hq2 : (if mt.kind = 2 ∧ rg y'.regs mt.a = 0 then mt.el.toNat else mt.to.toNat) = q' := by
            rw [hq', ← tk, ← tt, ← te]
            by_cases h2 : bt.kind = 2
            · rw [sa (by omega)]
            · rw [if_neg (fun h => h2 h.1), if_neg (fun h => h2 h.1)]
          rw [← hq'] at f1
          rw [hq2] at f2
          have hsu : q' < c.bs.length ∧ ∃ t ∈ succs bt, t.toNat = q' := by
            rcases htm with ⟨k1, k2, k3⟩ | ⟨k1, k2, k3, k4, k5, k6, k7⟩ | ⟨k1, _⟩
            · rw [if_neg (fun h => by omega)] at hq'
              exact ⟨by omega, bt.to, by unfold succs; rw [if_pos k1]; simp, hq'.symm⟩
            · by_cases h0 : rg x'.regs bt.a = 0
              · rw [if_pos ⟨k1, h0⟩] at hq'
                exact ⟨by omega, bt.el, by unfold succs; rw [if_neg (by omega), if_pos k1]; simp, hq'.symm⟩
              · rw [if_neg (fun h => h0 h.2)] at hq'
                exact ⟨by omega, bt.to, by unfold succs; rw [if_neg (by omega), if_pos k1]; simp, hq'.symm⟩
            · exact absurd k1 h3
          obtain ⟨hql, t, hts, htq⟩ := hsu
          have hmis := hok2 t hts
          rw [htq, misP_none] at hmis
          have hx1 : SQ N q' 0 (leav bt x') := by rw [f1]; exact ⟨sx.st, rfl, rfl, sx.len, sx.val⟩
          have hy1 : SZ n m q' 0 (xleav mt y') := by rw [f2]; exact ⟨sy.st, rfl, rfl, sy.lr, sy.ls, sy.val⟩
          have ht1 : (leav bt x').trace = (xleav mt y').trace := by rw [f1, f2]; exact st
          have hh1 : HoldS n m (c.i q') (leav bt x').regs (xleav mt y').regs (xleav mt y').slots := by
            rw [f1, f2]
            exact fun p hp => sh p (hmis p hp)
          have hs1 : (leav bt x').steps = x.steps + code.length + 1 := by rw [f1]; show x'.steps + 1 = _; omega
          rw [show f = code.length + 1 + (f - (code.length + 1)) by omega, runR_add, e1] at hst
          have hi := ih (f - (code.length + 1)) (by omega) q' _ _ hql hx1 hy1 ht1 hh1 hst
          rw [← e1, ← e2, ← runR_add, show code.length + 1 + (f - (code.length + 1)) = f by omega] at hi
          rw [← e1] at hs1
          obtain ⟨s, k, i1, i2, i3, i4, i5, i6, i7, i8, i9⟩ := hi
          rw [← runX_add] at i3 i4 i5 i6 i7 i9
          exact ⟨code.length + 1 + s, mach.length + 1 + k, by omega, by omega, i3, i4, i5, i6, i7, i8, i9⟩


/-- What the statement on slots asks. -/
theorem spC_slots {a r : Int} {bs : List Blk} (h : eF a r bs = 0) (hf : FewF r bs) (hl : longB bs = false) (hw : ∀ y ∈ bs, y.Wf) {args : List Int} (ha : (args.length : Int) = a) {N : Nat} (hN : r = N) (f : Nat) (h1 : (runR bs (rn0 N args) f).st = 1) :
    (runX (bs.map spB) (xn0 2 N args) (65 * (runR bs (rn0 N args) f).steps)).st = 1 ∧ (runX (bs.map spB) (xn0 2 N args) (65 * (runR bs (rn0 N args) f).steps)).val = (runR bs (rn0 N args) f).val ∧ (runX (bs.map spB) (xn0 2 N args) (65 * (runR bs (rn0 N args) f).steps)).blk = (runR bs (rn0 N args) f).blk ∧
      (runX (bs.map spB) (xn0 2 N args) (65 * (runR bs (rn0 N args) f).steps)).slots = (runR bs (rn0 N args) f).regs ∧ (runX (bs.map spB) (xn0 2 N args) (65 * (runR bs (rn0 N args) f).steps)).trace = (runR bs (rn0 N args) f).trace := by
  have hk := spC_okC h hf hl hw
  have hwf := spC_wf h hw
  obtain ⟨N', n, m, hfit⟩ := fitC_of hk.1 (spC_sm h hf) hwf
  obtain ⟨N1, n1, m1, e1, e2, e3, a1, a2, a3, a4, hS, hvl, hil⟩ := simC_of hk hwf.bs hwf.ms
  have q1 : N = N1 := by have : r = N1 := e1; omega
  have q1' : N = N' := by have : r = N' := hfit.sr; omega
  have q2 : 2 = n1 := by have : (2 : Int) = n1 := e2; omega
  have q3 : N = m1 := by have : r = m1 := e3; omega
  subst q1 q2 q3 q1'
  have hne : 0 < bs.length := hS.fs.ne
  have hr : ∀ p ∈ (spC a r bs).i 0, (0 ≤ p.1 ∧ p.1 < (N : Int)) ∧ locS p.2 2 N = true := fun p hp => by
    have := vlE_range (vlsE_mem hvl _ (Ct.i_mem (c := spC a r bs) (by rw [hil]; exact hne))) p hp
    rw [e1, e2, e3] at this
    exact this
  have a2' : a ≤ N := a2
  have hh := hold_start (c := spC a r bs) (N := N) (n := 2) (m := N) ha hk.2.1 hr (by omega) (by omega)
  have hx : SQ N 0 0 (rn0 N args) := ⟨rfl, rfl, rfl, by simp [rn0]; omega, rfl⟩
  have hy : SZ 2 N 0 0 (xn0 2 N args) := ⟨rfl, rfl, rfl, by simp [xn0], by simp [xn0]; omega, rfl⟩
  have hs0 : (rn0 N args).steps = 0 := rfl
  obtain ⟨s, k, g1, g2, g3, g4, g5, g6, g7, g8, g9⟩ := sim_slots hS (invN N) (fun q hq => (spC_blk h hf hl hw hfit q hq).2) f 0 _ _ hne hx hy rfl hh h1
  change (runX (bs.map spB) (xn0 2 N args) k).st = 1 at g3
  change (runX (bs.map spB) (xn0 2 N args) k).val = (runR bs (rn0 N args) f).val at g4
  change (runX (bs.map spB) (xn0 2 N args) k).trace = (runR bs (rn0 N args) f).trace at g5
  change (runX (bs.map spB) (xn0 2 N args) k).blk = (runR bs (rn0 N args) f).blk at g6
  change HoldS 2 N (invN N) (runR bs (rn0 N args) f).regs (runX (bs.map spB) (xn0 2 N args) k).regs (runX (bs.map spB) (xn0 2 N args) k).slots at g7
  change (runR bs (rn0 N args) f).regs.length = N at g8
  change (runX (bs.map spB) (xn0 2 N args) k).slots.length = N at g9
  change (runR bs (rn0 N args) f).steps = _ at g1
  have e : runX (bs.map spB) (xn0 2 N args) (65 * (runR bs (rn0 N args) f).steps) = runX (bs.map spB) (xn0 2 N args) k := by
    have := runX_stop (bs.map spB) (xn0 2 N args) (n := k) (by rw [g3]; decide) (65 * (runR bs (rn0 N args) f).steps - k)
    rw [show k + (65 * (runR bs (rn0 N args) f).steps - k) = 65 * (runR bs (rn0 N args) f).steps by omega] at this
    exact this
  rw [e]
  refine ⟨g3, g4, g6, ?_, g5⟩
  generalize (runX (bs.map spB) (xn0 2 N args) k) = y at *
  generalize (runR bs (rn0 N args) f) = x at *
  refine List.ext_getElem (by omega) fun i i1 i2 => ?_
  have hp : ((i : Int), 2 * (i : Int) + 1) ∈ invN N := mem_invN.2 ⟨⟨by simp, by simp; omega⟩, rfl⟩
  have := (g7 _ hp).2.2.2
  unfold rd2 at this
  rw [if_pos (by omega), show (2 * (i : Int) + 1) / 2 = (i : Int) by omega, rg_nat i1, rg_nat i2] at this
  exact this

end Go.Proofs.Ytcoehkphdfejjaa
