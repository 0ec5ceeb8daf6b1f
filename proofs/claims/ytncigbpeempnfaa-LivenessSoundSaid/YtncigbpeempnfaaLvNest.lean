/-
  Lists of lists of integers of one's own: made, appended to, seen, compared.
-/
import Derived.Test.YtncigbpeempnfaaLvRefC
import Derived.Test.YtncigbpeempnfaaPk1
namespace Go.Proofs.Ytncigbpeempnfaa
open Go.RowKit
set_option linter.unusedVariables false

def ishp : Shp (List Int) where
  eo := 28
  ei := 3
  so := 1
  si := 1
  oc := fun u _ => [u]
  ic := ints
  il := List.length
  ne := by decide
  hoc := fun _ _ => rfl

theorem infoIl : (Try.prog.info? 28).map (fun i => (i.zero, i.size, i.bytes)) = some (some (.slice none 0 0), 1, 24) := by kernel_rfl

theorem infoInt23 : (Try.prog.info? 3).map (fun i => (i.zero, i.size, i.bytes)) = some (some (.int .i64 0), 1, 8) := by kernel_rfl

theorem ii_flat (vs : List Value) (xs : List (List Int)) (h : vs.length = xs.length) : ((vs.zip xs).flatMap fun p => ishp.oc p.1 p.2) = vs := by
  induction vs generalizing xs with
  | nil => rfl
  | cons v vs ih =>
    rcases xs with _ | ⟨x, xs⟩
    · cases h
    · rw [List.zip_cons_cons, List.flatMap_cons, ih xs (by simpa using h)]
      rfl

theorem made_ils (n : Nat) : madeCells #[.slice none 0 0] n = (List.replicate n (Value.slice none 0 0)).toArray := by
  apply Array.ext
  · simp [madeCells]
  · intro i h1 h2
    simp [madeCells, Nat.mod_one]

/-- 'make([][]int, n)'. -/
theorem ii_made (W : World) {n : Nat} (hn : n ≤ maxLen) : NestV ishp (W.alloc (.cells (madeCells #[.slice none 0 0] n) 28)) W.heap.size (.slice (some ⟨W.heap.size, 0, none⟩) n n) (List.replicate n (.slice none 0 0)) (List.replicate n []) := by
  have hl : (List.replicate n (Value.slice none 0 0)).length = (List.replicate n ([] : List Int)).length := by simp
  refine ⟨?_, hl, fun i u x hu hx => ?_, fun i j u u' g hu hu' h1 h2 => ?_⟩
  · rw [ii_flat _ _ hl, List.length_replicate]
    refine ⟨by simp [ishp], .inr ⟨W.heap.size, n, _, rfl, Nat.le_refl _, heap_alloc_new W _, Nat.le_refl _, hn, ?_, ?_⟩⟩
    · rw [made_ils]; simp [ishp]
    · rw [made_ils]; simp [ishp]
  · have h1 : u = .slice none 0 0 := (List.mem_replicate.1 (List.mem_of_getElem? hu)).2
    have h2 : x = [] := (List.mem_replicate.1 (List.mem_of_getElem? hx)).2
    subst h1 h2
    exact ⟨by simp [ishp, ints], .inl ⟨rfl, rfl⟩⟩
  · have h3 : u = .slice none 0 0 := (List.mem_replicate.1 (List.mem_of_getElem? hu)).2
    subst h3
    cases h1

/-- One of the lists has turned, and its new slice is stored. -/
theorem ii_turnN {W W' : World} {base : Nat} {v u u' : Value} {vs : List Value} {xs : List (List Int)} {x x' : List Int} {i g : Nat} (h : NestV ishp W base v vs xs) (hg : v.ownBlock = some g) (hu : vs[i]? = some u) (hx : xs[i]? = some x)
    (hm : Mods (fun k => u.ownBlock = some k) W W') (ho : W'.ownsRow base 3 1 u' x'.length (ints x')) (hb : ∀ q, u'.ownBlock = some q → u.ownBlock = some q ∨ W.heap.size ≤ q) :
    NestV ishp (W'.setCell ⟨g, i, none⟩ u') base v (vs.set i u') (xs.set i x') := by
  have hi : i < vs.length := (List.getElem?_eq_some_iff.1 hu).1
  have hix : i < xs.length := (List.getElem?_eq_some_iff.1 hx).1
  have hin := h.inner i u x hu hx
  have hout : W'.ownsRow base 28 1 v vs.length vs := by
    have := hm.ownS h.outer fun k hk hs => ownS_ne h.outer hin ishp.ne k hk hs
    rw [ii_flat vs xs h.len] at this
    exact this
  have hM : Mods (Is g) W' (W'.setCell ⟨g, i, none⟩ u') := (Mods.refl (Is g) W').put i u'
  have hl : (vs.set i u').length = (xs.set i x').length := by simp [h.len]
  refine ⟨?_, hl, fun k a y ha hy => ?_, fun k j a b q hk hj ha hb' => ?_⟩
  · rw [ii_flat _ _ hl, List.length_set]
    exact ownS_put hout hg hi u'
  · by_cases hki : k = i
    · subst hki
      rw [List.getElem?_set_self hi] at ha
      rw [List.getElem?_set_self hix] at hy
      injection ha with ha
      injection hy with hy
      subst ha hy
      exact hM.ownS ho fun p hp hs => ownS_ne hout ho (by decide) g hg (by unfold Is at hs; rw [hp, hs])
    · rw [List.getElem?_set_ne (fun e => hki e.symm)] at ha hy
      have hin2 := h.inner k a y ha hy
      have h1 := hm.ownS hin2 fun p hp hs => hki (h.dist k i a u p ha hu hp hs)
      exact hM.ownS h1 fun p hp hs => ownS_ne hout h1 ishp.ne g hg (by unfold Is at hs; rw [hp, hs])
  · have hI : ∀ (k : Nat) (a : Value), (vs.set i u')[k]? = some a → (k = i ∧ a = u') ∨ (k ≠ i ∧ vs[k]? = some a) := fun k a hk => by
      by_cases hki : k = i
      · subst hki
        rw [List.getElem?_set_self hi] at hk
        injection hk with hk
        exact .inl ⟨rfl, hk.symm⟩
      · rw [List.getElem?_set_ne (fun e => hki e.symm)] at hk
        exact .inr ⟨hki, hk⟩
    have hD : ∀ (k : Nat) (a : Value), k ≠ i → vs[k]? = some a → a.ownBlock = some q → u'.ownBlock = some q → False := fun k a hk ha h1 h2 => by
      rcases hb q h2 with hb | hp
      · exact hk (h.dist k i a u q ha hu h1 hb)
      · obtain ⟨y, _, hy⟩ := h.get ha
        have := ownS_lt hy q h1
        omega
    rcases hI k a hk with ⟨h1, h2⟩ | ⟨h1, h2⟩
    · rcases hI j b hj with ⟨h3, h4⟩ | ⟨h3, h4⟩
      · omega
      · subst h2; exact (hD j b h3 h4 hb' ha).elim
    · rcases hI j b hj with ⟨h3, h4⟩ | ⟨h3, h4⟩
      · subst h4; exact (hD k a h1 h2 ha hb').elim
      · exact h.dist k j a b q h2 h4 ha hb'

theorem ii_turn {W W' : World} {base : Nat} {v u u' : Value} {vs : List Value} {xs : List (List Int)} {x x' : List Int} {i g : Nat} (h : NestV ishp W base v vs xs) (hg : v.ownBlock = some g) (hu : vs[i]? = some u) (hx : xs[i]? = some x)
    (hm : Mods (fun k => u.ownBlock = some k) W W') (ho : W'.ownsRow base 3 1 u' x'.length (ints x')) (hb : u'.ownBlock = u.ownBlock ∨ ∃ q, u'.ownBlock = some q ∧ W.heap.size ≤ q) :
    NestV ishp (W'.setCell ⟨g, i, none⟩ u') base v (vs.set i u') (xs.set i x') :=
  ii_turnN h hg hu hx hm ho fun q hq => by
    rcases hb with hb | ⟨p, hb, hp⟩
    · exact .inl (by rw [← hb]; exact hq)
    · rw [hb] at hq; injection hq with hq; exact .inr (by omega)

/-- Lists of lists of integers that are seen. -/
def SeesII (w : World) (B : Nat) (A : Option Addr) (xs : List (List Int)) : Prop :=
  xs ≠ [] → ∃ b o, A = some ⟨b, o, none⟩ ∧ b < B ∧ ∀ (i : Nat) (x : List Int), xs[i]? = some x → ∃ A' c', w.cell? ⟨b, o + i, none⟩ = some (.slice A' x.length c') ∧ x.length ≤ maxLen ∧ Sees w B A' (ints x)

theorem SeesII.keep {w w' : World} {B : Nat} {A : Option Addr} {xs : List (List Int)} (h : SeesII w B A xs) (hk : ∀ p : Addr, p.block < B → w'.cell? p = w.cell? p) : SeesII w' B A xs := fun hn => by
  obtain ⟨b, o, e, hb, hc⟩ := h hn
  refine ⟨b, o, e, hb, fun i x hx => ?_⟩
  obtain ⟨A', c', h1, h2, h3⟩ := hc i x hx
  exact ⟨A', c', (hk _ hb).trans h1, h2, h3.keep hk⟩

theorem SeesII.more {w : World} {B B' : Nat} {A : Option Addr} {xs : List (List Int)} (h : SeesII w B A xs) (hB : B ≤ B') : SeesII w B' A xs := fun hn => by
  obtain ⟨b, o, e, hb, hc⟩ := h hn
  refine ⟨b, o, e, by omega, fun i x hx => ?_⟩
  obtain ⟨A', c', h1, h2, h3⟩ := hc i x hx
  exact ⟨A', c', h1, h2, h3.more hB⟩

theorem SeesII.below {w w' : World} {B : Nat} {A : Option Addr} {xs : List (List Int)} (h : SeesII w B A xs) (hb : Below B w w') : SeesII w' B A xs := h.keep fun _ hp => hb.cell hp

theorem SeesII.at_ {w : World} {B : Nat} {A : Option Addr} {xs : List (List Int)} (h : SeesII w B A xs) {i : Nat} (hi : i < xs.length) : ∃ b o A' c', A = some ⟨b, o, none⟩ ∧ b < B ∧ w.cell? ⟨b, o + i, none⟩ = some (.slice A' xs[i].length c') ∧ xs[i].length ≤ maxLen ∧ Sees w B A' (ints xs[i]) := by
  obtain ⟨b, o, e, hb, hc⟩ := h (by intro e; subst e; simp at hi)
  obtain ⟨A', c', h1, h2, h3⟩ := hc i _ (List.getElem?_eq_getElem hi)
  exact ⟨b, o, A', c', e, hb, h1, h2, h3⟩

theorem nest_ii {w : World} {base : Nat} {v : Value} {vs : List Value} {xs : List (List Int)} (h : NestV ishp w base v vs xs) : ∃ A c, v = .slice A xs.length c ∧ xs.length ≤ c ∧ c ≤ maxLen ∧ SeesII w w.heap.size A xs := by
  have ho := h.outer
  rw [ii_flat vs xs h.len] at ho
  obtain ⟨A, c, rfl, h1, h2⟩ := ownS_slice ho
  rw [h.len] at h1
  refine ⟨A, c, by rw [h.len], h1, h2, fun hn => ?_⟩
  have hne : vs ≠ [] := fun e => hn (List.eq_nil_of_length_eq_zero (by rw [← h.len, e]; rfl))
  obtain ⟨b, o, e, hb, hc⟩ := sees_own ho hne
  refine ⟨b, o, e, hb, fun i x hx => ?_⟩
  have hi : i < vs.length := by rw [h.len]; exact (List.getElem?_eq_some_iff.1 hx).1
  have hu : vs[i]? = some vs[i] := List.getElem?_eq_getElem hi
  have hin := h.inner i _ x hu hx
  obtain ⟨A', c', e', h3, h4⟩ := ownS_slice hin
  rw [e'] at hin hu
  exact ⟨A', c', hc i _ hu, Nat.le_trans h3 h4, sees_own hin⟩

set_option maxRecDepth 100000 in
set_option maxHeartbeats 1000000 in
theorem rsame23_any (B : Nat) (A A' : Option Addr) (xs ys : List (List Int)) (c c' : Nat) (w : World) (hs : SeesII w B A xs) (hs' : SeesII w B A' ys) (hm : xs.length ≤ maxLen) (hm' : ys.length ≤ maxLen) :
    Calls Try.prog 16 #[.slice A xs.length c, .slice A' ys.length c'] w fun e w' => e = .returned (.bool (decide (xs = ys))) ∧ ∃ n, w.drewN n = w' := by
  unfold maxLen at hm hm'
  by_cases hlen : xs.length = ys.length
  · have e1 : ((xs.length : Int) != (ys.length : Int)) = false := by simp [hlen]
    have HL := Lib.hid hlen
    clear hlen
    go_enter Try.func16, Try.ntmps16
    go_wp2
    go_loopw [5] (fun i wr => ∃ k : Nat, k ≤ xs.length ∧ i = .int .i64 k ∧ Hid (xs.take k = ys.take k) ∧ Hid (∃ n, w.drewN n = wr)) (fun i _ => xs.length - (intOf i).toNat)
    case atStart => exact ⟨0, Nat.zero_le _, rfl, by simp [Hid], 0, rfl⟩
    case round =>
      obtain ⟨k, hk, rfl, HT, HW⟩ := hrel
      have hsr : SeesII wr B A xs := by
        obtain ⟨n, e⟩ := HW.out
        subst e
        exact hs.keep fun _ _ => rfl
      have hsr' : SeesII wr B A' ys := by
        obtain ⟨n, e⟩ := HW.out
        subst e
        exact hs'.keep fun _ _ => rfl
      clear hs hs'
      have hs := hsr
      have hs' := hsr'
      clear hsr hsr'
      by_cases hlt : k < xs.length
      · have hltr : k < ys.length := by have := HL.out; omega
        obtain ⟨b, o, A1, c1, rfl, _, hcell, hm1, hs1⟩ := hs.at_ hlt
        obtain ⟨b', o', A2, c2, rfl, _, hcell', hm2, hs2⟩ := hs'.at_ hltr
        have HS : Hid (xs[k] = ys[k] → xs.take (k + 1) = ys.take (k + 1)) := fun he => by rw [List.take_succ_eq_append_getElem hlt, List.take_succ_eq_append_getElem hltr, HT.out, he]
        have HN : Hid (xs[k] ≠ ys[k] → decide (xs = ys) = false) := fun h => decide_eq_false fun e => by subst e; exact h rfl
        have HQ := Lib.hid (fun W (h1 : Sees W B A1 (ints xs[k])) (h2 : Sees W B A2 (ints ys[k])) => numbers_any B A1 A2 xs[k] ys[k] c1 c2 W h1 h2 hm1 hm2)
        have HS1 := Lib.hid hs1
        have HS2 := Lib.hid hs2
        clear hs hs' HT hs1 hs2 hm1 hm2
        generalize xs[k] = x at *
        generalize ys[k] = y at *
        by_cases hxy : x = y
        · have HS' := Lib.hid (HS.out hxy)
          have e2 := sameI_yes hxy
          rw [e2] at HQ
          have HC : Hid (∀ n, Calls Try.prog 13 #[.slice A1 x.length c1, .slice A2 y.length c2] (wr.drewN n) fun e w' => e = .returned (.bool true) ∧ ∃ m, w' = wr.drewN m) := fun n => Calls.quiet_of ((HQ.out (wr.drewN n) (HS1.out.keep fun _ _ => rfl) (HS2.out.keep fun _ _ => rfl)).mono fun _ _ h => ⟨h.1, h.2.imp fun _ e => e.symm⟩)
          clear HS HN hxy
          go_wp2
          go_quiet (exact HC.out _)
          go_wp2
          go_roundw
          case rel => exact ⟨k + 1, by omega, by go_num, HS'.out, by obtain ⟨n, e⟩ := HW.out; subst e; exact ⟨_, (World.drewN_drewN _ _ _).symm⟩⟩
          case measure => simp [intOf]; omega
        · have HE := Lib.hid (HN.out hxy)
          have e2 := sameI_no hxy
          rw [e2] at HQ
          have HC : Hid (∀ n, Calls Try.prog 13 #[.slice A1 x.length c1, .slice A2 y.length c2] (wr.drewN n) fun e w' => e = .returned (.bool false) ∧ ∃ m, w' = wr.drewN m) := fun n => Calls.quiet_of ((HQ.out (wr.drewN n) (HS1.out.keep fun _ _ => rfl) (HS2.out.keep fun _ _ => rfl)).mono fun _ _ h => ⟨h.1, h.2.imp fun _ e => e.symm⟩)
          clear HS HN hxy
          go_wp2
          go_quiet (exact HC.out _)
          go_wp2
          go_ret
          exact ⟨by rw [HE.out]; rfl, by obtain ⟨n, e⟩ := HW.out; subst e; exact ⟨_, (World.drewN_drewN _ _ _).symm⟩⟩
      · have HE : Hid (decide (xs = ys) = true) := by
          have h := HT.out
          have := HL.out
          rw [List.take_of_length_le (by omega), List.take_of_length_le (by omega)] at h
          exact decide_eq_true h
        clear HT hs hs'
        go_wp2
        go_ret
        exact ⟨by rw [HE.out]; rfl, HW.out⟩
  · have HE : Hid (decide (xs = ys) = false) := decide_eq_false fun e => hlen (by rw [e])
    have e1 : ((xs.length : Int) != (ys.length : Int)) = true := by simp; omega
    clear hlen
    go_enter Try.func16, Try.ntmps16
    go_wp2
    go_ret
    exact ⟨by rw [HE.out]; rfl, 0, rfl⟩

end Go.Proofs.Ytncigbpeempnfaa
