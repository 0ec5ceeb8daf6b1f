import Derived.Test.YtkapmfopfddmbaaPk19
import Derived.Test.YtkapmfopfddmbaaPk6
import Derived.Test.YtkapmfopfddmbaaPk1
import Derived.Deep.QuietTactic
import Derived.BigQuiet

/-
  A slice of byte slices that a call owns, together with what its elements hold: no two share a block.
-/
namespace Go.Proofs.Ytkapmfopfddmbaa
open Go.RowKit
set_option linter.unusedVariables false

theorem own_base {w : World} {base base' n : Nat} {e : TypeId} {v : Value} {xs : List Value} (h : w.ownsRow base e 1 v n xs) (hb : base' ≤ base) : w.ownsRow base' e 1 v n xs :=
  ⟨h.1, by
    rcases h.2 with h | ⟨g, cap, cur, h1, h2, h3⟩
    · exact .inl h
    · exact .inr ⟨g, cap, cur, h1, Nat.le_trans hb h2, h3⟩⟩

theorem own_ne {w : World} {base base' n m : Nat} {e e' : TypeId} {v u : Value} {xs ys : List Value} (h : w.ownsRow base e 1 v n xs) (k : w.ownsRow base' e' 1 u m ys) (he : e ≠ e') (g : Nat) (hv : v.ownBlock = some g) (hu : u.ownBlock = some g) : False := by
  rcases h.2 with ⟨rfl, _⟩ | ⟨a, cap, cur, rfl, _, h1, _⟩
  · cases hv
  · rcases k.2 with ⟨rfl, _⟩ | ⟨b, cap', cur', rfl, _, h2, _⟩
    · cases hu
    · simp only [Value.ownBlock, Option.some.injEq] at hv hu
      subst hv
      rw [hu] at h2
      rw [h1] at h2
      simp only [Option.some.injEq, Obj.cells.injEq] at h2
      exact he h2.2.1

structure LstV (w : World) (base : Nat) (v : Value) (vs : List Value) (xs : List (List Nat)) : Prop where
  outer : w.ownsRow base 22 1 v vs.length vs
  len : vs.length = xs.length
  inner : ∀ (i : Nat) (u : Value) (x : List Nat), vs[i]? = some u → xs[i]? = some x → w.ownsRow base 5 1 u x.length (bts x)
  dist : ∀ (i j : Nat) (u u' : Value) (g : Nat), vs[i]? = some u → vs[j]? = some u' → u.ownBlock = some g → u'.ownBlock = some g → i = j

def Lst (w : World) (base : Nat) (v : Value) (xs : List (List Nat)) : Prop := ∃ vs, LstV w base v vs xs

section
variable {w w' w0 : World} {base : Nat} {v v' u : Value} {vs : List Value} {xs : List (List Nat)} {x : List Nat}

theorem LstV.nil (w : World) (base : Nat) : LstV w base (.slice none 0 0) [] [] :=
  ⟨⟨rfl, .inl ⟨rfl, rfl⟩⟩, rfl, fun i u x h => by simp at h, fun i j u u' g h => by simp at h⟩

theorem LstV.get (h : LstV w base v vs xs) {i : Nat} {u : Value} (hu : vs[i]? = some u) : ∃ x, xs[i]? = some x ∧ w.ownsRow base 5 1 u x.length (bts x) := by
  have hi : i < vs.length := (List.getElem?_eq_some_iff.1 hu).1
  have hi' : i < xs.length := by rw [← h.len]; exact hi
  exact ⟨xs[i], List.getElem?_eq_getElem hi', h.inner i u _ hu (List.getElem?_eq_getElem hi')⟩

theorem LstV.mods {S : Nat → Prop} (h : LstV w base v vs xs) (hm : Mods S w w') (hS : ∀ k, base ≤ k → k < w.heap.size → ¬ S k) : LstV w' base v vs xs :=
  ⟨hm.own h.outer fun k hk => by
      have := own_lt h.outer k hk
      exact hS k this.1 this.2, h.len,
    fun i u x h1 h2 => hm.own (h.inner i u x h1 h2) fun k hk => by
      have := own_lt (h.inner i u x h1 h2) k hk
      exact hS k this.1 this.2, h.dist⟩

theorem LstV.rebase (h : LstV w base v vs xs) {base' : Nat} (hb : base' ≤ base) : LstV w base' v vs xs :=
  ⟨own_base h.outer hb, h.len, fun i u x h1 h2 => own_base (h.inner i u x h1 h2) hb, h.dist⟩

theorem Lst.mods {S : Nat → Prop} (h : Lst w base v xs) (hm : Mods S w w') (hS : ∀ k, base ≤ k → k < w.heap.size → ¬ S k) : Lst w' base v xs := by
  obtain ⟨vs, h⟩ := h
  exact ⟨vs, h.mods hm hS⟩

theorem Lst.below (h : Lst w base v xs) (hb : Below w.heap.size w w') : Lst w' base v xs := h.mods (S := No) (Mods.of_below hb) fun _ _ _ h => h

theorem Lst.rebase (h : Lst w base v xs) {base' : Nat} (hb : base' ≤ base) : Lst w base' v xs := by
  obtain ⟨vs, h⟩ := h
  exact ⟨vs, h.rebase hb⟩

/-- One more element, made since, is appended. -/
theorem LstV.snoc {S : Nat → Prop} (h : LstV w0 base v vs xs) (hm : Mods S w0 w) (hS : ∀ k, S k → k < base) (hb : base ≤ w0.heap.size) (hu : w.ownsRow w0.heap.size 5 1 u x.length (bts x)) (o : Obj)
    (ho : w'.ownsRow base 22 1 v' (vs.length + 1) (vs ++ [u])) (hg : (w.alloc o).grownBy w' v.ownBlock) : LstV w' base v' (vs ++ [u]) (xs ++ [x]) := by
  have hS' : ∀ k, base ≤ k → k < w0.heap.size → ¬ S k := fun k h1 _ h3 => by have := hS k h3; omega
  have h1 := h.mods hm hS'
  have hG : Mods (fun k => v.ownBlock = some k) w w' := ((Mods.refl _ _).alloc o).grown hg fun k hk => .inl hk
  have hne : (22 : TypeId) ≠ 5 := by decide
  have hnew : ∀ (i : Nat) (u' : Value), vs[i]? = some u' → ∀ g, u'.ownBlock = some g → u.ownBlock = some g → False := fun i u' hi g h2 h3 => by
    obtain ⟨x', _, hx'⟩ := h.get hi
    have a := own_lt hx' g h2
    have b := own_lt hu g h3
    omega
  refine ⟨by rw [List.length_append]; exact ho, by simp [h.len], fun i u' y hi hy => ?_, fun i j a b g hi hj ha hb => ?_⟩
  · rcases Nat.lt_trichotomy i vs.length with hl | hl | hl
    · rw [List.getElem?_append_left hl] at hi
      rw [List.getElem?_append_left (by rw [← h.len]; exact hl)] at hy
      have hin := h1.inner i u' y hi hy
      exact hG.own hin fun k hk hs => own_ne h1.outer hin hne k hs hk
    · subst hl
      rw [List.getElem?_append_right (Nat.le_refl _), Nat.sub_self] at hi
      rw [h.len, List.getElem?_append_right (Nat.le_refl _), Nat.sub_self] at hy
      injection hi with hi
      injection hy with hy
      subst hi
      subst hy
      exact hG.own (own_base hu hb) fun k hk hs => own_ne h1.outer hu hne k hs hk
    · rw [List.getElem?_eq_none (by simp; omega)] at hi
      cases hi
  · have hI : ∀ (i : Nat) (a : Value), (vs ++ [u])[i]? = some a → (vs[i]? = some a) ∨ (i = vs.length ∧ a = u) := fun i a hi => by
      rcases Nat.lt_trichotomy i vs.length with hl | hl | hl
      · rw [List.getElem?_append_left hl] at hi
        exact .inl hi
      · subst hl
        rw [List.getElem?_append_right (Nat.le_refl _), Nat.sub_self] at hi
        injection hi with hi
        exact .inr ⟨rfl, hi.symm⟩
      · rw [List.getElem?_eq_none (by simp; omega)] at hi
        cases hi
    rcases hI i a hi with h2 | ⟨h2, h3⟩
    · rcases hI j b hj with h4 | ⟨h4, h5⟩
      · exact h.dist i j a b g h2 h4 ha hb
      · subst h5
        exact (hnew i a h2 g ha hb).elim
    · subst h3
      rcases hI j b hj with h4 | ⟨h4, h5⟩
      · exact (hnew j b h4 g hb ha).elim
      · omega

/-- It is a slice, and shows its lists. -/
theorem LstV.sees (h : LstV w base v vs xs) : ∃ A c, v = .slice A xs.length c ∧ xs.length ≤ c ∧ c ≤ maxLen ∧ SeesL w w.heap.size A xs := by
  have ho := h.outer
  have hl := h.len
  rw [hl] at ho
  obtain ⟨A, c, rfl, h1, h2⟩ := own_slice ho hl
  refine ⟨A, c, rfl, h1, h2, vs, Sees.of_own ho, hl, fun i x hx => ?_⟩
  have hi : i < vs.length := by rw [hl]; exact (List.getElem?_eq_some_iff.1 hx).1
  have hin := h.inner i vs[i] x (List.getElem?_eq_getElem hi) hx
  obtain ⟨A', c', hv, h3, h4⟩ := own_slice hin (bts_length x)
  rw [hv] at hin
  exact ⟨A', c', by rw [List.getElem?_eq_getElem hi, hv], h3, h4, Sees.of_own hin⟩

theorem Lst.sees (h : Lst w base v xs) : ∃ A c, v = .slice A xs.length c ∧ xs.length ≤ c ∧ c ≤ maxLen ∧ SeesL w w.heap.size A xs := by
  obtain ⟨vs, h⟩ := h
  exact h.sees

theorem LstV.one (h : LstV w base v vs xs) : ∀ u ∈ vs, u.oneCell' = true := by
  intro u hu
  obtain ⟨i, hi, rfl⟩ := List.getElem_of_mem hu
  obtain ⟨x, _, hx⟩ := h.get (List.getElem?_eq_getElem hi)
  obtain ⟨A, c, hv, _⟩ := own_slice hx (bts_length x)
  rw [hv]
  rfl

end

end Go.Proofs.Ytkapmfopfddmbaa

/-
  The reference's Split: the contents as parts of the input, or the first error.
-/
namespace Go.Proofs.Ytkapmfopfddmbaa
open Go.RowKit
set_option linter.unusedVariables false

/-- What the reference's Split returns. -/
def RSplitP (w : World) (ids l : List Nat) (e : Ending) (w' : World) : Prop :=
  Below w.heap.size w w' ∧ ((splitE ids l = 0 ∧ ∃ v vs, e = .returned (.tuple #[v, .int .i64 0]) ∧ w'.ownsRow w.heap.size 22 1 v vs.length vs ∧ Cells w' w.heap.size vs (splitF ids l).2.1) ∨
    (splitE ids l ≠ 0 ∧ e = .returned (.tuple #[.slice none 0 0, .int .i64 (splitE ids l : Nat)])))

theorem rget_at (B : Nat) (A : Option Addr) (l : List Nat) (n cap : Nat) (w : World) (hs : Sees w B A (bts l)) (hb : Byt l) (hm : l.length ≤ maxLen) (hn : l.length = n) {v q e : Nat} (hg : getS l = (v, q, e)) :
    Calls Try.prog 47 #[.slice A n cap] w fun r w' => r = .returned (.tuple #[.int .u64 v, .int .i64 q, .int .i64 e]) ∧ w = w' := by
  subst hn
  have := rget_any B A l cap w hs hb hm
  rwa [hg] at this

set_option maxRecDepth 100000 in
set_option maxHeartbeats 4000000 in
theorem rsplit_any (B : Nat) (A A' : Option Addr) (l ids : List Nat) (c c' : Nat) (w : World) (hs : Sees w B A (bts l)) (hi : Sees w B A' (bts ids)) (hB : B ≤ w.heap.size) (hby : Byt l) (hbi : Byt ids) (hm : l.length ≤ 1000000) (hn : ids.length ≤ 1000) (hlc : l.length ≤ c) (hc : c ≤ maxLen) :
    Calls Try.prog 27 #[.slice A l.length c, .slice A' ids.length c'] w (RSplitP w ids l) := by
  obtain ⟨i0, hi0, hz0, hz1, hz2⟩ := info_parts infoSl
  have HBI := Lib.hid hbi
  have HBY := Lib.hid hby
  clear hby hbi
  unfold maxLen at hc
  go_enter Try.func27, Try.ntmps27
  go_wp2
  go_loopw [6, 7, 8] (fun s a j wr => ∃ (k i : Nat) (v : Value) (vs : List Value) (xs : List (List Nat)), k ≤ ids.length ∧ i ≤ l.length ∧ v = s ∧ a = .int .i64 i ∧ j = .int .i64 k ∧ xs.length = k ∧ Hid (wr.ownsRow w.heap.size 22 1 v vs.length vs) ∧ Hid (Cells wr w.heap.size vs xs) ∧ Hid (Below w.heap.size w wr) ∧ Hid (SplitAt ids l k i xs)) (fun _ _ j _ => ids.length - (intOf j).toNat)
  case atStart => exact ⟨0, 0, _, [], [], Nat.zero_le _, Nat.zero_le _, rfl, rfl, rfl, rfl, ⟨rfl, .inl ⟨rfl, rfl⟩⟩, Cells.nil _ _, Below.refl _ _, SplitAt.zero ids l⟩
  case round =>
    obtain ⟨k, a, v, vs, xs, hk, hal, rfl, rfl, rfl, hxl, HO, HV, HB, HT⟩ := hrel
    by_cases hlt : k < ids.length
    · by_cases ha : a = l.length
      · have HE := Lib.hid (HT.out.bad hlt (e := 1) (by rw [ha, List.drop_length]; rfl) (by decide))
        have e1 : ((a : Int) == (l.length : Int)) = true := by simp [ha]
        clear ha hs hi
        go_wp2
        go_ret2
        exact ⟨HB.out, .inr ⟨by rw [HE.out]; decide, by rw [HE.out]; rfl⟩⟩
      have e1 : ((a : Int) == (l.length : Int)) = false := by simp; omega
      have hal' : a < l.length := by omega
      have hib := (hi.more hB).below HB.out
      have hsb := (hs.more hB).below HB.out
      obtain ⟨b, o, hAe, _, hc2⟩ := hib (bts_ne hlt)
      have hcell : wr.cell? ⟨b, o + k, none⟩ = some (.int .u8 (ids[k] : Int)) := hc2 k _ (by simp [bts, hlt])
      subst hAe
      obtain ⟨b', o', hAe, _, hc3⟩ := hsb (bts_ne hal')
      have hcell' : wr.cell? ⟨b', o' + a, none⟩ = some (.int .u8 (l[a] : Int)) := hc3 a _ (by simp [bts, hal'])
      have hx : ids[k] < 256 := HBI.out _ (List.getElem_mem hlt)
      have hy : l[a] < 256 := HBY.out _ (List.getElem_mem hal')
      have hd : l.drop a = l[a] :: l.drop (a + 1) := List.drop_eq_getElem_cons hal'
      have HDR := Lib.hid hd
      clear hib hc2 hc3 hd
      have HOK : Hid (∀ hd v, oneS ids[k] (l.drop a) = (0, hd, v) → SplitAt ids l (k + 1) (a + hd + v) (xs ++ [(l.drop (a + hd)).take v])) := fun hd v h => HT.out.step hlt h
      have HBAD : Hid (∀ e, (oneS ids[k] (l.drop a)).1 = e → e ≠ 0 → splitE ids l = e) := fun e h h0 => HT.out.bad hlt h h0
      clear HT
      generalize ids[k] = id at *
      generalize l[a] = y at *
      by_cases hyi : y = id
      case neg =>
        have e2 : ((y : Int) != (id : Int)) = true := by simp; omega
        have HE := Lib.hid (HBAD.out 7 (by rw [HDR.out, oneS, if_pos hyi]) (by decide))
        subst hAe
        clear hyi HBAD HOK hs hi hsb
        go_wp2
        go_quiet (fail)
        go_wp2
        go_ret2
        exact ⟨blw_drewN HB.out _, .inr ⟨by rw [HE.out]; decide, by rw [HE.out]; rfl⟩⟩
      have e2 : ((y : Int) != (id : Int)) = false := by simp [hyi]
      have hsd := hsb.drop (k := a + 1) (cap := c) (by rw [bts_length]; exact hlc)
      rw [show (bts l).drop (a + 1) = bts (l.drop (a + 1)) from by simp [bts]] at hsd
      obtain ⟨A1, hite⟩ : ∃ A1, (if c = a + 1 then A else A.map fun x => x.add (a + 1)) = A1 := ⟨_, rfl⟩
      have hsd1 : Sees wr w.heap.size A1 (bts (l.drop (a + 1))) := hite ▸ hsd
      have HSD := Lib.hid hsd1
      have HBD := Lib.hid (show Byt (l.drop (a + 1)) from fun x hx => HBY.out x (List.mem_of_mem_drop hx))
      have hsn : ∀ n, ∃ A2, (if c = a + 1 + n then some (⟨b', o', none⟩ : Addr) else some ⟨b', o' + (a + 1 + n), none⟩) = A2 ∧ Sees wr w.heap.size A2 (bts (l.drop (a + 1 + n))) := fun n => by
        have h1 := hsb.drop (k := a + 1 + n) (cap := c) (by rw [bts_length]; exact hlc)
        rw [show (bts l).drop (a + 1 + n) = bts (l.drop (a + 1 + n)) from by simp [bts]] at h1
        refine ⟨_, rfl, ?_⟩
        rw [hAe] at h1
        simpa [Addr.add_lit] using h1
      have HSN := Lib.hid hsn
      have hoa : ∀ m o, ((wr.drewN m).alloc o).ownsRow w.heap.size 22 1 v vs.length vs := fun m o => (((Mods.refl No wr).drewN m).alloc o).own HO.out fun _ _ h => h
      have HOA := Lib.hid hoa
      have hvl : vs.length ≤ 1000 := by rw [HV.out.1]; omega
      clear hsd hsd1 hsb hs hi hsn hoa
      have htl : (l.drop (a + 1)).length = l.length - (a + 1) := List.length_drop
      have HX := Lib.hid (fun h d (e : (l.drop (a + 1)).drop h = d) => show l.drop (a + (1 + h)) = d from by rw [← e, List.drop_drop, Nat.add_assoc])
      subst hAe
      have hite2 : (if c = a + 1 then some (⟨b', o', none⟩ : Addr) else some ⟨b', o' + (a + 1), none⟩) = A1 := by
        rw [← hite]
        split <;> simp [Addr.add_lit]
      clear hite
      generalize l.drop (a + 1) = t at *
      rcases getS_kinds t with ⟨x, n, hg⟩ | hg | hg
      · have hcan := getS_canon HBD.out hg
        have hxl := getS_lt HBD.out hg
        have HG := Lib.hid hg
        by_cases hshort : t.length < n + x
        · have HE := Lib.hid (HBAD.out 1 (by rw [HDR.out, hyi, oneS, if_neg (by simp), hg, if_neg (by simp), if_pos hshort]) (by decide))
          clear hg HBAD HOK HDR HX hyi
          go_wp2_with fail
          go_quiet (fail)
          go_wp2_with fail
          refine (rget_at w.heap.size A1 t _ _ _ (HSD.out.drewN _) HBD.out (by unfold maxLen; omega) htl HG.out).mono ?_
          rintro e W ⟨rfl, rfl⟩
          go_wp2
          go_ret2
          exact ⟨blw_drewN HB.out _, .inr ⟨by rw [HE.out]; decide, by rw [HE.out]; rfl⟩⟩
        · have HO1 := Lib.hid (HOK.out (1 + n) x (by rw [HDR.out, hyi, oneS, if_neg (by simp), hg, if_neg (by simp), if_neg hshort]))
          obtain ⟨A2, hite3, hs3⟩ := HSN.out n
          have HS3 : Hid (Sees wr w.heap.size A2 (bts ((l.drop (a + (1 + n))).take x))) := by
            rw [← Nat.add_assoc]
            have := hs3.take (k := x)
            unfold bts at *
            rwa [List.map_take]
          have hl3 : ((l.drop (a + (1 + n))).take x).length = x := by rw [List.length_take, List.length_drop]; omega
          clear hg HBAD HOK HDR hyi hs3 HSN HX
          go_wp2_with fail
          go_quiet (fail)
          go_wp2_with fail
          refine (rget_at w.heap.size A1 t _ _ _ (HSD.out.drewN _) HBD.out (by unfold maxLen; omega) htl HG.out).mono ?_
          rintro e W ⟨rfl, rfl⟩
          go_wp2_with (at_builtin; refine wpList_append_own _ rfl (.tmp 54) (.tmp 62) 43 rfl w.heap.size 22 i0 (.slice none 0 0) 1 24 Try.underlying43 hi0 hz0 hz1 hz2 rfl (by decide) _ _ _ rfl (HOA.out _ _) ⟨wr.heap.size, 0, none⟩ 1 1 [.slice A2 x (c - (a + 1 + n))] rfl rfl ?c0 ?c1 ?c2 ?c3 ?c4 ?_)
          case c0 => exact cell_one_new (wr.drewN nq) _ _
          case c1 =>
            intro u hu
            rw [List.mem_singleton.1 hu]
            rfl
          case c2 => unfold maxLen; omega
          case c3 => omega
          case c4 => have := HB.out.size; simp; omega
          intro v3 W3 ho3 hg3 _
          have hbz := HB.out.size
          have hm3 : Mods (fun k => v.ownBlock = some k) wr W3 := (((Mods.refl _ wr).drewN nq).alloc _).grown hg3 fun k hk => .inl hk
          have hb3 : Below w.heap.size wr W3 := hm3.below hbz fun k hk => (own_lt HO.out k hk).1
          have hv3 := (HV.out.below hb3).snoc (A := A2) (x := (l.drop (a + (1 + n))).take x) (c := c - (a + 1 + n)) (by rw [hl3]; omega) (by unfold maxLen; omega) (HS3.out.below hb3)
          rw [hl3] at hv3
          have HV3 := Lib.hid hv3
          have HB3 := Lib.hid (HB.out.trans hb3)
          have HO3 := Lib.hid (show W3.ownsRow w.heap.size 22 1 v3 (vs ++ [Value.slice A2 x (c - (a + 1 + n))]).length (vs ++ [Value.slice A2 x (c - (a + 1 + n))]) from by
            rw [List.length_append]
            exact ho3)
          have hax : a + (1 + n) + x ≤ l.length := by omega
          clear ho3 hg3 hm3 hb3 hv3 HO HV HB HOA HS3 HSD
          go_wp2
          go_roundw
          case rel => exact ⟨k + 1, a + (1 + n) + x, v3, _, _, by omega, hax, rfl, by go_num, by go_num, by simp [*], HO3.out, HV3.out, HB3.out, HO1.out⟩
          case measure => simp [intOf]; omega
      · have HE := Lib.hid (HBAD.out 1 (by rw [HDR.out, hyi, oneS, if_neg (by simp), hg, if_pos (by simp)]) (by decide))
        have HG := Lib.hid hg
        clear hg HBAD HOK HDR HX hyi
        go_wp2_with fail
        go_quiet (fail)
        go_wp2_with fail
        refine (rget_at w.heap.size A1 t _ _ _ (HSD.out.drewN _) HBD.out (by unfold maxLen; omega) htl HG.out).mono ?_
        rintro e W ⟨rfl, rfl⟩
        go_wp2
        go_ret2
        exact ⟨blw_drewN HB.out _, .inr ⟨by rw [HE.out]; decide, by rw [HE.out]; rfl⟩⟩
      · have HE := Lib.hid (HBAD.out 3 (by rw [HDR.out, hyi, oneS, if_neg (by simp), hg, if_pos (by simp)]) (by decide))
        have HG := Lib.hid hg
        clear hg HBAD HOK HDR HX hyi
        go_wp2_with fail
        go_quiet (fail)
        go_wp2_with fail
        refine (rget_at w.heap.size A1 t _ _ _ (HSD.out.drewN _) HBD.out (by unfold maxLen; omega) htl HG.out).mono ?_
        rintro e W ⟨rfl, rfl⟩
        go_wp2
        go_ret2
        exact ⟨blw_drewN HB.out _, .inr ⟨by rw [HE.out]; decide, by rw [HE.out]; rfl⟩⟩
    · obtain rfl : k = ids.length := by omega
      by_cases ha : a = l.length
      · have HE := Lib.hid (HT.out.fit (Nat.le_refl _) (by omega))
        have hle : (l.length : Int) ≤ a := by omega
        clear ha hal
        go_wp2
        go_ret2
        exact ⟨HB.out, .inl ⟨HE.out.1, v, vs, rfl, HO.out, by rw [HE.out.2]; exact HV.out⟩⟩
      · have HE := Lib.hid (HT.out.long (Nat.le_refl _) (by omega))
        have hal' : a < l.length := by omega
        clear ha
        go_wp2
        go_ret2
        exact ⟨HB.out, .inr ⟨by rw [HE.out]; decide, by rw [HE.out]; rfl⟩⟩

end Go.Proofs.Ytkapmfopfddmbaa

/-
  Reading one section: the error, and where the contents are.
-/
namespace Go.Proofs.Ytkapmfopfddmbaa
open Go.RowKit
set_option linter.unusedVariables false

/-- What reading a section does to the cursor's offset and error, and what it returns. -/
def SecR (l : List Nat) (i : Nat) (er : Int) (id i' : Nat) (er' : Int) (x : List Nat) : Prop :=
  (er ≠ 0 → er' = er) ∧ (er = 0 → er' = ((oneS id (l.drop i)).1 : Nat) ∧ (er' = 0 → i' = i + (oneS id (l.drop i)).2.1 + (oneS id (l.drop i)).2.2 ∧ x = (l.drop (i + (oneS id (l.drop i)).2.1)).take (oneS id (l.drop i)).2.2))

theorem uintS_max (l : List Nat) (hb : Byt l) : uintS 18446744073709551615 l = getS l := by
  unfold uintS
  rw [if_neg]
  rintro ⟨h0, h1⟩
  have := getS_lt (l := l) hb (x := (getS l).1) (n := (getS l).2.1) (by rw [← h0])
  omega

theorem step_bad {er : Int} (h : er ≠ 0) (i : Nat) (r : Nat × Nat × Nat) : stepV er r = 0 ∧ stepI i er r = i ∧ stepE er r = er :=
  ⟨if_neg fun k => h k.1, if_neg fun k => h k.1, if_neg h⟩

theorem step_ok0 (i : Nat) {r : Nat × Nat × Nat} (h : r.2.2 = 0) : stepV 0 r = r.1 ∧ stepI i 0 r = i + r.2.1 ∧ stepE 0 r = 0 :=
  ⟨if_pos ⟨rfl, h⟩, if_pos ⟨rfl, h⟩, by rw [stepE, if_pos rfl, h]; rfl⟩

theorem step_err (i : Nat) {r : Nat × Nat × Nat} (h : r.2.2 ≠ 0) : stepV 0 r = 0 ∧ stepI i 0 r = i ∧ stepE 0 r = (r.2.2 : Nat) :=
  ⟨if_neg fun k => h k.2, if_neg fun k => h k.2, if_pos rfl⟩

/-- The end of a read that has failed. -/
theorem sec_bad {l : List Nat} {i id i3 : Nat} {er e4 : Int} {m : Int} (h4 : e4 ≠ 0) (h : (er ≠ 0 → e4 = er) ∧ (er = 0 → e4 = ((oneS id (l.drop i)).1 : Nat))) :
    SecR l i er id (stepI i3 e4 (bytesS m (l.drop i3))) (stepE e4 (bytesS m (l.drop i3))) (bytesL e4 m (l.drop i3)) := by
  obtain ⟨_, h2, h3⟩ := step_bad h4 i3 (bytesS m (l.drop i3))
  rw [h2, h3]
  exact ⟨h.1, fun h0 => ⟨h.2 h0, fun k => absurd k h4⟩⟩

theorem sec_math (l : List Nat) (hb : Byt l) (hm : l.length ≤ 70368744177664) (i id i1 i3 v1 n : Nat) (er e1 e2 e3 e4 : Int) (hi : i ≤ l.length)
    (h1 : v1 = stepV er (byteS (l.drop i))) (h2 : i1 = stepI i er (byteS (l.drop i))) (h3 : e1 = stepE er (byteS (l.drop i)))
    (h4 : e2 = if v1 = id then e1 else failS e1 7)
    (h5 : n = stepV e2 (uintS 18446744073709551615 (l.drop i1))) (h6 : i3 = stepI i1 e2 (uintS 18446744073709551615 (l.drop i1))) (h7 : e3 = stepE e2 (uintS 18446744073709551615 (l.drop i1)))
    (h8 : e4 = if leftS l.length i3 e3 < (n : Int) then failS e3 1 else e3) (m : Int) (hmm : m = IntKind.i64.wrap n) :
    SecR l i er id (stepI i3 e4 (bytesS m (l.drop i3))) (stepE e4 (bytesS m (l.drop i3))) (bytesL e4 m (l.drop i3)) := by
  subst hmm
  have fail_bad : ∀ {a : Int} (b : Int), a ≠ 0 → failS a b = a := fun b h => if_neg h
  by_cases he : er = 0
  case neg =>
    obtain ⟨a1, a2, a3⟩ := step_bad he i (byteS (l.drop i))
    rw [a1] at h1; rw [a2] at h2; rw [a3] at h3
    have e2' : e2 = er := by rw [h4, h3, fail_bad 7 he]; exact ite_self _
    subst e2'
    obtain ⟨b1, b2, b3⟩ := step_bad he i1 (uintS 18446744073709551615 (l.drop i1))
    rw [b3] at h7
    have e4' : e4 = e2 := by rw [h8, h7, fail_bad 1 he]; exact ite_self _
    exact sec_bad (by rw [e4']; exact he) ⟨fun _ => e4', fun h => absurd h he⟩
  subst he
  cases hd : l.drop i with
  | nil =>
    rw [hd] at h1 h2 h3
    have e1' : e1 = 1 := h3
    have e2' : e2 = 1 := by rw [h4, e1']; split <;> rfl
    subst e2'
    obtain ⟨b1, b2, b3⟩ := step_bad (er := 1) (by decide) i1 (uintS 18446744073709551615 (l.drop i1))
    rw [b3] at h7
    have e4' : e4 = 1 := by rw [h8, h7]; split <;> rfl
    exact sec_bad (by rw [e4']; decide) ⟨fun h => absurd rfl h, fun _ => by rw [e4', hd]; rfl⟩
  | cons x t =>
    rw [hd] at h1 h2 h3
    have v1' : v1 = x := h1
    have i1' : i1 = i + 1 := h2
    have e1' : e1 = 0 := h3
    subst v1' i1' e1'
    have hd1 : l.drop (i + 1) = t := by rw [← List.drop_drop, hd]; rfl
    have hil : i + 1 ≤ l.length := by
      have := congrArg List.length hd
      rw [List.length_drop, List.length_cons] at this
      omega
    have htl : t.length = l.length - (i + 1) := by rw [← hd1, List.length_drop]
    have htb : Byt t := by rw [← hd1]; exact fun c hc => hb c (List.mem_of_mem_drop hc)
    by_cases hid : v1 = id
    case neg =>
      have e2' : e2 = 7 := by rw [h4, if_neg hid]; rfl
      subst e2'
      obtain ⟨b1, b2, b3⟩ := step_bad (er := 7) (by decide) (i + 1) (uintS 18446744073709551615 (l.drop (i + 1)))
      rw [b3] at h7
      have e4' : e4 = 7 := by rw [h8, h7]; split <;> rfl
      exact sec_bad (by rw [e4']; decide) ⟨fun h => absurd rfl h, fun _ => by rw [e4', hd, oneS, if_pos hid]; rfl⟩
    rw [if_pos hid] at h4
    subst h4 hid
    rw [hd1, uintS_max _ htb] at h5 h6 h7
    by_cases hg : (getS t).2.2 = 0
    case neg =>
      obtain ⟨b1, b2, b3⟩ := step_err (i + 1) hg
      rw [b3] at h7
      have hgi : (((getS t).2.2 : Nat) : Int) ≠ 0 := by omega
      have e4' : e4 = ((getS t).2.2 : Nat) := by rw [h8, h7, fail_bad 1 hgi]; exact ite_self _
      exact sec_bad (by rw [e4']; exact hgi) ⟨fun h => absurd rfl h, fun _ => by rw [e4', hd, oneS, if_neg (by simp), if_pos hg]⟩
    obtain ⟨b1, b2, b3⟩ := step_ok0 (i + 1) hg
    rw [b1] at h5; rw [b2] at h6; rw [b3] at h7
    obtain ⟨c1, c2, c3⟩ := getS_canon (l := t) htb (x := (getS t).1) (n := (getS t).2.1) (by rw [← hg])
    have hone : oneS v1 (v1 :: t) = if t.length < (getS t).2.1 + (getS t).1 then (1, 0, 0) else (0, 1 + (getS t).2.1, (getS t).1) := by
      rw [oneS, if_neg (by simp), if_neg (by simpa using hg)]
    subst h5 h7
    rw [leftS_ok] at h8
    generalize (getS t).1 = n at *
    generalize (getS t).2.1 = q at *
    subst h6
    by_cases hn : t.length < q + n
    · rw [if_pos hn] at hone
      have e4' : e4 = 1 := by rw [h8, if_pos (by omega)]; rfl
      exact sec_bad (by rw [e4']; decide) ⟨fun h => absurd rfl h, fun _ => by rw [e4', hd, hone]; rfl⟩
    · rw [if_neg hn] at hone
      have e4' : e4 = 0 := by rw [h8, if_neg (by omega)]
      subst e4'
      have hw : IntKind.i64.wrap (n : Int) = n := by rw [IntKind.wrap_i64]; omega
      have hl2 : (l.drop (i + 1 + q)).length = t.length - q := by rw [List.length_drop]; omega
      have hS : bytesS (n : Int) (l.drop (i + 1 + q)) = (0, n, 0) := by
        unfold bytesS
        rw [if_neg (by omega), if_neg (by omega), Int.toNat_natCast]
      have hL := bytesL_ok (n := (n : Int)) (l := l.drop (i + 1 + q)) (by omega) (by omega)
      rw [Int.toNat_natCast] at hL
      rw [hw, hS, hL]
      unfold SecR
      rw [hd, hone]
      refine ⟨fun h => absurd rfl h, fun _ => ⟨rfl, fun _ => ⟨?_, ?_⟩⟩⟩
      · show i + 1 + q + n = i + (1 + q) + n
        omega
      · show _ = List.take n (l.drop (i + (1 + q)))
        rw [Nat.add_assoc]

/-- What readSection leaves. -/
def SecP (w : World) (lo p : Nat) (l : List Nat) (i : Nat) (er : Int) (A : Option Addr) (c : Nat) (id : Nat) (e : Ending) (w' : World) : Prop :=
  ∃ (x : List Nat) (A' : Option Addr) (c' i' : Nat) (er' : Int), e = .returned (.slice A' x.length c') ∧ Mods (Is p) w w' ∧ Cur w' lo p l i' er' A c ∧
    w'.ownsRow w.heap.size 5 1 (.slice A' x.length c') x.length (bts x) ∧ SecR l i er id i' er' x

theorem uint_v (er : Int) {l : List Nat} (r : Nat) (hb : Byt l) : stepV er (uintS 18446744073709551615 (l.drop r)) < 18446744073709551616 := by
  have hb' : Byt (l.drop r) := fun c hc => hb c (List.mem_of_mem_drop hc)
  unfold stepV
  split
  · next h =>
    rw [uintS_max _ hb'] at h ⊢
    exact getS_lt hb' (x := (getS (l.drop r)).1) (n := (getS (l.drop r)).2.1) (by rw [← h.2])
  · omega

theorem left_in {l : List Nat} {i : Nat} (h : i ≤ l.length) {er : Int} (hm : l.length ≤ 70368744177664) : 0 ≤ leftS l.length i er ∧ leftS l.length i er ≤ 70368744177664 := by
  unfold leftS
  split <;> omega

set_option maxRecDepth 100000 in
set_option maxHeartbeats 2000000 in
theorem read_section {w : World} {lo p : Nat} {l : List Nat} {i : Nat} {er : Int} {A : Option Addr} {c : Nat} (h : Cur w lo p l i er A c) (id : Nat) (hid : id < 256) (hsm : l.length ≤ 70368744177664) :
    Calls Try.prog 41 #[.pointer (some ⟨p, 0, none⟩), .int .u8 id] w (SecP w lo p l i er A c id) := by
  have HMA := Lib.hid (sec_math l h.byt hsm i id _ _ _ _ er _ _ _ _ h.le rfl rfl rfl rfl rfl rfl rfl rfl)
  have HC1 := Lib.hid (byte_any h)
  clear h
  unfold After at HC1
  generalize stepV er (byteS (l.drop i)) = v1 at *
  generalize stepI i er (byteS (l.drop i)) = i1 at *
  generalize stepE er (byteS (l.drop i)) = e1 at *
  by_cases hv : v1 = id
  · rw [if_pos hv] at HMA
    have g1 : ((v1 : Int) != (id : Int)) = false := by simp; omega
    clear hv
    go_enter Try.func41, Try.ntmps41
    go_wp2_with fail
    refine HC1.out.mono ?_
    rintro e W1 ⟨rfl, hm1, hc1⟩
    have Hc := Lib.hid hc1
    have Hm := Lib.hid hm1
    clear hm1 hc1 HC1
    go_wp2_with fail
    refine (uint_any Hc.out 18446744073709551615 (by decide)).mono ?_
    rintro e W3 ⟨rfl, hm3, hc3⟩
    have Hc3 := Lib.hid hc3
    have Hm3 := Lib.hid (Hm.out.trans hm3)
    have hn0 : stepV e1 (uintS 18446744073709551615 (l.drop i1)) < 18446744073709551616 := uint_v e1 _ Hc.out.byt
    clear hm3 hc3 Hc Hm
    generalize stepV e1 (uintS 18446744073709551615 (l.drop i1)) = n at *
    generalize stepI i1 e1 (uintS 18446744073709551615 (l.drop i1)) = i3 at *
    generalize stepE e1 (uintS 18446744073709551615 (l.drop i1)) = e3 at *
    have hle := Hc3.out.le
    have hlf := left_in hle (er := e3) hsm
    have HL := Lib.hid (left_any Hc3.out)
    generalize leftS l.length i3 e3 = z at *
    by_cases hz : z < (n : Int)
    · rw [if_pos hz] at HMA
      go_wp2_with fail
      refine HL.out.mono ?_
      rintro e W4 ⟨rfl, nd, rfl⟩
      have Hc4 := Lib.hid (Hc3.out.drewN nd)
      have Hm4 := Lib.hid (Hm3.out.drewN nd)
      clear Hc3 Hm3 HL
      go_wp2_with fail
      refine (fail_any Hc4.out 1).mono ?_
      rintro e W5 ⟨rfl, hm5, hc5⟩
      have Hc5 := Lib.hid hc5
      have Hm5 := Lib.hid (Hm4.out.trans hm5)
      clear hm5 hc5 Hc4 Hm4
      generalize failS e3 1 = e4 at *
      go_wp2_with fail
      refine (bytes_any Hc5.out _ (by first | omega | (unfold wrap64; omega)) hsm).mono ?_
      rintro e W6 ⟨A6, c6, rfl, hm6, hc6, ho6, _⟩
      have Hc6 := Lib.hid hc6
      have Hm6 := Lib.hid (Hm5.out.trans hm6)
      have Ho6 := Lib.hid (own_base ho6 Hm5.out.size)
      clear hm6 hc6 ho6 Hc5 Hm5
      go_wp2
      go_ret
      exact ⟨_, A6, c6, _, _, rfl, Hm6.out, Hc6.out, Ho6.out, HMA.out _ (by rw [IntKind.wrap_i64]; first | omega | (unfold wrap64; omega))⟩
    · rw [if_neg hz] at HMA
      go_wp2_with fail
      refine HL.out.mono ?_
      rintro e W4 ⟨rfl, nd, rfl⟩
      have Hc4 := Lib.hid (Hc3.out.drewN nd)
      have Hm4 := Lib.hid (Hm3.out.drewN nd)
      clear Hc3 Hm3 HL
      go_wp2_with fail
      refine (bytes_any Hc4.out _ (by first | omega | (unfold wrap64; omega)) hsm).mono ?_
      rintro e W6 ⟨A6, c6, rfl, hm6, hc6, ho6, _⟩
      have Hc6 := Lib.hid hc6
      have Hm6 := Lib.hid (Hm4.out.trans hm6)
      have Ho6 := Lib.hid (own_base ho6 Hm4.out.size)
      clear hm6 hc6 ho6 Hc4 Hm4
      go_wp2
      go_ret
      exact ⟨_, A6, c6, _, _, rfl, Hm6.out, Hc6.out, Ho6.out, HMA.out _ (by rw [IntKind.wrap_i64]; first | omega | (unfold wrap64; omega))⟩
  · rw [if_neg hv] at HMA
    have g1 : ((v1 : Int) != (id : Int)) = true := by simp; omega
    clear hv
    go_enter Try.func41, Try.ntmps41
    go_wp2_with fail
    refine HC1.out.mono ?_
    rintro e W1 ⟨rfl, hm1, hc1⟩
    have Hc := Lib.hid hc1
    have Hm := Lib.hid hm1
    clear hm1 hc1 HC1
    go_wp2_with fail
    refine (fail_any Hc.out 7).mono ?_
    rintro e W2 ⟨rfl, hm2, hc2⟩
    have Hc2 := Lib.hid hc2
    have Hm2 := Lib.hid (Hm.out.trans hm2)
    clear hm2 hc2 Hc Hm
    generalize failS e1 7 = e2 at *
    go_wp2_with fail
    refine (uint_any Hc2.out 18446744073709551615 (by decide)).mono ?_
    rintro e W3 ⟨rfl, hm3, hc3⟩
    have Hc3 := Lib.hid hc3
    have Hm3 := Lib.hid (Hm2.out.trans hm3)
    have hn0 : stepV e2 (uintS 18446744073709551615 (l.drop i1)) < 18446744073709551616 := uint_v e2 _ Hc2.out.byt
    clear hm3 hc3 Hc2 Hm2
    generalize stepV e2 (uintS 18446744073709551615 (l.drop i1)) = n at *
    generalize stepI i1 e2 (uintS 18446744073709551615 (l.drop i1)) = i3 at *
    generalize stepE e2 (uintS 18446744073709551615 (l.drop i1)) = e3 at *
    have hle := Hc3.out.le
    have hlf := left_in hle (er := e3) hsm
    have HL := Lib.hid (left_any Hc3.out)
    generalize leftS l.length i3 e3 = z at *
    by_cases hz : z < (n : Int)
    · rw [if_pos hz] at HMA
      go_wp2_with fail
      refine HL.out.mono ?_
      rintro e W4 ⟨rfl, nd, rfl⟩
      have Hc4 := Lib.hid (Hc3.out.drewN nd)
      have Hm4 := Lib.hid (Hm3.out.drewN nd)
      clear Hc3 Hm3 HL
      go_wp2_with fail
      refine (fail_any Hc4.out 1).mono ?_
      rintro e W5 ⟨rfl, hm5, hc5⟩
      have Hc5 := Lib.hid hc5
      have Hm5 := Lib.hid (Hm4.out.trans hm5)
      clear hm5 hc5 Hc4 Hm4
      generalize failS e3 1 = e4 at *
      go_wp2_with fail
      refine (bytes_any Hc5.out _ (by first | omega | (unfold wrap64; omega)) hsm).mono ?_
      rintro e W6 ⟨A6, c6, rfl, hm6, hc6, ho6, _⟩
      have Hc6 := Lib.hid hc6
      have Hm6 := Lib.hid (Hm5.out.trans hm6)
      have Ho6 := Lib.hid (own_base ho6 Hm5.out.size)
      clear hm6 hc6 ho6 Hc5 Hm5
      go_wp2
      go_ret
      exact ⟨_, A6, c6, _, _, rfl, Hm6.out, Hc6.out, Ho6.out, HMA.out _ (by rw [IntKind.wrap_i64]; first | omega | (unfold wrap64; omega))⟩
    · rw [if_neg hz] at HMA
      go_wp2_with fail
      refine HL.out.mono ?_
      rintro e W4 ⟨rfl, nd, rfl⟩
      have Hc4 := Lib.hid (Hc3.out.drewN nd)
      have Hm4 := Lib.hid (Hm3.out.drewN nd)
      clear Hc3 Hm3 HL
      go_wp2_with fail
      refine (bytes_any Hc4.out _ (by first | omega | (unfold wrap64; omega)) hsm).mono ?_
      rintro e W6 ⟨A6, c6, rfl, hm6, hc6, ho6, _⟩
      have Hc6 := Lib.hid hc6
      have Hm6 := Lib.hid (Hm4.out.trans hm6)
      have Ho6 := Lib.hid (own_base ho6 Hm4.out.size)
      clear hm6 hc6 ho6 Hc4 Hm4
      go_wp2
      go_ret
      exact ⟨_, A6, c6, _, _, rfl, Hm6.out, Hc6.out, Ho6.out, HMA.out _ (by rw [IntKind.wrap_i64]; first | omega | (unfold wrap64; omega))⟩

end Go.Proofs.Ytkapmfopfddmbaa

/-
  Split: the contents in memory of their own, or the first error.
-/
namespace Go.Proofs.Ytkapmfopfddmbaa
open Go.RowKit
set_option linter.unusedVariables false

/-- Part of the way through Split, with an error or without. -/
def SplT (ids l : List Nat) (k i : Nat) (er : Int) (xs : List (List Nat)) : Prop :=
  (er = 0 → SplitAt ids l k i xs) ∧ (er ≠ 0 → er = (splitE ids l : Nat))

theorem SplT.zero (ids l : List Nat) : SplT ids l 0 0 0 [] := ⟨fun _ => SplitAt.zero ids l, fun h => absurd rfl h⟩

theorem SplT.step {ids l : List Nat} {k i i' : Nat} {er er' : Int} {xs : List (List Nat)} {x : List Nat} (h : SplT ids l k i er xs) (hk : k < ids.length) (hr : SecR l i er ids[k] i' er' x) : SplT ids l (k + 1) i' er' (xs ++ [x]) := by
  by_cases h0 : er = 0
  · obtain ⟨h1, h2⟩ := hr.2 h0
    refine ⟨fun h3 => ?_, fun h3 => ?_⟩
    · obtain ⟨h4, h5⟩ := h2 h3
      subst h4
      subst h5
      exact (h.1 h0).step hk (by
        have : (oneS ids[k] (l.drop i)).1 = 0 := by omega
        rw [← this])
    · rw [h1]
      exact congrArg Int.ofNat ((h.1 h0).bad hk rfl (by omega)).symm
  · have h1 := hr.1 h0
    rw [h1]
    exact ⟨fun h3 => absurd h3 h0, h.2⟩

theorem SplT.last {ids l : List Nat} {k i : Nat} {er : Int} {xs : List (List Nat)} (h : SplT ids l k i er xs) (hk : ids.length ≤ k) : endS l.length i er = (splitE ids l : Nat) ∧ (splitE ids l = 0 → (splitF ids l).2.1 = xs) := by
  unfold endS
  by_cases h0 : er = 0
  · have hs := h.1 h0
    by_cases hi : i < l.length
    · rw [if_pos ⟨h0, hi⟩, hs.long hk hi]
      exact ⟨rfl, fun h => by cases h⟩
    · rw [if_neg fun h => hi h.2, h0, (hs.fit hk (by omega)).1]
      exact ⟨rfl, fun _ => (hs.fit hk (by omega)).2⟩
  · rw [if_neg fun h => h0 h.1]
    refine ⟨h.2 h0, fun h1 => ?_⟩
    have := h.2 h0
    rw [h1] at this
    exact absurd this h0

/-- What Split returns. -/
def SplitP (w : World) (ids l : List Nat) (e : Ending) (w' : World) : Prop :=
  Below w.heap.size w w' ∧ ((splitE ids l = 0 ∧ ∃ v, e = .returned (.tuple #[v, .int .i64 0]) ∧ Lst w' w.heap.size v (splitF ids l).2.1) ∨
    (splitE ids l ≠ 0 ∧ e = .returned (.tuple #[.slice none 0 0, .int .i64 (splitE ids l : Nat)])))

set_option maxRecDepth 100000 in
set_option maxHeartbeats 2000000 in
theorem split_any (B : Nat) (A A' : Option Addr) (l ids : List Nat) (c c' : Nat) (w : World) (hs : Sees w B A (bts l)) (hi : Sees w B A' (bts ids)) (hB : B ≤ w.heap.size) (hby : Byt l) (hbi : Byt ids) (hm : l.length ≤ 1000000) (hn : ids.length ≤ 1000) :
    Calls Try.prog 20 #[.slice A l.length c, .slice A' ids.length c'] w (SplitP w ids l) := by
  obtain ⟨i0, hi0, hz0, hz1, hz2⟩ := info_parts infoSl
  have HBI := Lib.hid hbi
  have HN := Lib.hid (new_any A l B c w hs hB hby (by omega))
  clear hs hby hbi
  go_enter Try.func20, Try.ntmps20
  go_wp2_with fail
  refine HN.out.mono ?_
  rintro e W1 ⟨p, A1, c1, rfl, hp, hc1, hb1⟩
  have HC1 := Lib.hid hc1
  have HB1 := Lib.hid hb1
  have hpl := hc1.row.lt
  clear hc1 hb1 HN
  go_wp2_with fail
  go_loopw [7, 14] (fun s j wr => ∃ (k i : Nat) (er : Int) (v : Value) (vs : List Value) (xs : List (List Nat)), k ≤ ids.length ∧ v = s ∧ j = .int .i64 k ∧ xs.length = k ∧ Hid (Cur wr w.heap.size p l i er A1 c1) ∧ Hid (LstV wr W1.heap.size v vs xs) ∧ Hid (Below w.heap.size w wr) ∧ W1.heap.size ≤ wr.heap.size ∧ Hid (SplT ids l k i er xs)) (fun _ j _ => ids.length - (intOf j).toNat)
  case atStart => exact ⟨0, 0, 0, _, [], [], Nat.zero_le _, rfl, rfl, rfl, HC1.out, LstV.nil _ _, HB1.out, Nat.le_refl _, SplT.zero ids l⟩
  case round =>
    clear HC1 HB1
    obtain ⟨k, i, er, v, vs, xs, hk, rfl, rfl, hxl, HC, HV, HB, hz, HT⟩ := hrel
    by_cases hlt : k < ids.length
    · have hib := (hi.more hB).below HB.out
      obtain ⟨b, o, rfl, _, hc⟩ := hib (bts_ne hlt)
      have hcell : wr.cell? ⟨b, o + k, none⟩ = some (.int .u8 (ids[k] : Int)) := hc k _ (by simp [bts, hlt])
      have hx : ids[k] < 256 := HBI.out _ (List.getElem_mem hlt)
      have HS : Hid (∀ i' er' x, SecR l i er ids[k] i' er' x → SplT ids l (k + 1) i' er' (xs ++ [x])) := fun i' er' x h => HT.out.step hlt h
      clear hc hib hi HT
      generalize ids[k] = id at *
      go_wp2_with fail
      refine (read_section HC.out id hx (by omega)).mono ?_
      rintro e W2 ⟨x, A2, c2, i', er', rfl, hm2, hc2, ho2, hr2⟩
      have HC2 := Lib.hid hc2
      have HM2 := Lib.hid hm2
      have HO2 := Lib.hid ho2
      have HT2 := Lib.hid (HS.out _ _ _ hr2)
      clear hm2 hc2 ho2 hr2 HC HS
      have hoa : (W2.alloc (.cells #[.slice A2 x.length c2] 22)).ownsRow W1.heap.size 22 1 v vs.length vs :=
        (HM2.out.alloc (.cells #[.slice A2 x.length c2] 22)).own HV.out.outer fun g hg hs => by
          have := own_lt HV.out.outer g hg
          unfold Is at hs
          omega
      have HOA := Lib.hid hoa
      have hvl : vs.length ≤ 1000 := by rw [HV.out.len]; omega
      clear hoa
      go_wp2_with (at_builtin; refine wpList_append_own _ rfl (.tmp 18) (.tmp 22) 43 rfl W1.heap.size 22 i0 (.slice none 0 0) 1 24 Try.underlying43 hi0 hz0 hz1 hz2 rfl (by decide) _ _ _ rfl HOA.out ⟨W2.heap.size, 0, none⟩ 1 1 [.slice A2 x.length c2] rfl rfl ?c0 ?c1 ?c2 ?c3 ?c4 ?_)
      case c0 => exact cell_one_new W2 _ _
      case c1 =>
        intro u hu
        rw [List.mem_singleton.1 hu]
        rfl
      case c2 => unfold maxLen; omega
      case c3 => omega
      case c4 => have := HM2.out.size; simp; omega
      intro v3 W3 ho3 hg3 _
      have HV3 := Lib.hid (HV.out.snoc HM2.out (fun k hk => by unfold Is at hk; omega) hz HO2.out _ ho3 hg3)
      have hm3 : Mods (fun k => W1.heap.size ≤ k) W2 W3 := ((Mods.refl _ W2).alloc _).grown hg3 fun k hk => .inl (own_lt HV.out.outer k hk).1
      have HC3 := Lib.hid (HC2.out.mods hm3 fun k hk => .inr (by omega))
      have hz1 := HB.out.size
      have HB3 := Lib.hid ((HB.out.trans (HM2.out.below hz1 fun k hk => by unfold Is at hk; omega)).trans (hm3.below (B := w.heap.size) (by have := HM2.out.size; omega) fun k hk => by omega))
      have hz3 : W1.heap.size ≤ W3.heap.size := by have := HM2.out.size; have := hm3.size; omega
      clear ho3 hg3 hm3 HOA HO2 HM2 HC2 HV HB
      go_wp2
      go_roundw
      case rel => exact ⟨k + 1, i', er', v3, _, _, by omega, rfl, by go_num, by simp [hxl], HC3.out, HV3.out, HB3.out, hz3, HT2.out⟩
      case measure => simp [intOf]; omega
    · obtain rfl : k = ids.length := by omega
      obtain ⟨hE, hL⟩ := HT.out.last (Nat.le_refl _)
      have HL := Lib.hid hL
      obtain ⟨W4, hW4⟩ : ∃ x, x = wr := ⟨_, rfl⟩
      subst hW4
      clear hi hL HT
      go_wp2_with fail
      refine (end_any HC.out).mono ?_
      rintro e W5 ⟨rfl, hm5, hc5⟩
      rw [hE] at hc5
      have HC5 := Lib.hid hc5
      have HV5 := Lib.hid (HV.out.mods hm5 fun k h1 h2 hs => by unfold Is at hs; omega)
      have hz1 := HB.out.size
      have HB5 := Lib.hid (HB.out.trans (hm5.below hz1 fun k hk => by unfold Is at hk; omega))
      clear hm5 hc5 HC HV HB hE
      by_cases h0 : splitE ids l = 0
      · have g0 : (((splitE ids l : Nat) : Int) != 0) = false := by rw [h0]; rfl
        have HX := Lib.hid (HL.out h0)
        go_wp2_with fail
        refine (err_any HC5.out).mono ?_
        rintro e W6 ⟨rfl, rfl⟩
        go_wp2
        go_ret2
        refine ⟨HB5.out, .inl ⟨h0, v, rfl, ?_⟩⟩
        rw [HX.out]
        exact ⟨vs, HV5.out.rebase (by omega)⟩
      · have g0 : (((splitE ids l : Nat) : Int) != 0) = true := by simp; omega
        go_wp2_with fail
        refine (err_any HC5.out).mono ?_
        rintro e W6 ⟨rfl, rfl⟩
        go_wp2_with fail
        refine (err_any HC5.out).mono ?_
        rintro e W6 ⟨rfl, rfl⟩
        go_wp2
        go_ret2
        exact ⟨HB5.out, .inr ⟨h0, rfl⟩⟩

end Go.Proofs.Ytkapmfopfddmbaa
