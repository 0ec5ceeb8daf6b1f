/-
  The reference's Split: the contents as parts of the input, or the first error.
-/
import Derived.Test.YtgipdebkikldaaaSecLst
import Derived.Test.YtgipdebkikldaaaVarRget
import Derived.Deep.QuietTactic
import Derived.BigQuiet
namespace Go.Proofs.Ytgipdebkikldaaa
open Go.RowKit
set_option linter.unusedVariables false

/-- What the reference's Split returns. -/
def RSplitP (w : World) (ids l : List Nat) (e : Ending) (w' : World) : Prop :=
  Below w.heap.size w w' ∧ ((splitE ids l = 0 ∧ ∃ v vs, e = .returned (.tuple #[v, .int .i64 0]) ∧ w'.ownsRow w.heap.size 22 1 v vs.length vs ∧ Cells w' w.heap.size vs (splitF ids l).2.1) ∨
    (splitE ids l ≠ 0 ∧ e = .returned (.tuple #[.slice none 0 0, .int .i64 (splitE ids l : Nat)])))

theorem rget_at (B : Nat) (A : Option Addr) (l : List Nat) (n cap : Nat) (w : World) (hs : Sees w B A (bts l)) (hb : Byt l) (hm : l.length ≤ maxLen) (hn : l.length = n) {v q e : Nat} (hg : getS l = (v, q, e)) :
    Calls Try.prog 21 #[.slice A n cap] w fun r w' => r = .returned (.tuple #[.int .u64 v, .int .i64 q, .int .i64 e]) ∧ w = w' := by
  subst hn
  have := rget_any B A l cap w hs hb hm
  rwa [hg] at this

set_option maxRecDepth 100000 in
set_option maxHeartbeats 4000000 in
theorem rsplit_any (B : Nat) (A A' : Option Addr) (l ids : List Nat) (c c' : Nat) (w : World) (hs : Sees w B A (bts l)) (hi : Sees w B A' (bts ids)) (hB : B ≤ w.heap.size) (hby : Byt l) (hbi : Byt ids) (hm : l.length ≤ 1000000) (hn : ids.length ≤ 1000) (hlc : l.length ≤ c) (hc : c ≤ maxLen) :
    Calls Try.prog 10 #[.slice A l.length c, .slice A' ids.length c'] w (RSplitP w ids l) := by
  obtain ⟨i0, hi0, hz0, hz1, hz2⟩ := info_parts infoSl
  have HBI := Lib.hid hbi
  have HBY := Lib.hid hby
  clear hby hbi
  unfold maxLen at hc
  go_enter Try.func10, Try.ntmps10
  go_wp2
  go_loopw [6, 7, 8] (fun s a j wr => ∃ (k i : Nat) (v : Value) (vs : List Value) (xs : List (List Nat)), k ≤ ids.length ∧ i ≤ l.length ∧ v = s ∧ a = .int .i64 i ∧ j = .int .i64 k ∧ xs.length = k ∧ Hid (wr.ownsRow w.heap.size 22 1 v vs.length vs) ∧ Hid (Cells wr w.heap.size vs xs) ∧ Hid (Below w.heap.size w wr) ∧ Hid (SplitAt ids l k i xs)) (fun _ _ j _ => ids.length - (intOf j).toNat)
  case atStart => exact ⟨0, 0, _, [], [], Nat.zero_le _, Nat.zero_le _, rfl, rfl, rfl, rfl, ⟨rfl, .inl ⟨rfl, rfl⟩⟩, Cells.nil _ _, Below.refl _ _, SplitAt.zero ids l⟩
  case round =>
    obtain ⟨k, a, v, vs, xs, hk, hal, rfl, rfl, rfl, hxl, HO, HV, HB, HT⟩ := hrel
    by_cases hlt : k < ids.length
    · by_cases ha : a = l.length
      · have HE := Lib.hid (HT.out.bad hlt (e := 1) (by rw [ha, List.drop_length]; rfl) (by decide))
        have e1 : ((a : Int) == (l.length : Int)) = true := by simp [ha]
        clear ha hs hi
        go_wp2
        go_ret2
        exact ⟨HB.out, .inr ⟨by rw [HE.out]; decide, by rw [HE.out]; rfl⟩⟩
      have e1 : ((a : Int) == (l.length : Int)) = false := by simp; omega
      have hal' : a < l.length := by omega
      have hib := (hi.more hB).below HB.out
      have hsb := (hs.more hB).below HB.out
      obtain ⟨b, o, hAe, _, hc2⟩ := hib (bts_ne hlt)
      have hcell : wr.cell? ⟨b, o + k, none⟩ = some (.int .u8 (ids[k] : Int)) := hc2 k _ (by simp [bts, hlt])
      subst hAe
      obtain ⟨b', o', hAe, _, hc3⟩ := hsb (bts_ne hal')
      have hcell' : wr.cell? ⟨b', o' + a, none⟩ = some (.int .u8 (l[a] : Int)) := hc3 a _ (by simp [bts, hal'])
      have hx : ids[k] < 256 := HBI.out _ (List.getElem_mem hlt)
      have hy : l[a] < 256 := HBY.out _ (List.getElem_mem hal')
      have hd : l.drop a = l[a] :: l.drop (a + 1) := List.drop_eq_getElem_cons hal'
      have HDR := Lib.hid hd
      clear hib hc2 hc3 hd
      have HOK : Hid (∀ hd v, oneS ids[k] (l.drop a) = (0, hd, v) → SplitAt ids l (k + 1) (a + hd + v) (xs ++ [(l.drop (a + hd)).take v])) := fun hd v h => HT.out.step hlt h
      have HBAD : Hid (∀ e, (oneS ids[k] (l.drop a)).1 = e → e ≠ 0 → splitE ids l = e) := fun e h h0 => HT.out.bad hlt h h0
      clear HT
      generalize ids[k] = id at *
      generalize l[a] = y at *
      by_cases hyi : y = id
      case neg =>
        have e2 : ((y : Int) != (id : Int)) = true := by simp; omega
        have HE := Lib.hid (HBAD.out 7 (by rw [HDR.out, oneS, if_pos hyi]) (by decide))
        subst hAe
        clear hyi HBAD HOK hs hi hsb
        go_wp2
        go_quiet (fail)
        go_wp2
        go_ret2
        exact ⟨blw_drewN HB.out _, .inr ⟨by rw [HE.out]; decide, by rw [HE.out]; rfl⟩⟩
      have e2 : ((y : Int) != (id : Int)) = false := by simp [hyi]
      have hsd := hsb.drop (k := a + 1) (cap := c) (by rw [bts_length]; exact hlc)
      rw [show (bts l).drop (a + 1) = bts (l.drop (a + 1)) from by simp [bts]] at hsd
      obtain ⟨A1, hite⟩ : ∃ A1, (if c = a + 1 then A else A.map fun x => x.add (a + 1)) = A1 := ⟨_, rfl⟩
      have hsd1 : Sees wr w.heap.size A1 (bts (l.drop (a + 1))) := hite ▸ hsd
      have HSD := Lib.hid hsd1
      have HBD := Lib.hid (show Byt (l.drop (a + 1)) from fun x hx => HBY.out x (List.mem_of_mem_drop hx))
      have hsn : ∀ n, ∃ A2, (if c = a + 1 + n then some (⟨b', o', none⟩ : Addr) else some ⟨b', o' + (a + 1 + n), none⟩) = A2 ∧ Sees wr w.heap.size A2 (bts (l.drop (a + 1 + n))) := fun n => by
        have h1 := hsb.drop (k := a + 1 + n) (cap := c) (by rw [bts_length]; exact hlc)
        rw [show (bts l).drop (a + 1 + n) = bts (l.drop (a + 1 + n)) from by simp [bts]] at h1
        refine ⟨_, rfl, ?_⟩
        rw [hAe] at h1
        simpa [Addr.add_lit] using h1
      have HSN := Lib.hid hsn
      have hoa : ∀ m o, ((wr.drewN m).alloc o).ownsRow w.heap.size 22 1 v vs.length vs := fun m o => (((Mods.refl No wr).drewN m).alloc o).own HO.out fun _ _ h => h
      have HOA := Lib.hid hoa
      have hvl : vs.length ≤ 1000 := by rw [HV.out.1]; omega
      clear hsd hsd1 hsb hs hi hsn hoa
      have htl : (l.drop (a + 1)).length = l.length - (a + 1) := List.length_drop
      have HX := Lib.hid (fun h d (e : (l.drop (a + 1)).drop h = d) => show l.drop (a + (1 + h)) = d from by rw [← e, List.drop_drop, Nat.add_assoc])
      subst hAe
      have hite2 : (if c = a + 1 then some (⟨b', o', none⟩ : Addr) else some ⟨b', o' + (a + 1), none⟩) = A1 := by
        rw [← hite]
        split <;> simp [Addr.add_lit]
      clear hite
      generalize l.drop (a + 1) = t at *
      rcases getS_kinds t with ⟨x, n, hg⟩ | hg | hg
      · have hcan := getS_canon HBD.out hg
        have hxl := getS_lt HBD.out hg
        have HG := Lib.hid hg
        by_cases hshort : t.length < n + x
        · have HE := Lib.hid (HBAD.out 1 (by rw [HDR.out, hyi, oneS, if_neg (by simp), hg, if_neg (by simp), if_pos hshort]) (by decide))
          clear hg HBAD HOK HDR HX hyi
          go_wp2_with fail
          go_quiet (fail)
          go_wp2_with fail
          refine (rget_at w.heap.size A1 t _ _ _ (HSD.out.drewN _) HBD.out (by unfold maxLen; omega) htl HG.out).mono ?_
          rintro e W ⟨rfl, rfl⟩
          go_wp2
          go_ret2
          exact ⟨blw_drewN HB.out _, .inr ⟨by rw [HE.out]; decide, by rw [HE.out]; rfl⟩⟩
        · have HO1 := Lib.hid (HOK.out (1 + n) x (by rw [HDR.out, hyi, oneS, if_neg (by simp), hg, if_neg (by simp), if_neg hshort]))
          obtain ⟨A2, hite3, hs3⟩ := HSN.out n
          have HS3 : Hid (Sees wr w.heap.size A2 (bts ((l.drop (a + (1 + n))).take x))) := by
            rw [← Nat.add_assoc]
            have := hs3.take (k := x)
            unfold bts at *
            rwa [List.map_take]
          have hl3 : ((l.drop (a + (1 + n))).take x).length = x := by rw [List.length_take, List.length_drop]; omega
          clear hg HBAD HOK HDR hyi hs3 HSN HX
          go_wp2_with fail
          go_quiet (fail)
          go_wp2_with fail
          refine (rget_at w.heap.size A1 t _ _ _ (HSD.out.drewN _) HBD.out (by unfold maxLen; omega) htl HG.out).mono ?_
          rintro e W ⟨rfl, rfl⟩
          go_wp2_with (at_builtin; refine wpList_append_own _ rfl (.tmp 54) (.tmp 62) 23 rfl w.heap.size 22 i0 (.slice none 0 0) 1 24 Try.underlying23 hi0 hz0 hz1 hz2 rfl (by decide) _ _ _ rfl (HOA.out _ _) ⟨wr.heap.size, 0, none⟩ 1 1 [.slice A2 x (c - (a + 1 + n))] rfl rfl ?c0 ?c1 ?c2 ?c3 ?c4 ?_)
          case c0 => exact cell_one_new (wr.drewN nq) _ _
          case c1 =>
            intro u hu
            rw [List.mem_singleton.1 hu]
            rfl
          case c2 => unfold maxLen; omega
          case c3 => omega
          case c4 => have := HB.out.size; simp; omega
          intro v3 W3 ho3 hg3 _
          have hbz := HB.out.size
          have hm3 : Mods (fun k => v.ownBlock = some k) wr W3 := (((Mods.refl _ wr).drewN nq).alloc _).grown hg3 fun k hk => .inl hk
          have hb3 : Below w.heap.size wr W3 := hm3.below hbz fun k hk => (own_lt HO.out k hk).1
          have hv3 := (HV.out.below hb3).snoc (A := A2) (x := (l.drop (a + (1 + n))).take x) (c := c - (a + 1 + n)) (by rw [hl3]; omega) (by unfold maxLen; omega) (HS3.out.below hb3)
          rw [hl3] at hv3
          have HV3 := Lib.hid hv3
          have HB3 := Lib.hid (HB.out.trans hb3)
          have HO3 := Lib.hid (show W3.ownsRow w.heap.size 22 1 v3 (vs ++ [Value.slice A2 x (c - (a + 1 + n))]).length (vs ++ [Value.slice A2 x (c - (a + 1 + n))]) from by
            rw [List.length_append]
            exact ho3)
          have hax : a + (1 + n) + x ≤ l.length := by omega
          clear ho3 hg3 hm3 hb3 hv3 HO HV HB HOA HS3 HSD
          go_wp2
          go_roundw
          case rel => exact ⟨k + 1, a + (1 + n) + x, v3, _, _, by omega, hax, rfl, by go_num, by go_num, by simp [*], HO3.out, HV3.out, HB3.out, HO1.out⟩
          case measure => simp [intOf]; omega
      · have HE := Lib.hid (HBAD.out 1 (by rw [HDR.out, hyi, oneS, if_neg (by simp), hg, if_pos (by simp)]) (by decide))
        have HG := Lib.hid hg
        clear hg HBAD HOK HDR HX hyi
        go_wp2_with fail
        go_quiet (fail)
        go_wp2_with fail
        refine (rget_at w.heap.size A1 t _ _ _ (HSD.out.drewN _) HBD.out (by unfold maxLen; omega) htl HG.out).mono ?_
        rintro e W ⟨rfl, rfl⟩
        go_wp2
        go_ret2
        exact ⟨blw_drewN HB.out _, .inr ⟨by rw [HE.out]; decide, by rw [HE.out]; rfl⟩⟩
      · have HE := Lib.hid (HBAD.out 3 (by rw [HDR.out, hyi, oneS, if_neg (by simp), hg, if_pos (by simp)]) (by decide))
        have HG := Lib.hid hg
        clear hg HBAD HOK HDR HX hyi
        go_wp2_with fail
        go_quiet (fail)
        go_wp2_with fail
        refine (rget_at w.heap.size A1 t _ _ _ (HSD.out.drewN _) HBD.out (by unfold maxLen; omega) htl HG.out).mono ?_
        rintro e W ⟨rfl, rfl⟩
        go_wp2
        go_ret2
        exact ⟨blw_drewN HB.out _, .inr ⟨by rw [HE.out]; decide, by rw [HE.out]; rfl⟩⟩
    · obtain rfl : k = ids.length := by omega
      by_cases ha : a = l.length
      · have HE := Lib.hid (HT.out.fit (Nat.le_refl _) (by omega))
        have hle : (l.length : Int) ≤ a := by omega
        clear ha hal
        go_wp2
        go_ret2
        exact ⟨HB.out, .inl ⟨HE.out.1, v, vs, rfl, HO.out, by rw [HE.out.2]; exact HV.out⟩⟩
      · have HE := Lib.hid (HT.out.long (Nat.le_refl _) (by omega))
        have hal' : a < l.length := by omega
        clear ha
        go_wp2
        go_ret2
        exact ⟨HB.out, .inr ⟨by rw [HE.out]; decide, by rw [HE.out]; rfl⟩⟩

end Go.Proofs.Ytgipdebkikldaaa
