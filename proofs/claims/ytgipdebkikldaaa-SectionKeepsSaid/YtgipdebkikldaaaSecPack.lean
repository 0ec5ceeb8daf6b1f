/-
  Pack; the reference's One and Pack.
-/
import Derived.Test.YtgipdebkikldaaaSecMem
import Derived.Test.YtgipdebkikldaaaWri
import Derived.Test.YtgipdebkikldaaaVarRput
import Derived.Deep.DeepMust
import Derived.Deep.RegionWith
import Derived.Deep.RegionHeld3
import Derived.Deep.RegionHeldLaw
namespace Go.Proofs.Ytgipdebkikldaaa
open Go.RowKit
set_option linter.unusedVariables false

/-- What Pack returns: the packed form, in memory of its own. -/
def PackP (w : World) (l : List Nat) (e : Ending) (w' : World) : Prop :=
  ∃ A' c', e = .returned (.tuple #[.slice A' l.length c', .int .i64 0]) ∧ w'.ownsRow w.heap.size 5 1 (.slice A' l.length c') l.length (bts l) ∧ Below w.heap.size w w'

theorem sizeS_take_len (ids : List Nat) (xs : List (List Nat)) (k : Nat) (h : ids.length = xs.length) : (packS (ids.take k) (xs.take k)).length ≤ sizeS xs := by
  rw [packS_size _ _ (by rw [List.length_take, List.length_take, h])]
  exact sizeS_take xs k

set_option maxRecDepth 100000 in
set_option maxHeartbeats 1000000 in
theorem pack_bad (n m : Nat) (A A' : Option Addr) (c c' : Nat) (w : World) (h : n ≠ m) :
    Calls Try.prog 12 #[.slice A n c, .slice A' m c'] w fun e w' => e = .returned (.tuple #[.slice none 0 0, .int .i64 14]) ∧ w = w' := by
  have e1 : ((n : Int) != (m : Int)) = true := by simp; omega
  clear h
  go_enter Try.func12, Try.ntmps12
  go_wp2
  go_ret2
  exact ⟨rfl, rfl⟩

set_option maxRecDepth 100000 in
set_option maxHeartbeats 2000000 in
theorem pack_any (B : Nat) (A A' : Option Addr) (ids : List Nat) (xs : List (List Nat)) (c c' : Nat) (w : World) (hi : Sees w B A (bts ids)) (hs : SeesL w B A' xs) (hB : B ≤ w.heap.size) (hlen : ids.length = xs.length) (hby : Byt ids) (hn : xs.length ≤ 1000) (hm : sizeS xs ≤ 1000000) (htot : totalS xs ≤ 100000) :
    Calls Try.prog 12 #[.slice A ids.length c, .slice A' xs.length c'] w (PackP w (packS ids xs)) := by
  have e1 : ((ids.length : Int) != (xs.length : Int)) = false := by simp; omega
  have HL := Lib.hid hlen
  have HBY := Lib.hid hby
  clear hlen hby
  go_enter Try.func12, Try.ntmps12
  go_wp2
  go_loopw [16] (fun i wr => ∃ (k : Nat) (v : Value), k ≤ xs.length ∧ i = .int .i64 k ∧ Hid (Wri wr w.heap.size wr.heap.size v (packS (ids.take k) (xs.take k))) ∧ Hid (Mods (From w.heap.size) w wr)) (fun i _ => xs.length - (intOf i).toNat)
  case atStart => exact ⟨0, _, Nat.zero_le _, rfl, by
    have := Wri.new w
    simpa [packS, Hid] using this, (Mods.refl _ _).alloc _⟩
  case round =>
    obtain ⟨k, v, hk, rfl, HW, HM⟩ := hrel
    by_cases hlt : k < xs.length
    · have hlti : k < ids.length := by have := HL.out; omega
      have hbel : Below w.heap.size w wr := HM.out.below (Nat.le_refl _) fun k hk => hk
      have hi0 := (hi.more hB).below hbel
      have hs0 := (hs.more hB).below hbel
      obtain ⟨b, o, rfl, _, hc⟩ := hi0 (bts_ne hlti)
      have hcell : wr.cell? ⟨b, o + k, none⟩ = some (.int .u8 (ids[k] : Int)) := hc k _ (by simp [bts, hlti])
      obtain ⟨b', o', Ai, ci, rfl, _, hcell', hci, hcm, hsi⟩ := hs0.at_ hlt
      have hx : ids[k] < 256 := HBY.out _ (List.getElem_mem hlti)
      have HT := Lib.hid (packS_step ids xs k hlt hlti)
      have hl1 := sizeS_take_len ids xs k HL.out
      have hxl : xs[k].length ≤ 100000 := Nat.le_trans (totalS_mem xs _ (List.getElem_mem hlt)) htot
      have HS := Lib.hid hsi
      have hbz := hbel.size
      clear hi0 hs0 hc hsi hi hs hbel
      generalize ids[k] = id at *
      generalize xs[k] = x at *
      go_wp2_with fail
      refine (wbyte_any HW.out id hx (by omega)).mono ?_
      rintro e Wa ⟨rfl, ⟨va, hwa⟩, hma⟩
      have HWa := Lib.hid hwa
      have HMa := Lib.hid (HM.out.trans hma)
      have HSa := Lib.hid (HS.out.below (hma.below hbz fun k hk => hk))
      have hza : w.heap.size ≤ Wa.heap.size := HMa.out.size
      clear hwa hma HW HM HS
      go_wp2_with fail
      refine (wuint_any HWa.out (x.length : Int) (by omega) (by omega) (by rw [List.length_append]; simp only [List.length_cons, List.length_nil]; omega) (Nat.le_refl _)).mono ?_
      rintro e Wb ⟨rfl, ⟨vb, hwb⟩, hmb⟩
      rw [Int.toNat_natCast] at hwb
      have HWb := Lib.hid hwb
      have HMb := Lib.hid (HMa.out.trans hmb)
      have HSb := Lib.hid (HSa.out.below (hmb.below hza fun k hk => hk))
      have hzb : w.heap.size ≤ Wb.heap.size := HMb.out.size
      have hpl := putS_le x.length
      clear hwb hmb HWa HMa HSa
      go_wp2_with fail
      refine (wbytes_any HWb.out Ai x ci _ HSb.out hzb (by rw [List.length_append, List.length_append]; simp only [List.length_cons, List.length_nil]; omega)).mono ?_
      rintro e Wc ⟨rfl, ⟨vc, hwc⟩, hmc⟩
      have HWc := Lib.hid hwc
      have HMc := Lib.hid (HMb.out.trans hmc)
      clear hwc hmc HWb HMb HSb
      go_wp2
      go_roundw
      case rel => exact ⟨k + 1, vc, by omega, by go_num, by
        rw [HT.out]
        have := HWc.out
        simpa [encS, Hid] using this, HMc.out⟩
      case measure => simp [intOf]; omega
    · obtain rfl : k = xs.length := by omega
      rw [← HL.out, List.take_length, HL.out, List.take_length] at HW
      have hl1 : (packS ids xs).length ≤ 70368744177664 := by rw [packS_size ids xs HL.out]; omega
      go_wp2_with fail
      refine (out_any HW.out hl1).mono ?_
      rintro e Wd ⟨Ad, cd, rfl, ho, hb⟩
      have hbel : Below w.heap.size w wr := HM.out.below (Nat.le_refl _) fun k hk => hk
      have HB := Lib.hid (hbel.trans (hb.mono hbel.size))
      have HO := Lib.hid (show Wd.ownsRow w.heap.size 5 1 (.slice Ad (packS ids xs).length cd) (packS ids xs).length (bts (packS ids xs)) from ⟨ho.1, by
        rcases ho.2 with h | ⟨g, cap, cur, h1, h2, h3⟩
        · exact .inl h
        · exact .inr ⟨g, cap, cur, h1, Nat.le_trans hbel.size h2, h3⟩⟩)
      clear ho hb hbel
      go_wp2
      go_ret2
      exact ⟨Ad, cd, rfl, HO.out, HB.out⟩

set_option maxRecDepth 100000 in
set_option maxHeartbeats 1000000 in
theorem one_any (B : Nat) (A : Option Addr) (id : Nat) (x : List Nat) (c : Nat) (w : World) (hs : Sees w B A (bts x)) (hB : B ≤ w.heap.size) (hid : id < 256) (hm : x.length ≤ 100000) :
    Calls Try.prog 26 #[.int .u8 id, .slice A x.length c] w (Fresh w (encS id x)) := by
  obtain ⟨i0, hi0, hz0, hz1, hz2'⟩ := info_parts infoU8
  have HS := Lib.hid (hs.more hB)
  have HP := Lib.hid (rput_any (x.length : Int) (w.alloc (.cells #[.int .u8 id] 5)) (by omega) (by omega))
  have hpl : lenS x.length ≤ 10 := putS_le x.length
  have HLE := Lib.hid (encS_length id x)
  clear hs
  go_enter Try.func26, Try.ntmps26
  go_wp2_with fail
  refine HP.out.mono ?_
  rintro e W1 ⟨g, c1, rfl, ho1, hb1⟩
  rw [Int.toNat_natCast] at ho1
  have hno : (w.alloc (.cells #[.int .u8 id] 5)).ownsRow w.heap.size 5 1 (.slice (some ⟨w.heap.size, 0, none⟩) 1 1) 1 (bts [id]) :=
    ⟨rfl, .inr ⟨w.heap.size, 1, _, rfl, Nat.le_refl _, heap_alloc_new w _, Nat.le_refl _, by decide, rfl, rfl⟩⟩
  have hn1 := (Mods.of_below (S := No) hb1).own hno fun _ _ h => h
  have HN1 := Lib.hid hn1
  have HO1 := Lib.hid ho1
  have hzz : w.heap.size + 1 ≤ W1.heap.size := by have := hb1.size; simpa using this
  have HB1 := Lib.hid (((Below.refl w.heap.size w).alloc (Nat.le_refl _) (.cells #[.int .u8 id] 5)).trans (hb1.mono (by simp)))
  clear ho1 hb1 hno hn1 HP
  go_wp2_with (at_builtin; refine wpList_append_sees _ rfl (.tmp 7) (.tmp 11) 22 rfl w.heap.size 5 i0 (.int .u8 0) 1 Try.underlying22 hi0 hz0 hz1 hz2' rfl _ _ _ rfl HN1.out W1.heap.size _ _ _ (bts (putS x.length)) rfl (Sees.of_own HO1.out) (bts_length _) (bts_one _) ?c1 ?c2 ?c3 ?_)
  case c1 => unfold maxLen; omega
  case c2 => omega
  case c3 => omega
  intro v1 W2 ho2 hg2
  have HB2 := Lib.hid (HB1.out.grown hg2 (by omega) fun k hk => by
    simp only [Value.ownBlock, Option.some.injEq] at hk
    omega)
  rw [← bts_append] at ho2
  have HO2 := Lib.hid ho2
  have HS2 := Lib.hid (HS.out.below HB2.out)
  have hz2 : w.heap.size ≤ W2.heap.size := HB2.out.size
  clear ho2 hg2 HB1 HN1 HO1 HS
  go_wp2_with (at_builtin; refine wpList_append_sees _ rfl (.tmp 13) (.tmp 14) 22 rfl w.heap.size 5 i0 (.int .u8 0) 1 Try.underlying22 hi0 hz0 hz1 hz2' rfl _ _ _ rfl HO2.out w.heap.size _ _ _ (bts x) rfl HS2.out (bts_length _) (bts_one _) ?d1 ?d2 ?d3 ?_)
  case d1 => unfold maxLen; omega
  case d2 => omega
  case d3 => omega
  intro v2 W3 ho3 hg3
  have HB3 := Lib.hid (HB2.out.grown hg3 hz2 fun k hk => (own_lt HO2.out k hk).1)
  have HO3 : Hid (W3.ownsRow w.heap.size 5 1 v2 (encS id x).length (bts (encS id x))) := by
    rw [HLE.out]
    rw [← bts_append] at ho3
    exact ho3
  obtain ⟨A3, c3, rfl, _, _⟩ := own_slice HO3.out (bts_length _)
  clear ho3 hg3
  go_wp2
  go_ret
  exact ⟨A3, c3, rfl, HO3.out, HB3.out⟩

theorem own_news {w : World} {base n g c : Nat} {e : TypeId} {xs : List Value} (h : w.ownsRow base e 1 (.slice (some ⟨g, 0, none⟩) n c) n xs) : ∀ j u, xs[j]? = some u → w.cell? ((⟨g, 0, none⟩ : Addr).add j) = some u := fun j u hu => h.cells (g := g) rfl j u hu

set_option maxRecDepth 100000 in
set_option maxHeartbeats 2000000 in
theorem rpack_any (B : Nat) (A A' : Option Addr) (ids : List Nat) (xs : List (List Nat)) (c c' : Nat) (w : World) (hi : Sees w B A (bts ids)) (hs : SeesL w B A' xs) (hB : B ≤ w.heap.size) (hlen : ids.length = xs.length) (hby : Byt ids) (hn : xs.length ≤ 1000) (hm : sizeS xs ≤ 1000000) (htot : totalS xs ≤ 100000) :
    Calls Try.prog 13 #[.slice A ids.length c, .slice A' xs.length c'] w (Fresh w (packS ids xs)) := by
  obtain ⟨i0, hi0, hz0, hz1, hz2⟩ := info_parts infoU8
  have HL := Lib.hid hlen
  have HBY := Lib.hid hby
  clear hlen hby
  go_enter Try.func13, Try.ntmps13
  go_wp2
  go_loopw [5, 6] (fun s j wr => ∃ (k : Nat) (v : Value), k ≤ xs.length ∧ v = s ∧ j = .int .i64 k ∧ Hid (wr.ownsRow w.heap.size 5 1 v (packS (ids.take k) (xs.take k)).length (bts (packS (ids.take k) (xs.take k)))) ∧ Hid (Below w.heap.size w wr)) (fun _ j _ => xs.length - (intOf j).toNat)
  case atStart => exact ⟨0, _, Nat.zero_le _, rfl, rfl, ⟨rfl, .inl ⟨rfl, rfl⟩⟩, Below.refl _ _⟩
  case round =>
    obtain ⟨k, v, hk, rfl, rfl, HO, HB⟩ := hrel
    by_cases hlt : k < xs.length
    · have hlti : k < ids.length := by have := HL.out; omega
      have hi0' := (hi.more hB).below HB.out
      have hs0 := (hs.more hB).below HB.out
      obtain ⟨b, o, rfl, hbl, hc⟩ := hi0' (bts_ne hlti)
      have hcell : wr.cell? ⟨b, o + k, none⟩ = some (.int .u8 (ids[k] : Int)) := hc k _ (by simp [bts, hlti])
      obtain ⟨b', o', Ai, ci, rfl, hbl', hcell', hci, hcm, hsi⟩ := hs0.at_ hlt
      have HX := Lib.hid (And.intro hcell hcell')
      have hx : ids[k] < 256 := HBY.out _ (List.getElem_mem hlti)
      have HT := Lib.hid (packS_step ids xs k hlt hlti)
      have hl1 := sizeS_take_len ids xs k HL.out
      have hxl : xs[k].length ≤ 100000 := Nat.le_trans (totalS_mem xs _ (List.getElem_mem hlt)) htot
      have hbz := HB.out.size
      have HC : Hid (∀ w0, (∃ m, w0 = wr.drewN m) → Calls Try.prog 26 #[.int .u8 ids[k], .slice Ai xs[k].length ci] w0 fun e w' => ∃ g cap, e = .returned (.slice (some ⟨g, 0, none⟩) (encS ids[k] xs[k]).length cap) ∧
          w'.ownsRow wr.heap.size 5 1 (.slice (some ⟨g, 0, none⟩) (encS ids[k] xs[k]).length cap) (encS ids[k] xs[k]).length (bts (encS ids[k] xs[k])) ∧ Below wr.heap.size wr w') := fun w0 ⟨m, hm⟩ => by
        subst hm
        refine (one_any w.heap.size Ai ids[k] xs[k] ci (wr.drewN m) (hsi.drewN m) hbz hx hxl).mono ?_
        rintro e w' ⟨A9, c9, rfl, h1, h2⟩
        obtain ⟨g, cap, hv, _⟩ := h1.form (by rw [encS_length]; omega)
        rw [hv] at h1 ⊢
        exact ⟨g, cap, rfl, h1, below_unN h2 (Nat.le_refl _)⟩
      have HLE := Lib.hid (encS_length ids[k] xs[k])
      have hpl : lenS xs[k].length ≤ 10 := putS_le _
      have hle2 : 1 ≤ (encS ids[k] xs[k]).length ∧ (encS ids[k] xs[k]).length ≤ 100011 := by rw [encS_length]; omega
      clear hi0' hs0 hc hsi hi hs hcell hcell'
      generalize ids[k] = id at *
      generalize xs[k] = x at *
      go_wp2_with fail
      go_region_held_law (fun w' => w'.cell? ⟨b, o + k, none⟩ = some (.int .u8 (id : Int)) ∧ w'.cell? ⟨b', o' + k, none⟩ = some (.slice Ai x.length ci)) (first | exact HX.out | exact hXa | exact hXb) (first
        | (go_at_call 26; go_must ((with_reducible refine (HC.out _ (by first | exact ⟨1, rfl⟩ | exact ⟨0, rfl⟩ | exact ⟨_, rfl⟩)).mono ?_); rintro e Wa ⟨g1, ca, rfl, ho, hb⟩; have HOa := Lib.hid ho; have HBb := Lib.hid (HB.out.trans (hb.mono hbz)); have hza := HBb.out.size; have HVa := Lib.hid ((Mods.of_below (S := No) hb).own HO.out (fun _ _ h => h)); have hXa : Wa.cell? ⟨b, o + k, none⟩ = some (.int .u8 (id : Int)) ∧ Wa.cell? ⟨b', o' + k, none⟩ = some (.slice Ai x.length ci) := (And.intro ((hb.cell (p := ⟨b, o + k, none⟩) (by show b < _; omega)).trans HX.out.1) ((hb.cell (p := ⟨b', o' + k, none⟩) (by show b' < _; omega)).trans HX.out.2)); clear ho hb))
        | (refine step_append_lies _ rfl (.tmp 13) (.tmp 22) 22 rfl w.heap.size 5 i0 (.int .u8 0) 1 1 Try.underlying22 hi0 hz0 hz1 hz2 rfl (by decide) _ _ _ rfl HVa.out ⟨g1, 0, none⟩ _ _ (bts (encS id x)) rfl (by rw [bts_length, Nat.mul_one]) (own_news HOa.out) (bts_one _) (by omega) (by unfold maxLen; omega) (by omega) (by omega) _ rfl ?_; intro g2 cap2 W2 ho2 hg2 hat2 hlt2; have HO2 := Lib.hid ho2; have HB2 := Lib.hid (HBb.out.grown hg2 (by omega) (fun k hk => (own_lt HVa.out k hk).1)); have hXb : W2.cell? ⟨b, o + k, none⟩ = some (.int .u8 (id : Int)) ∧ W2.cell? ⟨b', o' + k, none⟩ = some (.slice Ai x.length ci) := (And.intro ((HB2.out.cell (p := ⟨b, o + k, none⟩) hbl).trans ((HB.out.cell (p := ⟨b, o + k, none⟩) hbl).symm.trans HX.out.1)) ((HB2.out.cell (p := ⟨b', o' + k, none⟩) hbl').trans ((HB.out.cell (p := ⟨b', o' + k, none⟩) hbl').symm.trans HX.out.2))); clear ho2 hg2)
        )
      clear HX hXa hXb HC HOa HVa HO HB
      go_wp2
      go_roundw
      case rel => exact ⟨k + 1, _, by omega, rfl, by go_num, by
        rw [HT.out, List.length_append, bts_append]
        exact HO2.out, HB2.out⟩
      case measure => simp [intOf]; omega
    · obtain rfl : k = xs.length := by omega
      rw [← HL.out, List.take_length, HL.out, List.take_length] at HO
      obtain ⟨A3, c3, rfl, _, _⟩ := own_slice HO.out (bts_length _)
      go_wp2
      go_ret
      exact ⟨A3, c3, rfl, HO.out, HB.out⟩

end Go.Proofs.Ytgipdebkikldaaa
