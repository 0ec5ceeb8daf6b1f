/-
  The rows of the check of the program: copies, moves, an instruction, the terminator.
-/
import Derived.Test.YtcoehkphdfejjaaGreatPk5
import Derived.Test.YtcoehkphdfejjaaGreatPk3
import Derived.Test.YtcoehkphdfejjaaGreatPk1
namespace Go.Proofs.YtcoehkphdfejjaaGreat
open Go.RowKit
set_option linter.unusedVariables false
set_option linter.unusedSimpArgs false

/-- What a method of the check carries. -/
structure LX (w0 W : World) (sb : Nat) (most : Int) (r : Rs) (A : Option Addr) (c : Nat) (V : World) : Prop where
  row : Row V sb 117 #[.slice A r.out.length c, .int .i64 most, .int .i64 (r.steps : Int), .int .i64 (r.largest : Int)]
  pl : PL w0 (.slice A r.out.length c) r.out V
  md : Mods (Is sb) W V

theorem LX.next {w0 W V V' : World} {sb : Nat} {most : Int} {r : Rs} {A : Option Addr} {c : Nat} (h : LX w0 W sb most r A c V) (hb : Below V.heap.size V V') : LX w0 W sb most r A c V' :=
  ⟨h.row.below hb h.row.lt, h.pl.next hb, h.md.trans (Mods.of_below hb)⟩

theorem LX.sp {w0 W V : World} {sb : Nat} {most : Int} {r : Rs} {A : Option Addr} {c : Nat} (h : LX w0 W sb most r A c V) : SP w0 sb most r V := ⟨A, c, h.row, h.pl⟩

theorem LX.of {w0 W : World} {sb : Nat} {most : Int} {r : Rs} (h : SP w0 sb most r W) : ∃ A c, LX w0 W sb most r A c W := by
  obtain ⟨A, c, h1, h2⟩ := h
  exact ⟨A, c, h1, h2, Mods.refl _ _⟩

/-- A cell of another block stays. -/
theorem far_cell {W V : World} {sb b j : Nat} (hlt : b < W.heap.size) (hne : ¬ b = sb) (h : Below W.heap.size W V ∨ Mods (Is sb) W V) : V.cell? ⟨b, j, none⟩ = W.cell? ⟨b, j, none⟩ :=
  h.elim (fun h => h.cell (p := ⟨b, j, none⟩) hlt) (fun h => h.cell (p := ⟨b, j, none⟩) hlt hne)

set_option maxRecDepth 100000 in
set_option maxHeartbeats 4000000 in
theorem bccopies_any {R L : List Int} (hRL : R.length * L.length ≤ 400000) {w0 W : World} {sb : Nat} {most : Int} {r : Rs} {s : Nat} {A : Option Addr} {n c : Nat} {l : List In} {k : Nat} (hS : SP w0 sb most r W) (hsb : w0.heap.size ≤ sb) (h0 : r.err = 0) (hRI : RI R L s r) (hs : s + n ≤ 100000) (hin : ∀ x ∈ l, (EOp.cp x.d x.a k).In R L) (hA : InsAt w0 w0.heap.size A l) (hn : l.length = n) :
    Calls Tryz.prog 82 #[.pointer (some ⟨sb, 0, none⟩), .slice A n c, .int .i64 (k : Int)] W (EP w0 sb most (foldE most (l.map fun x => .cp x.d x.a k) r) W) := by
  obtain ⟨RC, hRC⟩ : ∃ z, foldE most (l.map fun x => EOp.cp x.d x.a k) r = z := ⟨_, rfl⟩
  have HRC : Hid (foldE most ((l.drop 0).map fun x => EOp.cp x.d x.a k) r = RC) := hRC
  rw [hRC]
  have HS0 := Lib.hid (LX.of hS)
  have H0 := Lib.hid h0
  have HRI0 := Lib.hid hRI
  have HIN := Lib.hid hin
  have HA := Lib.hid hA
  have HN := Lib.hid hn
  have HSB := Lib.hid hsb
  have hn9 : n ≤ 100000 := by omega
  clear hRC hS h0 hRI hin hA hn hsb
  go_enter Tryz.func82, Tryz.ntmps82
  go_wp2
  go_loopg [10] n (fun g v10 wr => ∃ (i : Nat) (r1 : Rs) (A1 : Option Addr) (c1 : Nat), i + g = n ∧ v10 = .int .i64 i ∧ Hid (foldE most ((l.drop i).map fun x => EOp.cp x.d x.a k) r1 = RC) ∧ Hid (r1.err = 0) ∧ Hid (RI R L (s + i) r1) ∧ Hid (LX w0 W sb most r1 A1 c1 wr))
  case atStart =>
    obtain ⟨A1, c1, h⟩ := HS0.out
    exact ⟨0, r, A1, c1, by omega, by go_num, HRC.out, H0.out, HRI0.out, h⟩
  case round =>
    clear HRC H0 HRI0 HS0
    obtain ⟨i, r1, A1, c1, hg, rfl, HFC, H0, HRI, HK⟩ := hrel
    by_cases hlt : i < n
    · have hiz : (i : Int) < (n : Int) := by omega
      have hl : i < l.length := by have := HN.out; omega
      obtain ⟨b, o, rfl, hb, hx⟩ := HA.out.at_ hl
      have hx2 := hx.keep hb fun _ hp => HK.out.pl.blw.cell hp
      have hdr : l.drop i = l[i] :: l.drop (i + 1) := List.drop_eq_getElem_cons hl
      have hfc := HFC.out
      rw [hdr, List.map_cons, foldE_cons] at hfc
      have hein := HIN.out l[i] (List.getElem_mem hl)
      clear hx hdr HFC
      generalize l[i] = x at *
      obtain ⟨x0, xd, xa, x3, x4⟩ := x
      obtain ⟨f0, f1, f2, f3, f4⟩ := hx2
      dsimp only at f0 f1 f2 f3 f4 hfc hein
      have hrn := HRI.out.step hRL hein most
      have hlen := (HRI.out.inn.set hein).len (set_srt HRI.out.srt _)
      have e1 : stepE most r1 (EOp.cp xd xa k) = r1.grow (cpP r1.out xd xa) most k := by unfold stepE; rw [if_pos H0.out]
      rw [e1] at hfc hrn
      have HFN := Lib.hid hfc
      have HRN := Lib.hid (hrn.mono (show s + i + 1 ≤ s + (i + 1) by omega))
      have C1 : Hid (∀ V, LX w0 W sb most r1 A1 c1 V → Calls Tryz.prog 95 #[.slice A1 r1.out.length c1, .int .i64 xd, .int .i64 xa] V fun e w' => ∃ A9 n9 c9, e = .returned (.slice A9 n9 c9) ∧ PL w0 (.slice A9 n9 c9) (cpP r1.out xd xa) w' ∧ Below V.heap.size V w') := fun V h =>
        (tcopy_any V.heap.size A1 r1.out c1 xd xa V h.pl.sees (Nat.le_refl _) (by have := HRI.out.len; omega) HRI.out.srt).mono fun e w' ⟨v, he, hP⟩ => by
          obtain ⟨A9, c9, rfl, _, _⟩ := hP.slice
          exact ⟨A9, _, c9, he, hP.base h.pl.blw, hP.blw⟩
      have C2 : Hid (∀ V A9 n9 c9, LX w0 W sb most r1 A1 c1 V → PL w0 (.slice A9 n9 c9) (cpP r1.out xd xa) V → Calls Tryz.prog 94 #[.pointer (some ⟨sb, 0, none⟩), .slice A9 n9 c9, .int .i64 (k : Int)] V (EP w0 sb most (r1.grow (cpP r1.out xd xa) most k) V)) := fun V A9 n9 c9 h hP =>
        become_ep h.sp HSB.out H0.out hP (HRI.out.big (by omega)) HRI.out.len (Nat.le_trans hlen hRL) HRI.out.lar
      generalize r1.grow (cpP r1.out xd xa) most k = r2 at *
      clear hein hfc hrn hlen e1 HRI
      go_upto_region 3 with fail
      have HKX := Lib.hid (HK.out.next ((Below.refl _ wr).alloc (Nat.le_refl _) (.cells #[.int .i64 x0, .int .i64 xd, .int .i64 xa, .int .i64 x3, .int .i64 x4] 44)))
      have hR := Row.new wr 44 #[.int .i64 x0, .int .i64 xd, .int .i64 xa, .int .i64 x3, .int .i64 x4]
      have hne : ¬ wr.heap.size = sb := by have := HK.out.row.lt; omega
      clear f0 f1 f2 f3 f4 HK
      generalize (wr.alloc (.cells #[.int .i64 x0, .int .i64 xd, .int .i64 xa, .int .i64 x3, .int .i64 x4] 44)) = W1 at *
      generalize wr.heap.size = tb at *
      have HTB : Hid (∀ V, Below W1.heap.size W1 V ∨ Mods (Is sb) W1 V → V.cell? ⟨tb, 1, none⟩ = W1.cell? ⟨tb, 1, none⟩) := fun V h => far_cell hR.lt hne h
      have HTC : Hid (∀ V, Below W1.heap.size W1 V ∨ Mods (Is sb) W1 V → V.cell? ⟨tb, 2, none⟩ = W1.cell? ⟨tb, 2, none⟩) := fun V h => far_cell hR.lt hne h
      have HT1 : Hid (W1.cell? ⟨tb, 1, none⟩ = some (.int .i64 xd) ∧ W1.cell? ⟨tb, 2, none⟩ = some (.int .i64 xa)) := ⟨hR.cell 1, hR.cell 2⟩
      have HK := Lib.hid HKX.out
      clear hR HKX hne
      as_aux_lemma =>
        have HSC : Hid (∀ V, Below W1.heap.size W1 V ∨ Mods (Is sb) W1 V → V.cell? ⟨tb, 1, none⟩ = some (.int .i64 xd) ∧ V.cell? ⟨tb, 2, none⟩ = some (.int .i64 xa)) := fun V h => ⟨(HTB.out V h).trans HT1.out.1, (HTC.out V h).trans HT1.out.2⟩
        have HKA := Lib.hid (HK.out.next (Below.refl _ W1).drew)
        have HWA : Hid (Mods (Is sb) W1 W1.drew) := (Mods.refl _ W1).drew
        go_wp2_with fail
        refine wp_region_held_drew (S := fun w' => w'.cell? ⟨tb, 1, none⟩ = some (.int .i64 xd) ∧ w'.cell? ⟨tb, 2, none⟩ = some (.int .i64 xa)) (by kernel_rfl) (HSC.out _ (.inr HWA.out)) (fun hHeld => ?_)
        generalize W1.drew = V0 at *
        clear HK
        have HK0 := Lib.hid HKA.out
        have HW0 := Lib.hid HWA.out
        clear HKA HWA
        refine take_at 0 14 (.pointer (some ⟨sb, 0, none⟩)) rfl rfl (by kernel_rfl) (by kernel_rfl) (by kernel_rfl) (fun _ _ _ h => h) (Or.inl ⟨by rfl, ?_⟩) hHeld ?_
        · intro w9 hSw
          (try dsimp only at hSw)
          go_simp
          all_goals (first | (intro h9; omega) | omega | (rw [IntKind.wrap_i64]; omega))
        (try simp only [Act.put, List.setIfInBounds_toArray, List.set_cons_zero, List.set_cons_succ])
        refine take_at 1 15 (.pointer (some ⟨sb, 0, none⟩)) rfl rfl (by kernel_rfl) (by kernel_rfl) (by kernel_rfl) (fun _ _ _ h => h) (Or.inl ⟨by rfl, ?_⟩) hHeld ?_
        · intro w9 hSw
          (try dsimp only at hSw)
          go_simp
          all_goals (first | (intro h9; omega) | omega | (rw [IntKind.wrap_i64]; omega))
        (try simp only [Act.put, List.setIfInBounds_toArray, List.set_cons_zero, List.set_cons_succ])
        refine take_at 2 16 (.pointer (some ⟨sb, 0, none⟩)) rfl rfl (by kernel_rfl) (by kernel_rfl) (by kernel_rfl) (fun _ _ _ h => h) (Or.inl ⟨by rfl, ?_⟩) hHeld ?_
        · intro w9 hSw
          (try dsimp only at hSw)
          go_simp
          all_goals (first | (intro h9; omega) | omega | (rw [IntKind.wrap_i64]; omega))
        (try simp only [Act.put, List.setIfInBounds_toArray, List.set_cons_zero, List.set_cons_succ])
        refine take_at 3 17 (.pointer (some ⟨sb, 0, none⟩)) rfl rfl (by kernel_rfl) (by kernel_rfl) (by kernel_rfl) (fun _ _ _ h => h) (Or.inl ⟨by rfl, ?_⟩) hHeld ?_
        · intro w9 hSw
          (try dsimp only at hSw)
          go_simp
          all_goals (first | (intro h9; omega) | omega | (rw [IntKind.wrap_i64]; omega))
        (try simp only [Act.put, List.setIfInBounds_toArray, List.set_cons_zero, List.set_cons_succ])
        refine take_at 5 19 (.pointer (some ⟨tb, 1, none⟩)) rfl rfl (by kernel_rfl) (by kernel_rfl) (by kernel_rfl) (fun _ _ _ h => h) (Or.inl ⟨by rfl, ?_⟩) hHeld ?_
        · intro w9 hSw
          (try dsimp only at hSw)
          go_simp
          all_goals (first | (intro h9; omega) | omega | (rw [IntKind.wrap_i64]; omega))
        (try simp only [Act.put, List.setIfInBounds_toArray, List.set_cons_zero, List.set_cons_succ])
        refine take_at 6 20 (.int .i64 xd) rfl rfl (by kernel_rfl) (by kernel_rfl) (by kernel_rfl) (fun _ _ _ h => h) (Or.inl ⟨by rfl, ?_⟩) hHeld ?_
        · intro w9 hSw
          (try dsimp only at hSw)
          go_simp
          all_goals (first | (intro h9; omega) | omega | (rw [IntKind.wrap_i64]; omega))
        (try simp only [Act.put, List.setIfInBounds_toArray, List.set_cons_zero, List.set_cons_succ])
        refine take_at 7 21 (.pointer (some ⟨tb, 2, none⟩)) rfl rfl (by kernel_rfl) (by kernel_rfl) (by kernel_rfl) (fun _ _ _ h => h) (Or.inl ⟨by rfl, ?_⟩) hHeld ?_
        · intro w9 hSw
          (try dsimp only at hSw)
          go_simp
          all_goals (first | (intro h9; omega) | omega | (rw [IntKind.wrap_i64]; omega))
        (try simp only [Act.put, List.setIfInBounds_toArray, List.set_cons_zero, List.set_cons_succ])
        refine take_at 8 22 (.int .i64 xa) rfl rfl (by kernel_rfl) (by kernel_rfl) (by kernel_rfl) (fun _ _ _ h => h) (Or.inl ⟨by rfl, ?_⟩) hHeld ?_
        · intro w9 hSw
          (try dsimp only at hSw)
          go_simp
          all_goals (first | (intro h9; omega) | omega | (rw [IntKind.wrap_i64]; omega))
        (try simp only [Act.put, List.setIfInBounds_toArray, List.set_cons_zero, List.set_cons_succ])
        refine take_at 10 24 (.int .i64 (k : Int)) rfl rfl (by kernel_rfl) (by kernel_rfl) (by kernel_rfl) (fun _ _ _ h => h) (Or.inl ⟨by rfl, ?_⟩) hHeld ?_
        · intro w9 hSw
          (try dsimp only at hSw)
          go_simp
          all_goals (first | (intro h9; omega) | omega | (rw [IntKind.wrap_i64]; omega))
        (try simp only [Act.put, List.setIfInBounds_toArray, List.set_cons_zero, List.set_cons_succ])
        refine wpAnyH_ready (rs := [4]) (by kernel_rfl) (by simp) ?_
        refine AllReadyH.cons rfl (fun K hK => ?_) ?_
        · have f0 := HK0.out.row.cell 0
          simp only [List.getElem?_toArray, List.getElem?_cons_zero] at f0
          go_simp
          refine hK.out _ _ (HSC.out _ (.inr HW0.out)) (fun hHeld => ?_)
          clear hK K f0
          refine wpAnyH_ready (rs := [9]) (by kernel_rfl) (by simp) ?_
          refine AllReadyH.cons rfl (fun K hK => ?_) ?_
          · go_simp
            refine (C1.out _ HK0.out).mono ?_
            rintro e V1 ⟨A9, n9, c9, rfl, hP, hG⟩
            (try go_wp2_with fail)
            have HK1 := Lib.hid (HK0.out.next hG)
            have HW1 := Lib.hid (HW0.out.trans (Mods.of_below hG))
            have HP9 := Lib.hid hP
            clear hP
            clear hG HK0 HW0
            refine hK.out _ _ (HSC.out _ (.inr HW1.out)) (fun hHeld => ?_)
            clear hK K
            refine wpAnyH_ready (rs := [11]) (by kernel_rfl) (by simp) ?_
            refine AllReadyH.cons rfl (fun K hK => ?_) ?_
            · go_simp
              refine (C2.out _ _ _ _ HK1.out HP9.out).mono ?_
              rintro e V9 ⟨hM, h⟩
              have HM9 := Lib.hid (HK1.out.md.trans hM)
              have HW9 := Lib.hid (HW1.out.trans hM)
              clear hM HK1 HP9
              rcases h with ⟨he0, rfl, hS2⟩ | ⟨he, rfl, hR9, hb9⟩
              · obtain ⟨A2, c2, hr2, hp2⟩ := hS2
                have HK9 : Hid (LX _ _ _ _ _ A2 c2 V9) := ⟨hr2, hp2, HM9.out⟩
                have HE0 := Lib.hid he0
                clear he0 hr2 hp2 HM9
                (try go_wp2_with fail)
                refine hK.out _ _ (HSC.out _ (.inr HW9.out)) (fun hHeld => ?_)
                clear hK K HW9 HW1
                refine wpAnyH_done (by kernel_rfl) ?_ _
                clear hHeld
                go_wp2_with fail
                go_wp2
                go_roundg (n - (i + 1))
                case measure => omega
                case rel => exact ⟨i + 1, r2, A2, c2, by omega, by go_num, HFN.out, HE0.out, HRN.out, HK9.out⟩
              · have HE := Lib.hid he
                have HR9 := Lib.hid hR9
                have HB9 := Lib.hid hb9
                clear he hR9 hb9 hK hHeld HW9 HW1
                have hfe : RC = r2 := by rw [← HFN.out]; exact foldE_err HE.out _
                exact ⟨rfl, HM9.out, .inr ⟨by rw [hfe]; exact HE.out, by rw [hfe], by rw [hfe]; exact HR9.out, HB9.out⟩⟩
            exact AllReadyH.nil
          exact AllReadyH.nil
        exact AllReadyH.nil
    · have hiz : ¬ (i : Int) < (n : Int) := by omega
      have hd : l.drop i = [] := List.drop_eq_nil_of_le (by have := HN.out; omega)
      have hfc := HFC.out
      rw [hd, List.map_nil, foldE_nil] at hfc
      subst hfc
      have HSP := Lib.hid HK.out.sp
      have HMD := Lib.hid HK.out.md
      clear hd HFC HK HRI
      go_wp2
      first | go_end0 | refine bodyPost_ret (results_none rfl _ _ _) rfl ?_
      exact ⟨HMD.out, .inl ⟨H0.out, rfl, HSP.out⟩⟩

theorem mvOps_drop {l : List Mi} {i k : Nat} (h : i < l.length) : mvOps (l.drop i) k = .mv l[i].dst l[i].src k :: mvOps (l.drop (i + 1)) (k + 1) := by
  rw [List.drop_eq_getElem_cons h, mvOps]

set_option maxRecDepth 100000 in
set_option maxHeartbeats 4000000 in
theorem bcmoves_any {R L : List Int} (hRL : R.length * L.length ≤ 400000) {w0 W : World} {sb : Nat} {most : Int} {r : Rs} {s : Nat} {A : Option Addr} {n c : Nat} {l : List Mi} {k0 : Nat} (hS : SP w0 sb most r W) (hsb : w0.heap.size ≤ sb) (h0 : r.err = 0) (hRI : RI R L s r) (hs : s + n ≤ 100000) (hk0 : k0 ≤ 100000) (hin : ∀ e ∈ mvOps l k0, e.In R L) (hA : MisAt w0 w0.heap.size A l) (hn : l.length = n) :
    Calls Tryz.prog 83 #[.pointer (some ⟨sb, 0, none⟩), .slice A n c, .int .i64 (k0 : Int)] W (EP w0 sb most (foldE most (mvOps l k0) r) W) := by
  obtain ⟨RC, hRC⟩ : ∃ z, foldE most (mvOps l k0) r = z := ⟨_, rfl⟩
  have HRC : Hid (foldE most (mvOps (l.drop 0) (k0 + 0)) r = RC) := hRC
  rw [hRC]
  have HS0 := Lib.hid (LX.of hS)
  have H0 := Lib.hid h0
  have HRI0 := Lib.hid hRI
  have HIN : Hid (∀ i (h : i < l.length), (EOp.mv l[i].dst l[i].src (k0 + i)).In R L) := fun i h => hin _ (mvOps_mem l k0 i h)
  have HA := Lib.hid hA
  have HN := Lib.hid hn
  have HSB := Lib.hid hsb
  have hn9 : n ≤ 100000 := by omega
  clear hRC hS h0 hRI hin hA hn hsb
  go_enter Tryz.func83, Tryz.ntmps83
  go_wp2
  go_loopg [10] n (fun g v10 wr => ∃ (i : Nat) (r1 : Rs) (A1 : Option Addr) (c1 : Nat), i + g = n ∧ v10 = .int .i64 i ∧ Hid (foldE most (mvOps (l.drop i) (k0 + i)) r1 = RC) ∧ Hid (r1.err = 0) ∧ Hid (RI R L (s + i) r1) ∧ Hid (LX w0 W sb most r1 A1 c1 wr))
  case atStart =>
    obtain ⟨A1, c1, h⟩ := HS0.out
    exact ⟨0, r, A1, c1, by omega, by go_num, HRC.out, H0.out, HRI0.out, h⟩
  case round =>
    clear HRC H0 HRI0 HS0
    obtain ⟨i, r1, A1, c1, hg, rfl, HFC, H0, HRI, HK⟩ := hrel
    by_cases hlt : i < n
    · have hiz : (i : Int) < (n : Int) := by omega
      have hl : i < l.length := by have := HN.out; omega
      obtain ⟨b, o, rfl, hb, hx⟩ := HA.out.at_ hl
      have hx2 := hx.keep hb fun _ hp => HK.out.pl.blw.cell hp
      have hfc := HFC.out
      rw [mvOps_drop hl, foldE_cons] at hfc
      have hein := HIN.out i hl
      obtain ⟨k, hk⟩ : ∃ z : Nat, k0 + i = z := ⟨_, rfl⟩
      have hkz : (k0 : Int) + (i : Int) = (k : Int) := by omega
      have hk9 : k ≤ 200000 := by omega
      rw [hk] at hfc hein
      have hk1 : k + 1 = k0 + (i + 1) := by omega
      rw [hk1] at hfc
      clear hx HFC hk hk1
      generalize l[i] = x at *
      obtain ⟨x0, x1, x2, x3, x4, yd, ys⟩ := x
      obtain ⟨_, f0, f1, f2, f3, f4, f5, f6⟩ := hx2
      dsimp only at f0 f1 f2 f3 f4 f5 f6 hfc hein
      have hrn := HRI.out.step hRL hein most
      have hlen := (HRI.out.inn.set hein).len (set_srt HRI.out.srt _)
      have e1 : stepE most r1 (EOp.mv yd ys k) = r1.grow (mvP r1.out yd ys) most k := by unfold stepE; rw [if_pos H0.out]
      rw [e1] at hfc hrn
      have HFN := Lib.hid hfc
      have HRN := Lib.hid (hrn.mono (show s + i + 1 ≤ s + (i + 1) by omega))
      have C1 : Hid (∀ V, LX w0 W sb most r1 A1 c1 V → Calls Tryz.prog 96 #[.slice A1 r1.out.length c1, .int .i64 yd, .int .i64 ys] V fun e w' => ∃ A9 n9 c9, e = .returned (.slice A9 n9 c9) ∧ PL w0 (.slice A9 n9 c9) (mvP r1.out yd ys) w' ∧ Below V.heap.size V w') := fun V h =>
        (tmove_any V.heap.size A1 r1.out c1 yd ys V h.pl.sees (Nat.le_refl _) (by have := HRI.out.len; omega) HRI.out.srt).mono fun e w' ⟨v, he, hP⟩ => by
          obtain ⟨A9, c9, rfl, _, _⟩ := hP.slice
          exact ⟨A9, _, c9, he, hP.base h.pl.blw, hP.blw⟩
      have C2 : Hid (∀ V A9 n9 c9, LX w0 W sb most r1 A1 c1 V → PL w0 (.slice A9 n9 c9) (mvP r1.out yd ys) V → Calls Tryz.prog 94 #[.pointer (some ⟨sb, 0, none⟩), .slice A9 n9 c9, .int .i64 (k : Int)] V (EP w0 sb most (r1.grow (mvP r1.out yd ys) most k) V)) := fun V A9 n9 c9 h hP =>
        become_ep h.sp HSB.out H0.out hP (HRI.out.big (by omega)) HRI.out.len (Nat.le_trans hlen hRL) HRI.out.lar
      generalize r1.grow (mvP r1.out yd ys) most k = r2 at *
      clear hein hfc hrn hlen e1 HRI
      go_upto_region 3 with fail
      have HKX := Lib.hid (HK.out.next ((Below.refl _ wr).alloc (Nat.le_refl _) (.cells #[.int .i64 x0, .int .i64 x1, .int .i64 x2, .int .i64 x3, .int .i64 x4, .int .i64 yd, .int .i64 ys] 56)))
      have hR := Row.new wr 56 #[.int .i64 x0, .int .i64 x1, .int .i64 x2, .int .i64 x3, .int .i64 x4, .int .i64 yd, .int .i64 ys]
      have hne : ¬ wr.heap.size = sb := by have := HK.out.row.lt; omega
      clear f0 f1 f2 f3 f4 f5 f6 HK
      generalize (wr.alloc (.cells #[.int .i64 x0, .int .i64 x1, .int .i64 x2, .int .i64 x3, .int .i64 x4, .int .i64 yd, .int .i64 ys] 56)) = W1 at *
      generalize wr.heap.size = tb at *
      have HTB : Hid (∀ V, Below W1.heap.size W1 V ∨ Mods (Is sb) W1 V → V.cell? ⟨tb, 5, none⟩ = W1.cell? ⟨tb, 5, none⟩) := fun V h => far_cell hR.lt hne h
      have HTC : Hid (∀ V, Below W1.heap.size W1 V ∨ Mods (Is sb) W1 V → V.cell? ⟨tb, 6, none⟩ = W1.cell? ⟨tb, 6, none⟩) := fun V h => far_cell hR.lt hne h
      have HT1 : Hid (W1.cell? ⟨tb, 5, none⟩ = some (.int .i64 yd) ∧ W1.cell? ⟨tb, 6, none⟩ = some (.int .i64 ys)) := ⟨hR.cell 5, hR.cell 6⟩
      have HK := Lib.hid HKX.out
      clear hR HKX hne
      as_aux_lemma =>
        have HSC : Hid (∀ V, Below W1.heap.size W1 V ∨ Mods (Is sb) W1 V → V.cell? ⟨tb, 5, none⟩ = some (.int .i64 yd) ∧ V.cell? ⟨tb, 6, none⟩ = some (.int .i64 ys)) := fun V h => ⟨(HTB.out V h).trans HT1.out.1, (HTC.out V h).trans HT1.out.2⟩
        have HKA := Lib.hid (HK.out.next (Below.refl _ W1).drew)
        have HWA : Hid (Mods (Is sb) W1 W1.drew) := (Mods.refl _ W1).drew
        go_wp2_with fail
        refine wp_region_held_drew (S := fun w' => w'.cell? ⟨tb, 5, none⟩ = some (.int .i64 yd) ∧ w'.cell? ⟨tb, 6, none⟩ = some (.int .i64 ys)) (by kernel_rfl) (HSC.out _ (.inr HWA.out)) (fun hHeld => ?_)
        generalize W1.drew = V0 at *
        clear HK
        have HK0 := Lib.hid HKA.out
        have HW0 := Lib.hid HWA.out
        clear HKA HWA
        refine take_at 0 15 (.pointer (some ⟨sb, 0, none⟩)) rfl rfl (by kernel_rfl) (by kernel_rfl) (by kernel_rfl) (fun _ _ _ h => h) (Or.inl ⟨by rfl, ?_⟩) hHeld ?_
        · intro w9 hSw
          (try dsimp only at hSw)
          go_simp
          all_goals (first | (intro h9; omega) | omega | (rw [IntKind.wrap_i64]; omega))
        (try simp only [Act.put, List.setIfInBounds_toArray, List.set_cons_zero, List.set_cons_succ])
        refine take_at 1 16 (.pointer (some ⟨sb, 0, none⟩)) rfl rfl (by kernel_rfl) (by kernel_rfl) (by kernel_rfl) (fun _ _ _ h => h) (Or.inl ⟨by rfl, ?_⟩) hHeld ?_
        · intro w9 hSw
          (try dsimp only at hSw)
          go_simp
          all_goals (first | (intro h9; omega) | omega | (rw [IntKind.wrap_i64]; omega))
        (try simp only [Act.put, List.setIfInBounds_toArray, List.set_cons_zero, List.set_cons_succ])
        refine take_at 2 17 (.pointer (some ⟨sb, 0, none⟩)) rfl rfl (by kernel_rfl) (by kernel_rfl) (by kernel_rfl) (fun _ _ _ h => h) (Or.inl ⟨by rfl, ?_⟩) hHeld ?_
        · intro w9 hSw
          (try dsimp only at hSw)
          go_simp
          all_goals (first | (intro h9; omega) | omega | (rw [IntKind.wrap_i64]; omega))
        (try simp only [Act.put, List.setIfInBounds_toArray, List.set_cons_zero, List.set_cons_succ])
        refine take_at 3 18 (.pointer (some ⟨sb, 0, none⟩)) rfl rfl (by kernel_rfl) (by kernel_rfl) (by kernel_rfl) (fun _ _ _ h => h) (Or.inl ⟨by rfl, ?_⟩) hHeld ?_
        · intro w9 hSw
          (try dsimp only at hSw)
          go_simp
          all_goals (first | (intro h9; omega) | omega | (rw [IntKind.wrap_i64]; omega))
        (try simp only [Act.put, List.setIfInBounds_toArray, List.set_cons_zero, List.set_cons_succ])
        refine take_at 5 20 (.pointer (some ⟨tb, 5, none⟩)) rfl rfl (by kernel_rfl) (by kernel_rfl) (by kernel_rfl) (fun _ _ _ h => h) (Or.inl ⟨by rfl, ?_⟩) hHeld ?_
        · intro w9 hSw
          (try dsimp only at hSw)
          go_simp
          all_goals (first | (intro h9; omega) | omega | (rw [IntKind.wrap_i64]; omega))
        (try simp only [Act.put, List.setIfInBounds_toArray, List.set_cons_zero, List.set_cons_succ])
        refine take_at 6 21 (.int .i64 yd) rfl rfl (by kernel_rfl) (by kernel_rfl) (by kernel_rfl) (fun _ _ _ h => h) (Or.inl ⟨by rfl, ?_⟩) hHeld ?_
        · intro w9 hSw
          (try dsimp only at hSw)
          go_simp
          all_goals (first | (intro h9; omega) | omega | (rw [IntKind.wrap_i64]; omega))
        (try simp only [Act.put, List.setIfInBounds_toArray, List.set_cons_zero, List.set_cons_succ])
        refine take_at 7 22 (.pointer (some ⟨tb, 6, none⟩)) rfl rfl (by kernel_rfl) (by kernel_rfl) (by kernel_rfl) (fun _ _ _ h => h) (Or.inl ⟨by rfl, ?_⟩) hHeld ?_
        · intro w9 hSw
          (try dsimp only at hSw)
          go_simp
          all_goals (first | (intro h9; omega) | omega | (rw [IntKind.wrap_i64]; omega))
        (try simp only [Act.put, List.setIfInBounds_toArray, List.set_cons_zero, List.set_cons_succ])
        refine take_at 8 23 (.int .i64 ys) rfl rfl (by kernel_rfl) (by kernel_rfl) (by kernel_rfl) (fun _ _ _ h => h) (Or.inl ⟨by rfl, ?_⟩) hHeld ?_
        · intro w9 hSw
          (try dsimp only at hSw)
          go_simp
          all_goals (first | (intro h9; omega) | omega | (rw [IntKind.wrap_i64]; omega))
        (try simp only [Act.put, List.setIfInBounds_toArray, List.set_cons_zero, List.set_cons_succ])
        refine take_at 10 25 (.int .i64 (k0 : Int)) rfl rfl (by kernel_rfl) (by kernel_rfl) (by kernel_rfl) (fun _ _ _ h => h) (Or.inl ⟨by rfl, ?_⟩) hHeld ?_
        · intro w9 hSw
          (try dsimp only at hSw)
          go_simp
          all_goals (first | (intro h9; omega) | omega | (rw [IntKind.wrap_i64]; omega))
        (try simp only [Act.put, List.setIfInBounds_toArray, List.set_cons_zero, List.set_cons_succ])
        refine take_at 11 26 (.int .i64 (i : Int)) rfl rfl (by kernel_rfl) (by kernel_rfl) (by kernel_rfl) (fun _ _ _ h => h) (Or.inl ⟨by rfl, ?_⟩) hHeld ?_
        · intro w9 hSw
          (try dsimp only at hSw)
          go_simp
          all_goals (first | (intro h9; omega) | omega | (rw [IntKind.wrap_i64]; omega))
        (try simp only [Act.put, List.setIfInBounds_toArray, List.set_cons_zero, List.set_cons_succ])
        refine take_at 12 27 (.int .i64 (k : Int)) rfl rfl (by kernel_rfl) (by kernel_rfl) (by kernel_rfl) (fun _ _ _ h => h) (Or.inl ⟨by rfl, ?_⟩) hHeld ?_
        · intro w9 hSw
          (try dsimp only at hSw)
          go_simp
          all_goals (first | (intro h9; omega) | omega | (rw [IntKind.wrap_i64]; omega))
        (try simp only [Act.put, List.setIfInBounds_toArray, List.set_cons_zero, List.set_cons_succ])
        refine wpAnyH_ready (rs := [4]) (by kernel_rfl) (by simp) ?_
        refine AllReadyH.cons rfl (fun K hK => ?_) ?_
        · have f0 := HK0.out.row.cell 0
          simp only [List.getElem?_toArray, List.getElem?_cons_zero] at f0
          go_simp
          refine hK.out _ _ (HSC.out _ (.inr HW0.out)) (fun hHeld => ?_)
          clear hK K f0
          refine wpAnyH_ready (rs := [9]) (by kernel_rfl) (by simp) ?_
          refine AllReadyH.cons rfl (fun K hK => ?_) ?_
          · go_simp
            refine (C1.out _ HK0.out).mono ?_
            rintro e V1 ⟨A9, n9, c9, rfl, hP, hG⟩
            (try go_wp2_with fail)
            have HK1 := Lib.hid (HK0.out.next hG)
            have HW1 := Lib.hid (HW0.out.trans (Mods.of_below hG))
            have HP9 := Lib.hid hP
            clear hP
            clear hG HK0 HW0
            refine hK.out _ _ (HSC.out _ (.inr HW1.out)) (fun hHeld => ?_)
            clear hK K
            refine wpAnyH_ready (rs := [13]) (by kernel_rfl) (by simp) ?_
            refine AllReadyH.cons rfl (fun K hK => ?_) ?_
            · go_simp
              refine (C2.out _ _ _ _ HK1.out HP9.out).mono ?_
              rintro e V9 ⟨hM, h⟩
              have HM9 := Lib.hid (HK1.out.md.trans hM)
              have HW9 := Lib.hid (HW1.out.trans hM)
              clear hM HK1 HP9
              rcases h with ⟨he0, rfl, hS2⟩ | ⟨he, rfl, hR9, hb9⟩
              · obtain ⟨A2, c2, hr2, hp2⟩ := hS2
                have HK9 : Hid (LX _ _ _ _ _ A2 c2 V9) := ⟨hr2, hp2, HM9.out⟩
                have HE0 := Lib.hid he0
                clear he0 hr2 hp2 HM9
                (try go_wp2_with fail)
                refine hK.out _ _ (HSC.out _ (.inr HW9.out)) (fun hHeld => ?_)
                clear hK K HW9 HW1
                refine wpAnyH_done (by kernel_rfl) ?_ _
                clear hHeld
                go_wp2_with fail
                go_wp2
                go_roundg (n - (i + 1))
                case measure => omega
                case rel => exact ⟨i + 1, r2, A2, c2, by omega, by go_num, HFN.out, HE0.out, HRN.out, HK9.out⟩
              · have HE := Lib.hid he
                have HR9 := Lib.hid hR9
                have HB9 := Lib.hid hb9
                clear he hR9 hb9 hK hHeld HW9 HW1
                have hfe : RC = r2 := by rw [← HFN.out]; exact foldE_err HE.out _
                exact ⟨rfl, HM9.out, .inr ⟨by rw [hfe]; exact HE.out, by rw [hfe], by rw [hfe]; exact HR9.out, HB9.out⟩⟩
            exact AllReadyH.nil
          exact AllReadyH.nil
        exact AllReadyH.nil
    · have hiz : ¬ (i : Int) < (n : Int) := by omega
      have hd : l.drop i = [] := List.drop_eq_nil_of_le (by have := HN.out; omega)
      have hfc := HFC.out
      rw [hd, mvOps, foldE_nil] at hfc
      subst hfc
      have HSP := Lib.hid HK.out.sp
      have HMD := Lib.hid HK.out.md
      clear hd HFC HK HRI
      go_wp2
      first | go_end0 | refine bodyPost_ret (results_none rfl _ _ _) rfl ?_
      exact ⟨HMD.out, .inl ⟨H0.out, rfl, HSP.out⟩⟩

/-- The boxes of an instruction's check. -/
structure BX (ib jb ob sb : Nat) (u : In) (v : Mi) (dd da db di : Bool) (V : World) : Prop where
  i : Row V ib 44 #[.int .i64 u.op, .int .i64 u.d, .int .i64 u.a, .int .i64 u.b, .int .i64 u.imm]
  j : Row V jb 56 #[.int .i64 v.op, .int .i64 v.d, .int .i64 v.a, .int .i64 v.b, .int .i64 v.imm, .int .i64 v.dst, .int .i64 v.src]
  o : Row V ob 110 #[.bool dd, .bool da, .bool db, .bool di]
  ni : ¬ ib = sb
  nj : ¬ jb = sb
  no : ¬ ob = sb

theorem BX.mods {ib jb ob sb : Nat} {u : In} {v : Mi} {dd da db di : Bool} {V V' : World} (h : BX ib jb ob sb u v dd da db di V) (hm : Mods (Is sb) V V') : BX ib jb ob sb u v dd da db di V' :=
  ⟨h.i.mods hm h.ni, h.j.mods hm h.nj, h.o.mods hm h.no, h.ni, h.nj, h.no⟩

set_option maxRecDepth 100000 in
set_option maxHeartbeats 8000000 in
theorem bcinstr_any {R L : List Int} (hRL : R.length * L.length ≤ 400000) {w0 W : World} {sb : Nat} {most : Int} {r : Rs} {s : Nat} {u : In} {v : Mi} {k : Nat} (hS : SP w0 sb most r W) (hsb : w0.heap.size ≤ sb) (h0 : r.err = 0) (hRI : RI R L s r) (hs : s + 3 ≤ 100000) (hin : ∀ e ∈ insOps u v k, e.In R L)
    (hbd : (uA u.op = true → 0 ≤ v.a ∧ v.a ≤ 1000000) ∧ (uB u.op = true → 0 ≤ v.b ∧ v.b ≤ 1000000) ∧ (uD u.op = true → 0 ≤ v.d ∧ v.d ≤ 1000000)) :
    Calls Tryz.prog 84 #[.pointer (some ⟨sb, 0, none⟩), .agg #[.int .i64 u.op, .int .i64 u.d, .int .i64 u.a, .int .i64 u.b, .int .i64 u.imm], .agg #[.int .i64 v.op, .int .i64 v.d, .int .i64 v.a, .int .i64 v.b, .int .i64 v.imm, .int .i64 v.dst, .int .i64 v.src], .int .i64 (k : Int)] W (EP w0 sb most (foldE most (insOps u v k) r) W) := by
  obtain ⟨A1, c1, hK⟩ := LX.of hS
  obtain ⟨RC, hRC⟩ : ∃ z, foldE most (insOps u v k) r = z := ⟨_, rfl⟩
  rw [hRC]
  rw [insOps, List.append_assoc] at hRC
  have HIN := Lib.hid hin
  obtain ⟨dd, hdd⟩ : ∃ z, uD u.op = z := ⟨_, rfl⟩
  obtain ⟨da, hda⟩ : ∃ z, uA u.op = z := ⟨_, rfl⟩
  obtain ⟨db, hdb⟩ : ∃ z, uB u.op = z := ⟨_, rfl⟩
  obtain ⟨di, hdi⟩ : ∃ z, uI u.op = z := ⟨_, rfl⟩
  obtain ⟨dO, hdO⟩ : ∃ z, uO u.op = z := ⟨_, rfl⟩
  have CO := Lib.hid fun W => of_at u.op dd da db di dO W hdd hda hdb hdi hdO
  have HDD := Lib.hid hdd
  have HDA := Lib.hid hda
  have HDB := Lib.hid hdb
  rw [hdd, hda, hdb] at hRC hbd
  have HBD := Lib.hid hbd
  have HFC := Lib.hid hRC
  have H0 := Lib.hid h0
  have HRI := Lib.hid hRI
  have HSB := Lib.hid hsb
  have HK0 := Lib.hid hK
  have hM0 : Hid (Mods (Is sb) W W) := Mods.refl _ _
  clear hRC hdd hda hdb hdi hdO hbd h0 hRI hin hsb hS hK
  go_enter Tryz.func84, Tryz.ntmps84
  go_upto_region 1 with fail
  have hb2 := ((Below.refl W.heap.size W).alloc (Nat.le_refl _) (.cells #[.int .i64 u.op, .int .i64 u.d, .int .i64 u.a, .int .i64 u.b, .int .i64 u.imm] 44)).alloc (by simp) (.cells #[.int .i64 v.op, .int .i64 v.d, .int .i64 v.a, .int .i64 v.b, .int .i64 v.imm, .int .i64 v.dst, .int .i64 v.src] 56)
  have hI := (Row.new W 44 #[.int .i64 u.op, .int .i64 u.d, .int .i64 u.a, .int .i64 u.b, .int .i64 u.imm]).alloc (.cells #[.int .i64 v.op, .int .i64 v.d, .int .i64 v.a, .int .i64 v.b, .int .i64 v.imm, .int .i64 v.dst, .int .i64 v.src] 56)
  have hJ := Row.new (W.alloc (.cells #[.int .i64 u.op, .int .i64 u.d, .int .i64 u.a, .int .i64 u.b, .int .i64 u.imm] 44)) 56 #[.int .i64 v.op, .int .i64 v.d, .int .i64 v.a, .int .i64 v.b, .int .i64 v.imm, .int .i64 v.dst, .int .i64 v.src]
  rw [show (W.alloc (.cells #[.int .i64 u.op, .int .i64 u.d, .int .i64 u.a, .int .i64 u.b, .int .i64 u.imm] 44)).heap.size = W.heap.size + 1 by simp] at hJ
  have hni : ¬ W.heap.size = sb := by have := HK0.out.row.lt; omega
  have hnj : ¬ W.heap.size + 1 = sb := by have := HK0.out.row.lt; omega
  have HK1 := Lib.hid (HK0.out.next hb2)
  clear hb2 HK0
  generalize ((W.alloc (.cells #[.int .i64 u.op, .int .i64 u.d, .int .i64 u.a, .int .i64 u.b, .int .i64 u.imm] 44)).alloc (.cells #[.int .i64 v.op, .int .i64 v.d, .int .i64 v.a, .int .i64 v.b, .int .i64 v.imm, .int .i64 v.dst, .int .i64 v.src] 56)) = W2 at *
  obtain ⟨jb, hjb⟩ : ∃ z, z = W.heap.size + 1 := ⟨_, rfl⟩
  rw [← hjb] at hJ hnj ⊢
  generalize W.heap.size = ib at *
  clear hjb
  have HI := Lib.hid hI
  have HJ := Lib.hid hJ
  have i0 := hI.cell 0
  simp only [List.getElem?_toArray, List.getElem?_cons_zero] at i0
  clear hI hJ
  go_wp2_with fail
  refine (CO.out _).mono ?_
  rintro e W3 ⟨rfl, hb⟩
  have HI3 := Lib.hid (HI.out.below hb HI.out.lt)
  have HJ3 := Lib.hid (HJ.out.below hb HJ.out.lt)
  have HK3 := Lib.hid (HK1.out.next hb)
  clear hb CO i0 HI HJ HK1
  go_upto_region 2 with fail
  have HX : Hid (BX ib jb W3.heap.size sb u v dd da db di (W3.alloc (.cells #[.bool dd, .bool da, .bool db, .bool di] 110))) :=
    ⟨HI3.out.alloc _, HJ3.out.alloc _, Row.new W3 _ _, hni, hnj, by have := HK3.out.row.lt; omega⟩
  have HK := Lib.hid (HK3.out.next ((Below.refl _ W3).alloc (Nat.le_refl _) (.cells #[.bool dd, .bool da, .bool db, .bool di] 110)))
  generalize (W3.alloc (.cells #[.bool dd, .bool da, .bool db, .bool di] 110)) = W1 at *
  generalize W3.heap.size = ob at *
  obtain ⟨r1, hr1⟩ : ∃ z, z = r := ⟨_, rfl⟩
  rw [← hr1] at HK HFC HRI H0
  clear hr1 HI3 HJ3 HK3 hni hnj
  cases da
  · have hfc := HFC.out
    simp only [Bool.false_eq_true, if_false, List.nil_append] at hfc
    have HFD := Lib.hid hfc
    clear hfc HFC
    have HFC := HFD
    clear HFD
    cases db
    · have hfc := HFC.out
      simp only [Bool.false_eq_true, if_false, List.nil_append] at hfc
      have HFD := Lib.hid hfc
      clear hfc HFC
      have HFC := HFD
      clear HFD
      cases dd
      · have hfc := HFC.out
        simp only [Bool.false_eq_true, if_false, List.nil_append, foldE_nil] at hfc
        have HFN := Lib.hid hfc
        have o0 := HX.out.o.cell 0; have o1 := HX.out.o.cell 1; have o2 := HX.out.o.cell 2
        simp only [List.getElem?_toArray, List.getElem?_cons_zero, List.getElem?_cons_succ] at o0 o1 o2
        clear hfc HFC
        go_wp2
        first | go_end0 | refine bodyPost_ret (results_none rfl _ _ _) rfl ?_
        rw [← HFN.out]
        exact ⟨HK.out.md, .inl ⟨H0.out, rfl, HK.out.sp⟩⟩
      · have e1 : stepE most r1 (EOp.df u.d v.d k) = r1.grow (dfP r1.out u.d (2 * v.d)) most k := by unfold stepE; rw [if_pos H0.out]
        have hein := HIN.out (EOp.df u.d v.d k) (by simp [insOps, HDD.out])
        have hlen := (HRI.out.inn.set hein).len (set_srt HRI.out.srt _)
        have hfc := HFC.out
        simp only [if_true, foldE_cons, foldE_nil, e1] at hfc
        have HFN := Lib.hid hfc
        have hg := HBD.out.2.2 rfl
        have C1 : Hid (∀ V, LX w0 W sb most r1 A1 c1 V → Calls Tryz.prog 98 #[.slice A1 r1.out.length c1, .int .i64 u.d, .int .i64 (2 * v.d)] V fun e w' => ∃ A9 n9 c9, e = .returned (.slice A9 n9 c9) ∧ PL w0 (.slice A9 n9 c9) (dfP r1.out u.d (2 * v.d)) w' ∧ Below V.heap.size V w') := fun V h =>
          (tdefine_any V.heap.size A1 r1.out c1 u.d (2 * v.d) V h.pl.sees (Nat.le_refl _) (by have := HRI.out.len; omega) HRI.out.srt).mono fun e w' ⟨x, he, hP⟩ => by
            obtain ⟨A9, c9, rfl, _, _⟩ := hP.slice
            exact ⟨A9, _, c9, he, hP.base h.pl.blw, hP.blw⟩
        have C2 : Hid (∀ V A9 n9 c9, LX w0 W sb most r1 A1 c1 V → PL w0 (.slice A9 n9 c9) (dfP r1.out u.d (2 * v.d)) V → Calls Tryz.prog 94 #[.pointer (some ⟨sb, 0, none⟩), .slice A9 n9 c9, .int .i64 (k : Int)] V (EP w0 sb most (r1.grow (dfP r1.out u.d (2 * v.d)) most k) V)) := fun V A9 n9 c9 h hP =>
          become_ep h.sp HSB.out H0.out hP (HRI.out.big (by omega)) HRI.out.len (Nat.le_trans hlen hRL) HRI.out.lar
        have CR := Lib.hid fun V => bcreg_at v.d V hg
        generalize r1.grow (dfP r1.out u.d (2 * v.d)) most k = r2 at *
        have HT1 : Hid (W1.cell? ⟨ib, 1, none⟩ = some (.int .i64 u.d) ∧ W1.cell? ⟨jb, 1, none⟩ = some (.int .i64 v.d)) := ⟨HX.out.i.cell 1, HX.out.j.cell 1⟩
        have HTB : Hid (∀ V, Below W1.heap.size W1 V ∨ Mods (Is sb) W1 V → V.cell? ⟨ib, 1, none⟩ = W1.cell? ⟨ib, 1, none⟩) := fun V h => far_cell HX.out.i.lt HX.out.ni h
        have HTC : Hid (∀ V, Below W1.heap.size W1 V ∨ Mods (Is sb) W1 V → V.cell? ⟨jb, 1, none⟩ = W1.cell? ⟨jb, 1, none⟩) := fun V h => far_cell HX.out.j.lt HX.out.nj h
        have o0 := HX.out.o.cell 0; have o1 := HX.out.o.cell 1; have o2 := HX.out.o.cell 2
        simp only [List.getElem?_toArray, List.getElem?_cons_zero, List.getElem?_cons_succ] at o0 o1 o2
        generalize u.d = ud at *
        generalize v.d = vd at *
        clear hfc e1 hein hlen HFC
        go_upto_region 7 with fail
        clear o0 o1 o2 HX
        as_aux_lemma =>
          have HSC : Hid (∀ V, Below W1.heap.size W1 V ∨ Mods (Is sb) W1 V → V.cell? ⟨ib, 1, none⟩ = some (.int .i64 ud) ∧ V.cell? ⟨jb, 1, none⟩ = some (.int .i64 vd)) := fun V h => ⟨(HTB.out V h).trans HT1.out.1, (HTC.out V h).trans HT1.out.2⟩
          have HKA := Lib.hid (HK.out.next (Below.refl _ W1).drew)
          have HWA : Hid (Mods (Is sb) W1 W1.drew) := (Mods.refl _ W1).drew
          go_wp2_with fail
          refine wp_region_held_drew (S := fun w' => w'.cell? ⟨ib, 1, none⟩ = some (.int .i64 ud) ∧ w'.cell? ⟨jb, 1, none⟩ = some (.int .i64 vd)) (by kernel_rfl) (HSC.out _ (.inr HWA.out)) (fun hHeld => ?_)
          generalize W1.drew = V0 at *
          clear HK
          have HK0 := Lib.hid HKA.out
          have HW0 := Lib.hid HWA.out
          clear HKA HWA
          refine take_at 0 36 (.pointer (some ⟨sb, 0, none⟩)) rfl rfl (by kernel_rfl) (by kernel_rfl) (by kernel_rfl) (fun _ _ _ h => h) (Or.inl ⟨by rfl, ?_⟩) hHeld ?_
          · intro w9 hSw
            (try dsimp only at hSw)
            go_simp
            all_goals (first | (intro h9; omega) | omega | (rw [IntKind.wrap_i64]; omega))
          (try simp only [Act.put, List.setIfInBounds_toArray, List.set_cons_zero, List.set_cons_succ])
          refine take_at 1 37 (.pointer (some ⟨sb, 0, none⟩)) rfl rfl (by kernel_rfl) (by kernel_rfl) (by kernel_rfl) (fun _ _ _ h => h) (Or.inl ⟨by rfl, ?_⟩) hHeld ?_
          · intro w9 hSw
            (try dsimp only at hSw)
            go_simp
            all_goals (first | (intro h9; omega) | omega | (rw [IntKind.wrap_i64]; omega))
          (try simp only [Act.put, List.setIfInBounds_toArray, List.set_cons_zero, List.set_cons_succ])
          refine take_at 2 38 (.pointer (some ⟨sb, 0, none⟩)) rfl rfl (by kernel_rfl) (by kernel_rfl) (by kernel_rfl) (fun _ _ _ h => h) (Or.inl ⟨by rfl, ?_⟩) hHeld ?_
          · intro w9 hSw
            (try dsimp only at hSw)
            go_simp
            all_goals (first | (intro h9; omega) | omega | (rw [IntKind.wrap_i64]; omega))
          (try simp only [Act.put, List.setIfInBounds_toArray, List.set_cons_zero, List.set_cons_succ])
          refine take_at 3 39 (.pointer (some ⟨sb, 0, none⟩)) rfl rfl (by kernel_rfl) (by kernel_rfl) (by kernel_rfl) (fun _ _ _ h => h) (Or.inl ⟨by rfl, ?_⟩) hHeld ?_
          · intro w9 hSw
            (try dsimp only at hSw)
            go_simp
            all_goals (first | (intro h9; omega) | omega | (rw [IntKind.wrap_i64]; omega))
          (try simp only [Act.put, List.setIfInBounds_toArray, List.set_cons_zero, List.set_cons_succ])
          refine take_at 5 41 (.pointer (some ⟨ib, 1, none⟩)) rfl rfl (by kernel_rfl) (by kernel_rfl) (by kernel_rfl) (fun _ _ _ h => h) (Or.inl ⟨by rfl, ?_⟩) hHeld ?_
          · intro w9 hSw
            (try dsimp only at hSw)
            go_simp
            all_goals (first | (intro h9; omega) | omega | (rw [IntKind.wrap_i64]; omega))
          (try simp only [Act.put, List.setIfInBounds_toArray, List.set_cons_zero, List.set_cons_succ])
          refine take_at 6 42 (.int .i64 ud) rfl rfl (by kernel_rfl) (by kernel_rfl) (by kernel_rfl) (fun _ _ _ h => h) (Or.inl ⟨by rfl, ?_⟩) hHeld ?_
          · intro w9 hSw
            (try dsimp only at hSw)
            go_simp
            all_goals (first | (intro h9; omega) | omega | (rw [IntKind.wrap_i64]; omega))
          (try simp only [Act.put, List.setIfInBounds_toArray, List.set_cons_zero, List.set_cons_succ])
          refine take_at 7 43 (.pointer (some ⟨jb, 1, none⟩)) rfl rfl (by kernel_rfl) (by kernel_rfl) (by kernel_rfl) (fun _ _ _ h => h) (Or.inl ⟨by rfl, ?_⟩) hHeld ?_
          · intro w9 hSw
            (try dsimp only at hSw)
            go_simp
            all_goals (first | (intro h9; omega) | omega | (rw [IntKind.wrap_i64]; omega))
          (try simp only [Act.put, List.setIfInBounds_toArray, List.set_cons_zero, List.set_cons_succ])
          refine take_at 8 44 (.int .i64 vd) rfl rfl (by kernel_rfl) (by kernel_rfl) (by kernel_rfl) (fun _ _ _ h => h) (Or.inl ⟨by rfl, ?_⟩) hHeld ?_
          · intro w9 hSw
            (try dsimp only at hSw)
            go_simp
            all_goals (first | (intro h9; omega) | omega | (rw [IntKind.wrap_i64]; omega))
          (try simp only [Act.put, List.setIfInBounds_toArray, List.set_cons_zero, List.set_cons_succ])
          refine take_at 11 47 (.int .i64 (k : Int)) rfl rfl (by kernel_rfl) (by kernel_rfl) (by kernel_rfl) (fun _ _ _ h => h) (Or.inl ⟨by rfl, ?_⟩) hHeld ?_
          · intro w9 hSw
            (try dsimp only at hSw)
            go_simp
            all_goals (first | (intro h9; omega) | omega | (rw [IntKind.wrap_i64]; omega))
          (try simp only [Act.put, List.setIfInBounds_toArray, List.set_cons_zero, List.set_cons_succ])
          refine wpAnyH_ready (rs := [4, 9]) (by kernel_rfl) (by simp) ?_
          refine AllReadyH.cons rfl (fun K hK => ?_) ?_
          · have f0 := HK0.out.row.cell 0
            simp only [List.getElem?_toArray, List.getElem?_cons_zero] at f0
            go_simp
            refine hK.out _ _ (HSC.out _ (.inr HW0.out)) (fun hHeld => ?_)
            clear hK K f0
            refine wpAnyH_ready (rs := [9]) (by kernel_rfl) (by simp) ?_
            refine AllReadyH.cons rfl (fun K hK => ?_) ?_
            · go_simp
              refine (CR.out _).mono ?_
              rintro e V1 ⟨rfl, hG⟩
              (try go_wp2_with fail)
              have HK1 := Lib.hid (HK0.out.next hG.below)
              have HW1 := Lib.hid (HW0.out.trans (Mods.of_below hG.below))
              clear hG HK0 HW0
              refine hK.out _ _ (HSC.out _ (.inr HW1.out)) (fun hHeld => ?_)
              clear hK K
              refine wpAnyH_ready (rs := [10]) (by kernel_rfl) (by simp) ?_
              refine AllReadyH.cons rfl (fun K hK => ?_) ?_
              · go_simp
                refine (C1.out _ HK1.out).mono ?_
                rintro e V2 ⟨A9, n9, c9, rfl, hP, hG⟩
                (try go_wp2_with fail)
                have HK2 := Lib.hid (HK1.out.next hG)
                have HW2 := Lib.hid (HW1.out.trans (Mods.of_below hG))
                have HP9 := Lib.hid hP
                clear hP
                clear hG HK1 HW1
                refine hK.out _ _ (HSC.out _ (.inr HW2.out)) (fun hHeld => ?_)
                clear hK K
                refine wpAnyH_ready (rs := [12]) (by kernel_rfl) (by simp) ?_
                refine AllReadyH.cons rfl (fun K hK => ?_) ?_
                · go_simp
                  refine (C2.out _ _ _ _ HK2.out HP9.out).mono ?_
                  rintro e V9 ⟨hM, h⟩
                  have HM9 := Lib.hid (HK2.out.md.trans hM)
                  have HW9 := Lib.hid (HW2.out.trans hM)
                  clear hM HK2 HP9
                  rcases h with ⟨he0, rfl, hS2⟩ | ⟨he, rfl, hR9, hb9⟩
                  · obtain ⟨A2, c2, hr2, hp2⟩ := hS2
                    have HK9 : Hid (LX _ _ _ _ _ A2 c2 V9) := ⟨hr2, hp2, HM9.out⟩
                    have HE0 := Lib.hid he0
                    clear he0 hr2 hp2 HM9
                    (try go_wp2_with fail)
                    refine hK.out _ _ (HSC.out _ (.inr HW9.out)) (fun hHeld => ?_)
                    clear hK K HW9 HW2
                    refine wpAnyH_done (by kernel_rfl) ?_ _
                    clear hHeld
                    go_wp2_with fail
                    first | go_end0 | refine bodyPost_ret (results_none rfl _ _ _) rfl ?_
                    rw [← HFN.out]
                    exact ⟨HK9.out.md, .inl ⟨HE0.out, rfl, HK9.out.sp⟩⟩
                  · have HE := Lib.hid he
                    have HR9 := Lib.hid hR9
                    have HB9 := Lib.hid hb9
                    clear he hR9 hb9 hK hHeld HW9 HW2
                    rw [← HFN.out]
                    exact ⟨rfl, HM9.out, .inr ⟨HE.out, rfl, HR9.out, HB9.out⟩⟩
                exact AllReadyH.nil
              exact AllReadyH.nil
            exact AllReadyH.nil
          refine AllReadyH.cons rfl (fun K hK => ?_) ?_
          · go_simp
            refine (CR.out _).mono ?_
            rintro e V1 ⟨rfl, hG⟩
            (try go_wp2_with fail)
            have HK1 := Lib.hid (HK0.out.next hG.below)
            have HW1 := Lib.hid (HW0.out.trans (Mods.of_below hG.below))
            clear hG HK0 HW0
            refine hK.out _ _ (HSC.out _ (.inr HW1.out)) (fun hHeld => ?_)
            clear hK K
            refine wpAnyH_ready (rs := [4]) (by kernel_rfl) (by simp) ?_
            refine AllReadyH.cons rfl (fun K hK => ?_) ?_
            · have f0 := HK1.out.row.cell 0
              simp only [List.getElem?_toArray, List.getElem?_cons_zero] at f0
              go_simp
              refine hK.out _ _ (HSC.out _ (.inr HW1.out)) (fun hHeld => ?_)
              clear hK K f0
              refine wpAnyH_ready (rs := [10]) (by kernel_rfl) (by simp) ?_
              refine AllReadyH.cons rfl (fun K hK => ?_) ?_
              · go_simp
                refine (C1.out _ HK1.out).mono ?_
                rintro e V2 ⟨A9, n9, c9, rfl, hP, hG⟩
                (try go_wp2_with fail)
                have HK2 := Lib.hid (HK1.out.next hG)
                have HW2 := Lib.hid (HW1.out.trans (Mods.of_below hG))
                have HP9 := Lib.hid hP
                clear hP
                clear hG HK1 HW1
                refine hK.out _ _ (HSC.out _ (.inr HW2.out)) (fun hHeld => ?_)
                clear hK K
                refine wpAnyH_ready (rs := [12]) (by kernel_rfl) (by simp) ?_
                refine AllReadyH.cons rfl (fun K hK => ?_) ?_
                · go_simp
                  refine (C2.out _ _ _ _ HK2.out HP9.out).mono ?_
                  rintro e V9 ⟨hM, h⟩
                  have HM9 := Lib.hid (HK2.out.md.trans hM)
                  have HW9 := Lib.hid (HW2.out.trans hM)
                  clear hM HK2 HP9
                  rcases h with ⟨he0, rfl, hS2⟩ | ⟨he, rfl, hR9, hb9⟩
                  · obtain ⟨A2, c2, hr2, hp2⟩ := hS2
                    have HK9 : Hid (LX _ _ _ _ _ A2 c2 V9) := ⟨hr2, hp2, HM9.out⟩
                    have HE0 := Lib.hid he0
                    clear he0 hr2 hp2 HM9
                    (try go_wp2_with fail)
                    refine hK.out _ _ (HSC.out _ (.inr HW9.out)) (fun hHeld => ?_)
                    clear hK K HW9 HW2
                    refine wpAnyH_done (by kernel_rfl) ?_ _
                    clear hHeld
                    go_wp2_with fail
                    first | go_end0 | refine bodyPost_ret (results_none rfl _ _ _) rfl ?_
                    rw [← HFN.out]
                    exact ⟨HK9.out.md, .inl ⟨HE0.out, rfl, HK9.out.sp⟩⟩
                  · have HE := Lib.hid he
                    have HR9 := Lib.hid hR9
                    have HB9 := Lib.hid hb9
                    clear he hR9 hb9 hK hHeld HW9 HW2
                    rw [← HFN.out]
                    exact ⟨rfl, HM9.out, .inr ⟨HE.out, rfl, HR9.out, HB9.out⟩⟩
                exact AllReadyH.nil
              exact AllReadyH.nil
            exact AllReadyH.nil
          exact AllReadyH.nil
    · simp only [if_true] at HFC
      have e1 : stepE most r1 (EOp.us u.b v.b k) = r1.use u.b v.b k := by unfold stepE; rw [if_pos H0.out]
      have hfc := HFC.out
      rw [show (([EOp.us u.b v.b k] : List EOp) ++ (if dd = true then [EOp.df u.d v.d k] else [])) = EOp.us u.b v.b k :: ((if dd = true then [EOp.df u.d v.d k] else [])) from rfl, foldE_cons, e1] at hfc
      have hrn := HRI.out.step hRL (HIN.out (EOp.us u.b v.b k) (by simp [insOps, HDD.out, HDA.out, HDB.out])) most
      rw [e1] at hrn
      have HFN := Lib.hid hfc
      have HRN := Lib.hid hrn
      have C := Lib.hid (use_ep (k := k) (v := u.b) (g := v.b) HK.out.sp HSB.out H0.out HRI.out.srt (HRI.out.big (by omega)) HRI.out.len (HBD.out.2.1 rfl))
      generalize r1.use u.b v.b k = r2 at *
      clear hfc hrn e1 HFC HRI
      have i2 := HX.out.i.cell 2; have i3 := HX.out.i.cell 3
      have j2 := HX.out.j.cell 2; have j3 := HX.out.j.cell 3
      have o1 := HX.out.o.cell 1; have o2 := HX.out.o.cell 2
      simp only [List.getElem?_toArray, List.getElem?_cons_zero, List.getElem?_cons_succ] at i2 i3 j2 j3 o1 o2
      go_wp2_with fail
      refine C.out.mono ?_
      rintro e W2 ⟨hM, h⟩
      rcases h with ⟨he0, rfl, hS2⟩ | ⟨he, rfl, hR9, hb9⟩
      · obtain ⟨A1, c1, hr2, hp2⟩ := hS2
        have HK2 : Hid (LX w0 W sb most r2 A1 c1 W2) := ⟨hr2, hp2, HK.out.md.trans hM⟩
        have HX2 := Lib.hid (HX.out.mods hM)
        have HE0 := Lib.hid he0
        clear hM hr2 hp2 he0 C i2 i3 j2 j3 o1 o2 H0 HK HX
        obtain ⟨W1, hW1⟩ : ∃ z, z = W2 := ⟨_, rfl⟩
        obtain ⟨r1, hr1⟩ : ∃ z, z = r2 := ⟨_, rfl⟩
        subst hW1 hr1
        have HK := HK2
        have HX := HX2
        have H0 := HE0
        have HFC := HFN
        have HRI := HRN
        clear HK2 HX2 HE0 HFN HRN
        cases dd
        · have hfc := HFC.out
          simp only [Bool.false_eq_true, if_false, List.nil_append, foldE_nil] at hfc
          have HFN := Lib.hid hfc
          have o0 := HX.out.o.cell 0; have o1 := HX.out.o.cell 1; have o2 := HX.out.o.cell 2
          simp only [List.getElem?_toArray, List.getElem?_cons_zero, List.getElem?_cons_succ] at o0 o1 o2
          clear hfc HFC
          go_wp2
          first | go_end0 | refine bodyPost_ret (results_none rfl _ _ _) rfl ?_
          rw [← HFN.out]
          exact ⟨HK.out.md, .inl ⟨H0.out, rfl, HK.out.sp⟩⟩
        · have e1 : stepE most r1 (EOp.df u.d v.d k) = r1.grow (dfP r1.out u.d (2 * v.d)) most k := by unfold stepE; rw [if_pos H0.out]
          have hein := HIN.out (EOp.df u.d v.d k) (by simp [insOps, HDD.out])
          have hlen := (HRI.out.inn.set hein).len (set_srt HRI.out.srt _)
          have hfc := HFC.out
          simp only [if_true, foldE_cons, foldE_nil, e1] at hfc
          have HFN := Lib.hid hfc
          have hg := HBD.out.2.2 rfl
          have C1 : Hid (∀ V, LX w0 W sb most r1 A1 c1 V → Calls Tryz.prog 98 #[.slice A1 r1.out.length c1, .int .i64 u.d, .int .i64 (2 * v.d)] V fun e w' => ∃ A9 n9 c9, e = .returned (.slice A9 n9 c9) ∧ PL w0 (.slice A9 n9 c9) (dfP r1.out u.d (2 * v.d)) w' ∧ Below V.heap.size V w') := fun V h =>
            (tdefine_any V.heap.size A1 r1.out c1 u.d (2 * v.d) V h.pl.sees (Nat.le_refl _) (by have := HRI.out.len; omega) HRI.out.srt).mono fun e w' ⟨x, he, hP⟩ => by
              obtain ⟨A9, c9, rfl, _, _⟩ := hP.slice
              exact ⟨A9, _, c9, he, hP.base h.pl.blw, hP.blw⟩
          have C2 : Hid (∀ V A9 n9 c9, LX w0 W sb most r1 A1 c1 V → PL w0 (.slice A9 n9 c9) (dfP r1.out u.d (2 * v.d)) V → Calls Tryz.prog 94 #[.pointer (some ⟨sb, 0, none⟩), .slice A9 n9 c9, .int .i64 (k : Int)] V (EP w0 sb most (r1.grow (dfP r1.out u.d (2 * v.d)) most k) V)) := fun V A9 n9 c9 h hP =>
            become_ep h.sp HSB.out H0.out hP (HRI.out.big (by omega)) HRI.out.len (Nat.le_trans hlen hRL) HRI.out.lar
          have CR := Lib.hid fun V => bcreg_at v.d V hg
          generalize r1.grow (dfP r1.out u.d (2 * v.d)) most k = r2 at *
          have HT1 : Hid (W1.cell? ⟨ib, 1, none⟩ = some (.int .i64 u.d) ∧ W1.cell? ⟨jb, 1, none⟩ = some (.int .i64 v.d)) := ⟨HX.out.i.cell 1, HX.out.j.cell 1⟩
          have HTB : Hid (∀ V, Below W1.heap.size W1 V ∨ Mods (Is sb) W1 V → V.cell? ⟨ib, 1, none⟩ = W1.cell? ⟨ib, 1, none⟩) := fun V h => far_cell HX.out.i.lt HX.out.ni h
          have HTC : Hid (∀ V, Below W1.heap.size W1 V ∨ Mods (Is sb) W1 V → V.cell? ⟨jb, 1, none⟩ = W1.cell? ⟨jb, 1, none⟩) := fun V h => far_cell HX.out.j.lt HX.out.nj h
          have o0 := HX.out.o.cell 0; have o1 := HX.out.o.cell 1; have o2 := HX.out.o.cell 2
          simp only [List.getElem?_toArray, List.getElem?_cons_zero, List.getElem?_cons_succ] at o0 o1 o2
          generalize u.d = ud at *
          generalize v.d = vd at *
          clear hfc e1 hein hlen HFC
          go_upto_region 7 with fail
          clear o0 o1 o2 HX
          as_aux_lemma =>
            have HSC : Hid (∀ V, Below W1.heap.size W1 V ∨ Mods (Is sb) W1 V → V.cell? ⟨ib, 1, none⟩ = some (.int .i64 ud) ∧ V.cell? ⟨jb, 1, none⟩ = some (.int .i64 vd)) := fun V h => ⟨(HTB.out V h).trans HT1.out.1, (HTC.out V h).trans HT1.out.2⟩
            have HKA := Lib.hid (HK.out.next (Below.refl _ W1).drew)
            have HWA : Hid (Mods (Is sb) W1 W1.drew) := (Mods.refl _ W1).drew
            go_wp2_with fail
            refine wp_region_held_drew (S := fun w' => w'.cell? ⟨ib, 1, none⟩ = some (.int .i64 ud) ∧ w'.cell? ⟨jb, 1, none⟩ = some (.int .i64 vd)) (by kernel_rfl) (HSC.out _ (.inr HWA.out)) (fun hHeld => ?_)
            generalize W1.drew = V0 at *
            clear HK
            have HK0 := Lib.hid HKA.out
            have HW0 := Lib.hid HWA.out
            clear HKA HWA
            refine take_at 0 36 (.pointer (some ⟨sb, 0, none⟩)) rfl rfl (by kernel_rfl) (by kernel_rfl) (by kernel_rfl) (fun _ _ _ h => h) (Or.inl ⟨by rfl, ?_⟩) hHeld ?_
            · intro w9 hSw
              (try dsimp only at hSw)
              go_simp
              all_goals (first | (intro h9; omega) | omega | (rw [IntKind.wrap_i64]; omega))
            (try simp only [Act.put, List.setIfInBounds_toArray, List.set_cons_zero, List.set_cons_succ])
            refine take_at 1 37 (.pointer (some ⟨sb, 0, none⟩)) rfl rfl (by kernel_rfl) (by kernel_rfl) (by kernel_rfl) (fun _ _ _ h => h) (Or.inl ⟨by rfl, ?_⟩) hHeld ?_
            · intro w9 hSw
              (try dsimp only at hSw)
              go_simp
              all_goals (first | (intro h9; omega) | omega | (rw [IntKind.wrap_i64]; omega))
            (try simp only [Act.put, List.setIfInBounds_toArray, List.set_cons_zero, List.set_cons_succ])
            refine take_at 2 38 (.pointer (some ⟨sb, 0, none⟩)) rfl rfl (by kernel_rfl) (by kernel_rfl) (by kernel_rfl) (fun _ _ _ h => h) (Or.inl ⟨by rfl, ?_⟩) hHeld ?_
            · intro w9 hSw
              (try dsimp only at hSw)
              go_simp
              all_goals (first | (intro h9; omega) | omega | (rw [IntKind.wrap_i64]; omega))
            (try simp only [Act.put, List.setIfInBounds_toArray, List.set_cons_zero, List.set_cons_succ])
            refine take_at 3 39 (.pointer (some ⟨sb, 0, none⟩)) rfl rfl (by kernel_rfl) (by kernel_rfl) (by kernel_rfl) (fun _ _ _ h => h) (Or.inl ⟨by rfl, ?_⟩) hHeld ?_
            · intro w9 hSw
              (try dsimp only at hSw)
              go_simp
              all_goals (first | (intro h9; omega) | omega | (rw [IntKind.wrap_i64]; omega))
            (try simp only [Act.put, List.setIfInBounds_toArray, List.set_cons_zero, List.set_cons_succ])
            refine take_at 5 41 (.pointer (some ⟨ib, 1, none⟩)) rfl rfl (by kernel_rfl) (by kernel_rfl) (by kernel_rfl) (fun _ _ _ h => h) (Or.inl ⟨by rfl, ?_⟩) hHeld ?_
            · intro w9 hSw
              (try dsimp only at hSw)
              go_simp
              all_goals (first | (intro h9; omega) | omega | (rw [IntKind.wrap_i64]; omega))
            (try simp only [Act.put, List.setIfInBounds_toArray, List.set_cons_zero, List.set_cons_succ])
            refine take_at 6 42 (.int .i64 ud) rfl rfl (by kernel_rfl) (by kernel_rfl) (by kernel_rfl) (fun _ _ _ h => h) (Or.inl ⟨by rfl, ?_⟩) hHeld ?_
            · intro w9 hSw
              (try dsimp only at hSw)
              go_simp
              all_goals (first | (intro h9; omega) | omega | (rw [IntKind.wrap_i64]; omega))
            (try simp only [Act.put, List.setIfInBounds_toArray, List.set_cons_zero, List.set_cons_succ])
            refine take_at 7 43 (.pointer (some ⟨jb, 1, none⟩)) rfl rfl (by kernel_rfl) (by kernel_rfl) (by kernel_rfl) (fun _ _ _ h => h) (Or.inl ⟨by rfl, ?_⟩) hHeld ?_
            · intro w9 hSw
              (try dsimp only at hSw)
              go_simp
              all_goals (first | (intro h9; omega) | omega | (rw [IntKind.wrap_i64]; omega))
            (try simp only [Act.put, List.setIfInBounds_toArray, List.set_cons_zero, List.set_cons_succ])
            refine take_at 8 44 (.int .i64 vd) rfl rfl (by kernel_rfl) (by kernel_rfl) (by kernel_rfl) (fun _ _ _ h => h) (Or.inl ⟨by rfl, ?_⟩) hHeld ?_
            · intro w9 hSw
              (try dsimp only at hSw)
              go_simp
              all_goals (first | (intro h9; omega) | omega | (rw [IntKind.wrap_i64]; omega))
            (try simp only [Act.put, List.setIfInBounds_toArray, List.set_cons_zero, List.set_cons_succ])
            refine take_at 11 47 (.int .i64 (k : Int)) rfl rfl (by kernel_rfl) (by kernel_rfl) (by kernel_rfl) (fun _ _ _ h => h) (Or.inl ⟨by rfl, ?_⟩) hHeld ?_
            · intro w9 hSw
              (try dsimp only at hSw)
              go_simp
              all_goals (first | (intro h9; omega) | omega | (rw [IntKind.wrap_i64]; omega))
            (try simp only [Act.put, List.setIfInBounds_toArray, List.set_cons_zero, List.set_cons_succ])
            refine wpAnyH_ready (rs := [4, 9]) (by kernel_rfl) (by simp) ?_
            refine AllReadyH.cons rfl (fun K hK => ?_) ?_
            · have f0 := HK0.out.row.cell 0
              simp only [List.getElem?_toArray, List.getElem?_cons_zero] at f0
              go_simp
              refine hK.out _ _ (HSC.out _ (.inr HW0.out)) (fun hHeld => ?_)
              clear hK K f0
              refine wpAnyH_ready (rs := [9]) (by kernel_rfl) (by simp) ?_
              refine AllReadyH.cons rfl (fun K hK => ?_) ?_
              · go_simp
                refine (CR.out _).mono ?_
                rintro e V1 ⟨rfl, hG⟩
                (try go_wp2_with fail)
                have HK1 := Lib.hid (HK0.out.next hG.below)
                have HW1 := Lib.hid (HW0.out.trans (Mods.of_below hG.below))
                clear hG HK0 HW0
                refine hK.out _ _ (HSC.out _ (.inr HW1.out)) (fun hHeld => ?_)
                clear hK K
                refine wpAnyH_ready (rs := [10]) (by kernel_rfl) (by simp) ?_
                refine AllReadyH.cons rfl (fun K hK => ?_) ?_
                · go_simp
                  refine (C1.out _ HK1.out).mono ?_
                  rintro e V2 ⟨A9, n9, c9, rfl, hP, hG⟩
                  (try go_wp2_with fail)
                  have HK2 := Lib.hid (HK1.out.next hG)
                  have HW2 := Lib.hid (HW1.out.trans (Mods.of_below hG))
                  have HP9 := Lib.hid hP
                  clear hP
                  clear hG HK1 HW1
                  refine hK.out _ _ (HSC.out _ (.inr HW2.out)) (fun hHeld => ?_)
                  clear hK K
                  refine wpAnyH_ready (rs := [12]) (by kernel_rfl) (by simp) ?_
                  refine AllReadyH.cons rfl (fun K hK => ?_) ?_
                  · go_simp
                    refine (C2.out _ _ _ _ HK2.out HP9.out).mono ?_
                    rintro e V9 ⟨hM, h⟩
                    have HM9 := Lib.hid (HK2.out.md.trans hM)
                    have HW9 := Lib.hid (HW2.out.trans hM)
                    clear hM HK2 HP9
                    rcases h with ⟨he0, rfl, hS2⟩ | ⟨he, rfl, hR9, hb9⟩
                    · obtain ⟨A2, c2, hr2, hp2⟩ := hS2
                      have HK9 : Hid (LX _ _ _ _ _ A2 c2 V9) := ⟨hr2, hp2, HM9.out⟩
                      have HE0 := Lib.hid he0
                      clear he0 hr2 hp2 HM9
                      (try go_wp2_with fail)
                      refine hK.out _ _ (HSC.out _ (.inr HW9.out)) (fun hHeld => ?_)
                      clear hK K HW9 HW2
                      refine wpAnyH_done (by kernel_rfl) ?_ _
                      clear hHeld
                      go_wp2_with fail
                      first | go_end0 | refine bodyPost_ret (results_none rfl _ _ _) rfl ?_
                      rw [← HFN.out]
                      exact ⟨HK9.out.md, .inl ⟨HE0.out, rfl, HK9.out.sp⟩⟩
                    · have HE := Lib.hid he
                      have HR9 := Lib.hid hR9
                      have HB9 := Lib.hid hb9
                      clear he hR9 hb9 hK hHeld HW9 HW2
                      rw [← HFN.out]
                      exact ⟨rfl, HM9.out, .inr ⟨HE.out, rfl, HR9.out, HB9.out⟩⟩
                  exact AllReadyH.nil
                exact AllReadyH.nil
              exact AllReadyH.nil
            refine AllReadyH.cons rfl (fun K hK => ?_) ?_
            · go_simp
              refine (CR.out _).mono ?_
              rintro e V1 ⟨rfl, hG⟩
              (try go_wp2_with fail)
              have HK1 := Lib.hid (HK0.out.next hG.below)
              have HW1 := Lib.hid (HW0.out.trans (Mods.of_below hG.below))
              clear hG HK0 HW0
              refine hK.out _ _ (HSC.out _ (.inr HW1.out)) (fun hHeld => ?_)
              clear hK K
              refine wpAnyH_ready (rs := [4]) (by kernel_rfl) (by simp) ?_
              refine AllReadyH.cons rfl (fun K hK => ?_) ?_
              · have f0 := HK1.out.row.cell 0
                simp only [List.getElem?_toArray, List.getElem?_cons_zero] at f0
                go_simp
                refine hK.out _ _ (HSC.out _ (.inr HW1.out)) (fun hHeld => ?_)
                clear hK K f0
                refine wpAnyH_ready (rs := [10]) (by kernel_rfl) (by simp) ?_
                refine AllReadyH.cons rfl (fun K hK => ?_) ?_
                · go_simp
                  refine (C1.out _ HK1.out).mono ?_
                  rintro e V2 ⟨A9, n9, c9, rfl, hP, hG⟩
                  (try go_wp2_with fail)
                  have HK2 := Lib.hid (HK1.out.next hG)
                  have HW2 := Lib.hid (HW1.out.trans (Mods.of_below hG))
                  have HP9 := Lib.hid hP
                  clear hP
                  clear hG HK1 HW1
                  refine hK.out _ _ (HSC.out _ (.inr HW2.out)) (fun hHeld => ?_)
                  clear hK K
                  refine wpAnyH_ready (rs := [12]) (by kernel_rfl) (by simp) ?_
                  refine AllReadyH.cons rfl (fun K hK => ?_) ?_
                  · go_simp
                    refine (C2.out _ _ _ _ HK2.out HP9.out).mono ?_
                    rintro e V9 ⟨hM, h⟩
                    have HM9 := Lib.hid (HK2.out.md.trans hM)
                    have HW9 := Lib.hid (HW2.out.trans hM)
                    clear hM HK2 HP9
                    rcases h with ⟨he0, rfl, hS2⟩ | ⟨he, rfl, hR9, hb9⟩
                    · obtain ⟨A2, c2, hr2, hp2⟩ := hS2
                      have HK9 : Hid (LX _ _ _ _ _ A2 c2 V9) := ⟨hr2, hp2, HM9.out⟩
                      have HE0 := Lib.hid he0
                      clear he0 hr2 hp2 HM9
                      (try go_wp2_with fail)
                      refine hK.out _ _ (HSC.out _ (.inr HW9.out)) (fun hHeld => ?_)
                      clear hK K HW9 HW2
                      refine wpAnyH_done (by kernel_rfl) ?_ _
                      clear hHeld
                      go_wp2_with fail
                      first | go_end0 | refine bodyPost_ret (results_none rfl _ _ _) rfl ?_
                      rw [← HFN.out]
                      exact ⟨HK9.out.md, .inl ⟨HE0.out, rfl, HK9.out.sp⟩⟩
                    · have HE := Lib.hid he
                      have HR9 := Lib.hid hR9
                      have HB9 := Lib.hid hb9
                      clear he hR9 hb9 hK hHeld HW9 HW2
                      rw [← HFN.out]
                      exact ⟨rfl, HM9.out, .inr ⟨HE.out, rfl, HR9.out, HB9.out⟩⟩
                  exact AllReadyH.nil
                exact AllReadyH.nil
              exact AllReadyH.nil
            exact AllReadyH.nil
      · have HM9 := Lib.hid (HK.out.md.trans hM)
        have HE := Lib.hid he
        have HR9 := Lib.hid hR9
        have HB9 := Lib.hid hb9
        clear hM he hR9 hb9 C i2 i3 j2 j3 o1 o2
        go_wp2
        have hfe : RC = r2 := by rw [← HFN.out]; exact foldE_err HE.out _
        exact ⟨rfl, HM9.out, .inr ⟨by rw [hfe]; exact HE.out, by rw [hfe], by rw [hfe]; exact HR9.out, HB9.out⟩⟩
  · simp only [if_true] at HFC
    have e1 : stepE most r1 (EOp.us u.a v.a k) = r1.use u.a v.a k := by unfold stepE; rw [if_pos H0.out]
    have hfc := HFC.out
    rw [show (([EOp.us u.a v.a k] : List EOp) ++ ((if db = true then [EOp.us u.b v.b k] else []) ++ if dd = true then [EOp.df u.d v.d k] else [])) = EOp.us u.a v.a k :: (((if db = true then [EOp.us u.b v.b k] else []) ++ if dd = true then [EOp.df u.d v.d k] else [])) from rfl, foldE_cons, e1] at hfc
    have hrn := HRI.out.step hRL (HIN.out (EOp.us u.a v.a k) (by simp [insOps, HDD.out, HDA.out, HDB.out])) most
    rw [e1] at hrn
    have HFN := Lib.hid hfc
    have HRN := Lib.hid hrn
    have C := Lib.hid (use_ep (k := k) (v := u.a) (g := v.a) HK.out.sp HSB.out H0.out HRI.out.srt (HRI.out.big (by omega)) HRI.out.len (HBD.out.1 rfl))
    generalize r1.use u.a v.a k = r2 at *
    clear hfc hrn e1 HFC HRI
    have i2 := HX.out.i.cell 2; have i3 := HX.out.i.cell 3
    have j2 := HX.out.j.cell 2; have j3 := HX.out.j.cell 3
    have o1 := HX.out.o.cell 1; have o2 := HX.out.o.cell 2
    simp only [List.getElem?_toArray, List.getElem?_cons_zero, List.getElem?_cons_succ] at i2 i3 j2 j3 o1 o2
    go_wp2_with fail
    refine C.out.mono ?_
    rintro e W2 ⟨hM, h⟩
    rcases h with ⟨he0, rfl, hS2⟩ | ⟨he, rfl, hR9, hb9⟩
    · obtain ⟨A1, c1, hr2, hp2⟩ := hS2
      have HK2 : Hid (LX w0 W sb most r2 A1 c1 W2) := ⟨hr2, hp2, HK.out.md.trans hM⟩
      have HX2 := Lib.hid (HX.out.mods hM)
      have HE0 := Lib.hid he0
      clear hM hr2 hp2 he0 C i2 i3 j2 j3 o1 o2 H0 HK HX
      obtain ⟨W1, hW1⟩ : ∃ z, z = W2 := ⟨_, rfl⟩
      obtain ⟨r1, hr1⟩ : ∃ z, z = r2 := ⟨_, rfl⟩
      subst hW1 hr1
      have HK := HK2
      have HX := HX2
      have H0 := HE0
      have HFC := HFN
      have HRI := HRN
      clear HK2 HX2 HE0 HFN HRN
      cases db
      · have hfc := HFC.out
        simp only [Bool.false_eq_true, if_false, List.nil_append] at hfc
        have HFD := Lib.hid hfc
        clear hfc HFC
        have HFC := HFD
        clear HFD
        cases dd
        · have hfc := HFC.out
          simp only [Bool.false_eq_true, if_false, List.nil_append, foldE_nil] at hfc
          have HFN := Lib.hid hfc
          have o0 := HX.out.o.cell 0; have o1 := HX.out.o.cell 1; have o2 := HX.out.o.cell 2
          simp only [List.getElem?_toArray, List.getElem?_cons_zero, List.getElem?_cons_succ] at o0 o1 o2
          clear hfc HFC
          go_wp2
          first | go_end0 | refine bodyPost_ret (results_none rfl _ _ _) rfl ?_
          rw [← HFN.out]
          exact ⟨HK.out.md, .inl ⟨H0.out, rfl, HK.out.sp⟩⟩
        · have e1 : stepE most r1 (EOp.df u.d v.d k) = r1.grow (dfP r1.out u.d (2 * v.d)) most k := by unfold stepE; rw [if_pos H0.out]
          have hein := HIN.out (EOp.df u.d v.d k) (by simp [insOps, HDD.out])
          have hlen := (HRI.out.inn.set hein).len (set_srt HRI.out.srt _)
          have hfc := HFC.out
          simp only [if_true, foldE_cons, foldE_nil, e1] at hfc
          have HFN := Lib.hid hfc
          have hg := HBD.out.2.2 rfl
          have C1 : Hid (∀ V, LX w0 W sb most r1 A1 c1 V → Calls Tryz.prog 98 #[.slice A1 r1.out.length c1, .int .i64 u.d, .int .i64 (2 * v.d)] V fun e w' => ∃ A9 n9 c9, e = .returned (.slice A9 n9 c9) ∧ PL w0 (.slice A9 n9 c9) (dfP r1.out u.d (2 * v.d)) w' ∧ Below V.heap.size V w') := fun V h =>
            (tdefine_any V.heap.size A1 r1.out c1 u.d (2 * v.d) V h.pl.sees (Nat.le_refl _) (by have := HRI.out.len; omega) HRI.out.srt).mono fun e w' ⟨x, he, hP⟩ => by
              obtain ⟨A9, c9, rfl, _, _⟩ := hP.slice
              exact ⟨A9, _, c9, he, hP.base h.pl.blw, hP.blw⟩
          have C2 : Hid (∀ V A9 n9 c9, LX w0 W sb most r1 A1 c1 V → PL w0 (.slice A9 n9 c9) (dfP r1.out u.d (2 * v.d)) V → Calls Tryz.prog 94 #[.pointer (some ⟨sb, 0, none⟩), .slice A9 n9 c9, .int .i64 (k : Int)] V (EP w0 sb most (r1.grow (dfP r1.out u.d (2 * v.d)) most k) V)) := fun V A9 n9 c9 h hP =>
            become_ep h.sp HSB.out H0.out hP (HRI.out.big (by omega)) HRI.out.len (Nat.le_trans hlen hRL) HRI.out.lar
          have CR := Lib.hid fun V => bcreg_at v.d V hg
          generalize r1.grow (dfP r1.out u.d (2 * v.d)) most k = r2 at *
          have HT1 : Hid (W1.cell? ⟨ib, 1, none⟩ = some (.int .i64 u.d) ∧ W1.cell? ⟨jb, 1, none⟩ = some (.int .i64 v.d)) := ⟨HX.out.i.cell 1, HX.out.j.cell 1⟩
          have HTB : Hid (∀ V, Below W1.heap.size W1 V ∨ Mods (Is sb) W1 V → V.cell? ⟨ib, 1, none⟩ = W1.cell? ⟨ib, 1, none⟩) := fun V h => far_cell HX.out.i.lt HX.out.ni h
          have HTC : Hid (∀ V, Below W1.heap.size W1 V ∨ Mods (Is sb) W1 V → V.cell? ⟨jb, 1, none⟩ = W1.cell? ⟨jb, 1, none⟩) := fun V h => far_cell HX.out.j.lt HX.out.nj h
          have o0 := HX.out.o.cell 0; have o1 := HX.out.o.cell 1; have o2 := HX.out.o.cell 2
          simp only [List.getElem?_toArray, List.getElem?_cons_zero, List.getElem?_cons_succ] at o0 o1 o2
          generalize u.d = ud at *
          generalize v.d = vd at *
          clear hfc e1 hein hlen HFC
          go_upto_region 7 with fail
          clear o0 o1 o2 HX
          as_aux_lemma =>
            have HSC : Hid (∀ V, Below W1.heap.size W1 V ∨ Mods (Is sb) W1 V → V.cell? ⟨ib, 1, none⟩ = some (.int .i64 ud) ∧ V.cell? ⟨jb, 1, none⟩ = some (.int .i64 vd)) := fun V h => ⟨(HTB.out V h).trans HT1.out.1, (HTC.out V h).trans HT1.out.2⟩
            have HKA := Lib.hid (HK.out.next (Below.refl _ W1).drew)
            have HWA : Hid (Mods (Is sb) W1 W1.drew) := (Mods.refl _ W1).drew
            go_wp2_with fail
            refine wp_region_held_drew (S := fun w' => w'.cell? ⟨ib, 1, none⟩ = some (.int .i64 ud) ∧ w'.cell? ⟨jb, 1, none⟩ = some (.int .i64 vd)) (by kernel_rfl) (HSC.out _ (.inr HWA.out)) (fun hHeld => ?_)
            generalize W1.drew = V0 at *
            clear HK
            have HK0 := Lib.hid HKA.out
            have HW0 := Lib.hid HWA.out
            clear HKA HWA
            refine take_at 0 36 (.pointer (some ⟨sb, 0, none⟩)) rfl rfl (by kernel_rfl) (by kernel_rfl) (by kernel_rfl) (fun _ _ _ h => h) (Or.inl ⟨by rfl, ?_⟩) hHeld ?_
            · intro w9 hSw
              (try dsimp only at hSw)
              go_simp
              all_goals (first | (intro h9; omega) | omega | (rw [IntKind.wrap_i64]; omega))
            (try simp only [Act.put, List.setIfInBounds_toArray, List.set_cons_zero, List.set_cons_succ])
            refine take_at 1 37 (.pointer (some ⟨sb, 0, none⟩)) rfl rfl (by kernel_rfl) (by kernel_rfl) (by kernel_rfl) (fun _ _ _ h => h) (Or.inl ⟨by rfl, ?_⟩) hHeld ?_
            · intro w9 hSw
              (try dsimp only at hSw)
              go_simp
              all_goals (first | (intro h9; omega) | omega | (rw [IntKind.wrap_i64]; omega))
            (try simp only [Act.put, List.setIfInBounds_toArray, List.set_cons_zero, List.set_cons_succ])
            refine take_at 2 38 (.pointer (some ⟨sb, 0, none⟩)) rfl rfl (by kernel_rfl) (by kernel_rfl) (by kernel_rfl) (fun _ _ _ h => h) (Or.inl ⟨by rfl, ?_⟩) hHeld ?_
            · intro w9 hSw
              (try dsimp only at hSw)
              go_simp
              all_goals (first | (intro h9; omega) | omega | (rw [IntKind.wrap_i64]; omega))
            (try simp only [Act.put, List.setIfInBounds_toArray, List.set_cons_zero, List.set_cons_succ])
            refine take_at 3 39 (.pointer (some ⟨sb, 0, none⟩)) rfl rfl (by kernel_rfl) (by kernel_rfl) (by kernel_rfl) (fun _ _ _ h => h) (Or.inl ⟨by rfl, ?_⟩) hHeld ?_
            · intro w9 hSw
              (try dsimp only at hSw)
              go_simp
              all_goals (first | (intro h9; omega) | omega | (rw [IntKind.wrap_i64]; omega))
            (try simp only [Act.put, List.setIfInBounds_toArray, List.set_cons_zero, List.set_cons_succ])
            refine take_at 5 41 (.pointer (some ⟨ib, 1, none⟩)) rfl rfl (by kernel_rfl) (by kernel_rfl) (by kernel_rfl) (fun _ _ _ h => h) (Or.inl ⟨by rfl, ?_⟩) hHeld ?_
            · intro w9 hSw
              (try dsimp only at hSw)
              go_simp
              all_goals (first | (intro h9; omega) | omega | (rw [IntKind.wrap_i64]; omega))
            (try simp only [Act.put, List.setIfInBounds_toArray, List.set_cons_zero, List.set_cons_succ])
            refine take_at 6 42 (.int .i64 ud) rfl rfl (by kernel_rfl) (by kernel_rfl) (by kernel_rfl) (fun _ _ _ h => h) (Or.inl ⟨by rfl, ?_⟩) hHeld ?_
            · intro w9 hSw
              (try dsimp only at hSw)
              go_simp
              all_goals (first | (intro h9; omega) | omega | (rw [IntKind.wrap_i64]; omega))
            (try simp only [Act.put, List.setIfInBounds_toArray, List.set_cons_zero, List.set_cons_succ])
            refine take_at 7 43 (.pointer (some ⟨jb, 1, none⟩)) rfl rfl (by kernel_rfl) (by kernel_rfl) (by kernel_rfl) (fun _ _ _ h => h) (Or.inl ⟨by rfl, ?_⟩) hHeld ?_
            · intro w9 hSw
              (try dsimp only at hSw)
              go_simp
              all_goals (first | (intro h9; omega) | omega | (rw [IntKind.wrap_i64]; omega))
            (try simp only [Act.put, List.setIfInBounds_toArray, List.set_cons_zero, List.set_cons_succ])
            refine take_at 8 44 (.int .i64 vd) rfl rfl (by kernel_rfl) (by kernel_rfl) (by kernel_rfl) (fun _ _ _ h => h) (Or.inl ⟨by rfl, ?_⟩) hHeld ?_
            · intro w9 hSw
              (try dsimp only at hSw)
              go_simp
              all_goals (first | (intro h9; omega) | omega | (rw [IntKind.wrap_i64]; omega))
            (try simp only [Act.put, List.setIfInBounds_toArray, List.set_cons_zero, List.set_cons_succ])
            refine take_at 11 47 (.int .i64 (k : Int)) rfl rfl (by kernel_rfl) (by kernel_rfl) (by kernel_rfl) (fun _ _ _ h => h) (Or.inl ⟨by rfl, ?_⟩) hHeld ?_
            · intro w9 hSw
              (try dsimp only at hSw)
              go_simp
              all_goals (first | (intro h9; omega) | omega | (rw [IntKind.wrap_i64]; omega))
            (try simp only [Act.put, List.setIfInBounds_toArray, List.set_cons_zero, List.set_cons_succ])
            refine wpAnyH_ready (rs := [4, 9]) (by kernel_rfl) (by simp) ?_
            refine AllReadyH.cons rfl (fun K hK => ?_) ?_
            · have f0 := HK0.out.row.cell 0
              simp only [List.getElem?_toArray, List.getElem?_cons_zero] at f0
              go_simp
              refine hK.out _ _ (HSC.out _ (.inr HW0.out)) (fun hHeld => ?_)
              clear hK K f0
              refine wpAnyH_ready (rs := [9]) (by kernel_rfl) (by simp) ?_
              refine AllReadyH.cons rfl (fun K hK => ?_) ?_
              · go_simp
                refine (CR.out _).mono ?_
                rintro e V1 ⟨rfl, hG⟩
                (try go_wp2_with fail)
                have HK1 := Lib.hid (HK0.out.next hG.below)
                have HW1 := Lib.hid (HW0.out.trans (Mods.of_below hG.below))
                clear hG HK0 HW0
                refine hK.out _ _ (HSC.out _ (.inr HW1.out)) (fun hHeld => ?_)
                clear hK K
                refine wpAnyH_ready (rs := [10]) (by kernel_rfl) (by simp) ?_
                refine AllReadyH.cons rfl (fun K hK => ?_) ?_
                · go_simp
                  refine (C1.out _ HK1.out).mono ?_
                  rintro e V2 ⟨A9, n9, c9, rfl, hP, hG⟩
                  (try go_wp2_with fail)
                  have HK2 := Lib.hid (HK1.out.next hG)
                  have HW2 := Lib.hid (HW1.out.trans (Mods.of_below hG))
                  have HP9 := Lib.hid hP
                  clear hP
                  clear hG HK1 HW1
                  refine hK.out _ _ (HSC.out _ (.inr HW2.out)) (fun hHeld => ?_)
                  clear hK K
                  refine wpAnyH_ready (rs := [12]) (by kernel_rfl) (by simp) ?_
                  refine AllReadyH.cons rfl (fun K hK => ?_) ?_
                  · go_simp
                    refine (C2.out _ _ _ _ HK2.out HP9.out).mono ?_
                    rintro e V9 ⟨hM, h⟩
                    have HM9 := Lib.hid (HK2.out.md.trans hM)
                    have HW9 := Lib.hid (HW2.out.trans hM)
                    clear hM HK2 HP9
                    rcases h with ⟨he0, rfl, hS2⟩ | ⟨he, rfl, hR9, hb9⟩
                    · obtain ⟨A2, c2, hr2, hp2⟩ := hS2
                      have HK9 : Hid (LX _ _ _ _ _ A2 c2 V9) := ⟨hr2, hp2, HM9.out⟩
                      have HE0 := Lib.hid he0
                      clear he0 hr2 hp2 HM9
                      (try go_wp2_with fail)
                      refine hK.out _ _ (HSC.out _ (.inr HW9.out)) (fun hHeld => ?_)
                      clear hK K HW9 HW2
                      refine wpAnyH_done (by kernel_rfl) ?_ _
                      clear hHeld
                      go_wp2_with fail
                      first | go_end0 | refine bodyPost_ret (results_none rfl _ _ _) rfl ?_
                      rw [← HFN.out]
                      exact ⟨HK9.out.md, .inl ⟨HE0.out, rfl, HK9.out.sp⟩⟩
                    · have HE := Lib.hid he
                      have HR9 := Lib.hid hR9
                      have HB9 := Lib.hid hb9
                      clear he hR9 hb9 hK hHeld HW9 HW2
                      rw [← HFN.out]
                      exact ⟨rfl, HM9.out, .inr ⟨HE.out, rfl, HR9.out, HB9.out⟩⟩
                  exact AllReadyH.nil
                exact AllReadyH.nil
              exact AllReadyH.nil
            refine AllReadyH.cons rfl (fun K hK => ?_) ?_
            · go_simp
              refine (CR.out _).mono ?_
              rintro e V1 ⟨rfl, hG⟩
              (try go_wp2_with fail)
              have HK1 := Lib.hid (HK0.out.next hG.below)
              have HW1 := Lib.hid (HW0.out.trans (Mods.of_below hG.below))
              clear hG HK0 HW0
              refine hK.out _ _ (HSC.out _ (.inr HW1.out)) (fun hHeld => ?_)
              clear hK K
              refine wpAnyH_ready (rs := [4]) (by kernel_rfl) (by simp) ?_
              refine AllReadyH.cons rfl (fun K hK => ?_) ?_
              · have f0 := HK1.out.row.cell 0
                simp only [List.getElem?_toArray, List.getElem?_cons_zero] at f0
                go_simp
                refine hK.out _ _ (HSC.out _ (.inr HW1.out)) (fun hHeld => ?_)
                clear hK K f0
                refine wpAnyH_ready (rs := [10]) (by kernel_rfl) (by simp) ?_
                refine AllReadyH.cons rfl (fun K hK => ?_) ?_
                · go_simp
                  refine (C1.out _ HK1.out).mono ?_
                  rintro e V2 ⟨A9, n9, c9, rfl, hP, hG⟩
                  (try go_wp2_with fail)
                  have HK2 := Lib.hid (HK1.out.next hG)
                  have HW2 := Lib.hid (HW1.out.trans (Mods.of_below hG))
                  have HP9 := Lib.hid hP
                  clear hP
                  clear hG HK1 HW1
                  refine hK.out _ _ (HSC.out _ (.inr HW2.out)) (fun hHeld => ?_)
                  clear hK K
                  refine wpAnyH_ready (rs := [12]) (by kernel_rfl) (by simp) ?_
                  refine AllReadyH.cons rfl (fun K hK => ?_) ?_
                  · go_simp
                    refine (C2.out _ _ _ _ HK2.out HP9.out).mono ?_
                    rintro e V9 ⟨hM, h⟩
                    have HM9 := Lib.hid (HK2.out.md.trans hM)
                    have HW9 := Lib.hid (HW2.out.trans hM)
                    clear hM HK2 HP9
                    rcases h with ⟨he0, rfl, hS2⟩ | ⟨he, rfl, hR9, hb9⟩
                    · obtain ⟨A2, c2, hr2, hp2⟩ := hS2
                      have HK9 : Hid (LX _ _ _ _ _ A2 c2 V9) := ⟨hr2, hp2, HM9.out⟩
                      have HE0 := Lib.hid he0
                      clear he0 hr2 hp2 HM9
                      (try go_wp2_with fail)
                      refine hK.out _ _ (HSC.out _ (.inr HW9.out)) (fun hHeld => ?_)
                      clear hK K HW9 HW2
                      refine wpAnyH_done (by kernel_rfl) ?_ _
                      clear hHeld
                      go_wp2_with fail
                      first | go_end0 | refine bodyPost_ret (results_none rfl _ _ _) rfl ?_
                      rw [← HFN.out]
                      exact ⟨HK9.out.md, .inl ⟨HE0.out, rfl, HK9.out.sp⟩⟩
                    · have HE := Lib.hid he
                      have HR9 := Lib.hid hR9
                      have HB9 := Lib.hid hb9
                      clear he hR9 hb9 hK hHeld HW9 HW2
                      rw [← HFN.out]
                      exact ⟨rfl, HM9.out, .inr ⟨HE.out, rfl, HR9.out, HB9.out⟩⟩
                  exact AllReadyH.nil
                exact AllReadyH.nil
              exact AllReadyH.nil
            exact AllReadyH.nil
      · simp only [if_true] at HFC
        have e1 : stepE most r1 (EOp.us u.b v.b k) = r1.use u.b v.b k := by unfold stepE; rw [if_pos H0.out]
        have hfc := HFC.out
        rw [show (([EOp.us u.b v.b k] : List EOp) ++ (if dd = true then [EOp.df u.d v.d k] else [])) = EOp.us u.b v.b k :: ((if dd = true then [EOp.df u.d v.d k] else [])) from rfl, foldE_cons, e1] at hfc
        have hrn := HRI.out.step hRL (HIN.out (EOp.us u.b v.b k) (by simp [insOps, HDD.out, HDA.out, HDB.out])) most
        rw [e1] at hrn
        have HFN := Lib.hid hfc
        have HRN := Lib.hid hrn
        have C := Lib.hid (use_ep (k := k) (v := u.b) (g := v.b) HK.out.sp HSB.out H0.out HRI.out.srt (HRI.out.big (by omega)) HRI.out.len (HBD.out.2.1 rfl))
        generalize r1.use u.b v.b k = r2 at *
        clear hfc hrn e1 HFC HRI
        have i2 := HX.out.i.cell 2; have i3 := HX.out.i.cell 3
        have j2 := HX.out.j.cell 2; have j3 := HX.out.j.cell 3
        have o1 := HX.out.o.cell 1; have o2 := HX.out.o.cell 2
        simp only [List.getElem?_toArray, List.getElem?_cons_zero, List.getElem?_cons_succ] at i2 i3 j2 j3 o1 o2
        go_wp2_with fail
        refine C.out.mono ?_
        rintro e W2 ⟨hM, h⟩
        rcases h with ⟨he0, rfl, hS2⟩ | ⟨he, rfl, hR9, hb9⟩
        · obtain ⟨A1, c1, hr2, hp2⟩ := hS2
          have HK2 : Hid (LX w0 W sb most r2 A1 c1 W2) := ⟨hr2, hp2, HK.out.md.trans hM⟩
          have HX2 := Lib.hid (HX.out.mods hM)
          have HE0 := Lib.hid he0
          clear hM hr2 hp2 he0 C i2 i3 j2 j3 o1 o2 H0 HK HX
          obtain ⟨W1, hW1⟩ : ∃ z, z = W2 := ⟨_, rfl⟩
          obtain ⟨r1, hr1⟩ : ∃ z, z = r2 := ⟨_, rfl⟩
          subst hW1 hr1
          have HK := HK2
          have HX := HX2
          have H0 := HE0
          have HFC := HFN
          have HRI := HRN
          clear HK2 HX2 HE0 HFN HRN
          cases dd
          · have hfc := HFC.out
            simp only [Bool.false_eq_true, if_false, List.nil_append, foldE_nil] at hfc
            have HFN := Lib.hid hfc
            have o0 := HX.out.o.cell 0; have o1 := HX.out.o.cell 1; have o2 := HX.out.o.cell 2
            simp only [List.getElem?_toArray, List.getElem?_cons_zero, List.getElem?_cons_succ] at o0 o1 o2
            clear hfc HFC
            go_wp2
            first | go_end0 | refine bodyPost_ret (results_none rfl _ _ _) rfl ?_
            rw [← HFN.out]
            exact ⟨HK.out.md, .inl ⟨H0.out, rfl, HK.out.sp⟩⟩
          · have e1 : stepE most r1 (EOp.df u.d v.d k) = r1.grow (dfP r1.out u.d (2 * v.d)) most k := by unfold stepE; rw [if_pos H0.out]
            have hein := HIN.out (EOp.df u.d v.d k) (by simp [insOps, HDD.out])
            have hlen := (HRI.out.inn.set hein).len (set_srt HRI.out.srt _)
            have hfc := HFC.out
            simp only [if_true, foldE_cons, foldE_nil, e1] at hfc
            have HFN := Lib.hid hfc
            have hg := HBD.out.2.2 rfl
            have C1 : Hid (∀ V, LX w0 W sb most r1 A1 c1 V → Calls Tryz.prog 98 #[.slice A1 r1.out.length c1, .int .i64 u.d, .int .i64 (2 * v.d)] V fun e w' => ∃ A9 n9 c9, e = .returned (.slice A9 n9 c9) ∧ PL w0 (.slice A9 n9 c9) (dfP r1.out u.d (2 * v.d)) w' ∧ Below V.heap.size V w') := fun V h =>
              (tdefine_any V.heap.size A1 r1.out c1 u.d (2 * v.d) V h.pl.sees (Nat.le_refl _) (by have := HRI.out.len; omega) HRI.out.srt).mono fun e w' ⟨x, he, hP⟩ => by
                obtain ⟨A9, c9, rfl, _, _⟩ := hP.slice
                exact ⟨A9, _, c9, he, hP.base h.pl.blw, hP.blw⟩
            have C2 : Hid (∀ V A9 n9 c9, LX w0 W sb most r1 A1 c1 V → PL w0 (.slice A9 n9 c9) (dfP r1.out u.d (2 * v.d)) V → Calls Tryz.prog 94 #[.pointer (some ⟨sb, 0, none⟩), .slice A9 n9 c9, .int .i64 (k : Int)] V (EP w0 sb most (r1.grow (dfP r1.out u.d (2 * v.d)) most k) V)) := fun V A9 n9 c9 h hP =>
              become_ep h.sp HSB.out H0.out hP (HRI.out.big (by omega)) HRI.out.len (Nat.le_trans hlen hRL) HRI.out.lar
            have CR := Lib.hid fun V => bcreg_at v.d V hg
            generalize r1.grow (dfP r1.out u.d (2 * v.d)) most k = r2 at *
            have HT1 : Hid (W1.cell? ⟨ib, 1, none⟩ = some (.int .i64 u.d) ∧ W1.cell? ⟨jb, 1, none⟩ = some (.int .i64 v.d)) := ⟨HX.out.i.cell 1, HX.out.j.cell 1⟩
            have HTB : Hid (∀ V, Below W1.heap.size W1 V ∨ Mods (Is sb) W1 V → V.cell? ⟨ib, 1, none⟩ = W1.cell? ⟨ib, 1, none⟩) := fun V h => far_cell HX.out.i.lt HX.out.ni h
            have HTC : Hid (∀ V, Below W1.heap.size W1 V ∨ Mods (Is sb) W1 V → V.cell? ⟨jb, 1, none⟩ = W1.cell? ⟨jb, 1, none⟩) := fun V h => far_cell HX.out.j.lt HX.out.nj h
            have o0 := HX.out.o.cell 0; have o1 := HX.out.o.cell 1; have o2 := HX.out.o.cell 2
            simp only [List.getElem?_toArray, List.getElem?_cons_zero, List.getElem?_cons_succ] at o0 o1 o2
            generalize u.d = ud at *
            generalize v.d = vd at *
            clear hfc e1 hein hlen HFC
            go_upto_region 7 with fail
            clear o0 o1 o2 HX
            as_aux_lemma =>
              have HSC : Hid (∀ V, Below W1.heap.size W1 V ∨ Mods (Is sb) W1 V → V.cell? ⟨ib, 1, none⟩ = some (.int .i64 ud) ∧ V.cell? ⟨jb, 1, none⟩ = some (.int .i64 vd)) := fun V h => ⟨(HTB.out V h).trans HT1.out.1, (HTC.out V h).trans HT1.out.2⟩
              have HKA := Lib.hid (HK.out.next (Below.refl _ W1).drew)
              have HWA : Hid (Mods (Is sb) W1 W1.drew) := (Mods.refl _ W1).drew
              go_wp2_with fail
              refine wp_region_held_drew (S := fun w' => w'.cell? ⟨ib, 1, none⟩ = some (.int .i64 ud) ∧ w'.cell? ⟨jb, 1, none⟩ = some (.int .i64 vd)) (by kernel_rfl) (HSC.out _ (.inr HWA.out)) (fun hHeld => ?_)
              generalize W1.drew = V0 at *
              clear HK
              have HK0 := Lib.hid HKA.out
              have HW0 := Lib.hid HWA.out
              clear HKA HWA
              refine take_at 0 36 (.pointer (some ⟨sb, 0, none⟩)) rfl rfl (by kernel_rfl) (by kernel_rfl) (by kernel_rfl) (fun _ _ _ h => h) (Or.inl ⟨by rfl, ?_⟩) hHeld ?_
              · intro w9 hSw
                (try dsimp only at hSw)
                go_simp
                all_goals (first | (intro h9; omega) | omega | (rw [IntKind.wrap_i64]; omega))
              (try simp only [Act.put, List.setIfInBounds_toArray, List.set_cons_zero, List.set_cons_succ])
              refine take_at 1 37 (.pointer (some ⟨sb, 0, none⟩)) rfl rfl (by kernel_rfl) (by kernel_rfl) (by kernel_rfl) (fun _ _ _ h => h) (Or.inl ⟨by rfl, ?_⟩) hHeld ?_
              · intro w9 hSw
                (try dsimp only at hSw)
                go_simp
                all_goals (first | (intro h9; omega) | omega | (rw [IntKind.wrap_i64]; omega))
              (try simp only [Act.put, List.setIfInBounds_toArray, List.set_cons_zero, List.set_cons_succ])
              refine take_at 2 38 (.pointer (some ⟨sb, 0, none⟩)) rfl rfl (by kernel_rfl) (by kernel_rfl) (by kernel_rfl) (fun _ _ _ h => h) (Or.inl ⟨by rfl, ?_⟩) hHeld ?_
              · intro w9 hSw
                (try dsimp only at hSw)
                go_simp
                all_goals (first | (intro h9; omega) | omega | (rw [IntKind.wrap_i64]; omega))
              (try simp only [Act.put, List.setIfInBounds_toArray, List.set_cons_zero, List.set_cons_succ])
              refine take_at 3 39 (.pointer (some ⟨sb, 0, none⟩)) rfl rfl (by kernel_rfl) (by kernel_rfl) (by kernel_rfl) (fun _ _ _ h => h) (Or.inl ⟨by rfl, ?_⟩) hHeld ?_
              · intro w9 hSw
                (try dsimp only at hSw)
                go_simp
                all_goals (first | (intro h9; omega) | omega | (rw [IntKind.wrap_i64]; omega))
              (try simp only [Act.put, List.setIfInBounds_toArray, List.set_cons_zero, List.set_cons_succ])
              refine take_at 5 41 (.pointer (some ⟨ib, 1, none⟩)) rfl rfl (by kernel_rfl) (by kernel_rfl) (by kernel_rfl) (fun _ _ _ h => h) (Or.inl ⟨by rfl, ?_⟩) hHeld ?_
              · intro w9 hSw
                (try dsimp only at hSw)
                go_simp
                all_goals (first | (intro h9; omega) | omega | (rw [IntKind.wrap_i64]; omega))
              (try simp only [Act.put, List.setIfInBounds_toArray, List.set_cons_zero, List.set_cons_succ])
              refine take_at 6 42 (.int .i64 ud) rfl rfl (by kernel_rfl) (by kernel_rfl) (by kernel_rfl) (fun _ _ _ h => h) (Or.inl ⟨by rfl, ?_⟩) hHeld ?_
              · intro w9 hSw
                (try dsimp only at hSw)
                go_simp
                all_goals (first | (intro h9; omega) | omega | (rw [IntKind.wrap_i64]; omega))
              (try simp only [Act.put, List.setIfInBounds_toArray, List.set_cons_zero, List.set_cons_succ])
              refine take_at 7 43 (.pointer (some ⟨jb, 1, none⟩)) rfl rfl (by kernel_rfl) (by kernel_rfl) (by kernel_rfl) (fun _ _ _ h => h) (Or.inl ⟨by rfl, ?_⟩) hHeld ?_
              · intro w9 hSw
                (try dsimp only at hSw)
                go_simp
                all_goals (first | (intro h9; omega) | omega | (rw [IntKind.wrap_i64]; omega))
              (try simp only [Act.put, List.setIfInBounds_toArray, List.set_cons_zero, List.set_cons_succ])
              refine take_at 8 44 (.int .i64 vd) rfl rfl (by kernel_rfl) (by kernel_rfl) (by kernel_rfl) (fun _ _ _ h => h) (Or.inl ⟨by rfl, ?_⟩) hHeld ?_
              · intro w9 hSw
                (try dsimp only at hSw)
                go_simp
                all_goals (first | (intro h9; omega) | omega | (rw [IntKind.wrap_i64]; omega))
              (try simp only [Act.put, List.setIfInBounds_toArray, List.set_cons_zero, List.set_cons_succ])
              refine take_at 11 47 (.int .i64 (k : Int)) rfl rfl (by kernel_rfl) (by kernel_rfl) (by kernel_rfl) (fun _ _ _ h => h) (Or.inl ⟨by rfl, ?_⟩) hHeld ?_
              · intro w9 hSw
                (try dsimp only at hSw)
                go_simp
                all_goals (first | (intro h9; omega) | omega | (rw [IntKind.wrap_i64]; omega))
              (try simp only [Act.put, List.setIfInBounds_toArray, List.set_cons_zero, List.set_cons_succ])
              refine wpAnyH_ready (rs := [4, 9]) (by kernel_rfl) (by simp) ?_
              refine AllReadyH.cons rfl (fun K hK => ?_) ?_
              · have f0 := HK0.out.row.cell 0
                simp only [List.getElem?_toArray, List.getElem?_cons_zero] at f0
                go_simp
                refine hK.out _ _ (HSC.out _ (.inr HW0.out)) (fun hHeld => ?_)
                clear hK K f0
                refine wpAnyH_ready (rs := [9]) (by kernel_rfl) (by simp) ?_
                refine AllReadyH.cons rfl (fun K hK => ?_) ?_
                · go_simp
                  refine (CR.out _).mono ?_
                  rintro e V1 ⟨rfl, hG⟩
                  (try go_wp2_with fail)
                  have HK1 := Lib.hid (HK0.out.next hG.below)
                  have HW1 := Lib.hid (HW0.out.trans (Mods.of_below hG.below))
                  clear hG HK0 HW0
                  refine hK.out _ _ (HSC.out _ (.inr HW1.out)) (fun hHeld => ?_)
                  clear hK K
                  refine wpAnyH_ready (rs := [10]) (by kernel_rfl) (by simp) ?_
                  refine AllReadyH.cons rfl (fun K hK => ?_) ?_
                  · go_simp
                    refine (C1.out _ HK1.out).mono ?_
                    rintro e V2 ⟨A9, n9, c9, rfl, hP, hG⟩
                    (try go_wp2_with fail)
                    have HK2 := Lib.hid (HK1.out.next hG)
                    have HW2 := Lib.hid (HW1.out.trans (Mods.of_below hG))
                    have HP9 := Lib.hid hP
                    clear hP
                    clear hG HK1 HW1
                    refine hK.out _ _ (HSC.out _ (.inr HW2.out)) (fun hHeld => ?_)
                    clear hK K
                    refine wpAnyH_ready (rs := [12]) (by kernel_rfl) (by simp) ?_
                    refine AllReadyH.cons rfl (fun K hK => ?_) ?_
                    · go_simp
                      refine (C2.out _ _ _ _ HK2.out HP9.out).mono ?_
                      rintro e V9 ⟨hM, h⟩
                      have HM9 := Lib.hid (HK2.out.md.trans hM)
                      have HW9 := Lib.hid (HW2.out.trans hM)
                      clear hM HK2 HP9
                      rcases h with ⟨he0, rfl, hS2⟩ | ⟨he, rfl, hR9, hb9⟩
                      · obtain ⟨A2, c2, hr2, hp2⟩ := hS2
                        have HK9 : Hid (LX _ _ _ _ _ A2 c2 V9) := ⟨hr2, hp2, HM9.out⟩
                        have HE0 := Lib.hid he0
                        clear he0 hr2 hp2 HM9
                        (try go_wp2_with fail)
                        refine hK.out _ _ (HSC.out _ (.inr HW9.out)) (fun hHeld => ?_)
                        clear hK K HW9 HW2
                        refine wpAnyH_done (by kernel_rfl) ?_ _
                        clear hHeld
                        go_wp2_with fail
                        first | go_end0 | refine bodyPost_ret (results_none rfl _ _ _) rfl ?_
                        rw [← HFN.out]
                        exact ⟨HK9.out.md, .inl ⟨HE0.out, rfl, HK9.out.sp⟩⟩
                      · have HE := Lib.hid he
                        have HR9 := Lib.hid hR9
                        have HB9 := Lib.hid hb9
                        clear he hR9 hb9 hK hHeld HW9 HW2
                        rw [← HFN.out]
                        exact ⟨rfl, HM9.out, .inr ⟨HE.out, rfl, HR9.out, HB9.out⟩⟩
                    exact AllReadyH.nil
                  exact AllReadyH.nil
                exact AllReadyH.nil
              refine AllReadyH.cons rfl (fun K hK => ?_) ?_
              · go_simp
                refine (CR.out _).mono ?_
                rintro e V1 ⟨rfl, hG⟩
                (try go_wp2_with fail)
                have HK1 := Lib.hid (HK0.out.next hG.below)
                have HW1 := Lib.hid (HW0.out.trans (Mods.of_below hG.below))
                clear hG HK0 HW0
                refine hK.out _ _ (HSC.out _ (.inr HW1.out)) (fun hHeld => ?_)
                clear hK K
                refine wpAnyH_ready (rs := [4]) (by kernel_rfl) (by simp) ?_
                refine AllReadyH.cons rfl (fun K hK => ?_) ?_
                · have f0 := HK1.out.row.cell 0
                  simp only [List.getElem?_toArray, List.getElem?_cons_zero] at f0
                  go_simp
                  refine hK.out _ _ (HSC.out _ (.inr HW1.out)) (fun hHeld => ?_)
                  clear hK K f0
                  refine wpAnyH_ready (rs := [10]) (by kernel_rfl) (by simp) ?_
                  refine AllReadyH.cons rfl (fun K hK => ?_) ?_
                  · go_simp
                    refine (C1.out _ HK1.out).mono ?_
                    rintro e V2 ⟨A9, n9, c9, rfl, hP, hG⟩
                    (try go_wp2_with fail)
                    have HK2 := Lib.hid (HK1.out.next hG)
                    have HW2 := Lib.hid (HW1.out.trans (Mods.of_below hG))
                    have HP9 := Lib.hid hP
                    clear hP
                    clear hG HK1 HW1
                    refine hK.out _ _ (HSC.out _ (.inr HW2.out)) (fun hHeld => ?_)
                    clear hK K
                    refine wpAnyH_ready (rs := [12]) (by kernel_rfl) (by simp) ?_
                    refine AllReadyH.cons rfl (fun K hK => ?_) ?_
                    · go_simp
                      refine (C2.out _ _ _ _ HK2.out HP9.out).mono ?_
                      rintro e V9 ⟨hM, h⟩
                      have HM9 := Lib.hid (HK2.out.md.trans hM)
                      have HW9 := Lib.hid (HW2.out.trans hM)
                      clear hM HK2 HP9
                      rcases h with ⟨he0, rfl, hS2⟩ | ⟨he, rfl, hR9, hb9⟩
                      · obtain ⟨A2, c2, hr2, hp2⟩ := hS2
                        have HK9 : Hid (LX _ _ _ _ _ A2 c2 V9) := ⟨hr2, hp2, HM9.out⟩
                        have HE0 := Lib.hid he0
                        clear he0 hr2 hp2 HM9
                        (try go_wp2_with fail)
                        refine hK.out _ _ (HSC.out _ (.inr HW9.out)) (fun hHeld => ?_)
                        clear hK K HW9 HW2
                        refine wpAnyH_done (by kernel_rfl) ?_ _
                        clear hHeld
                        go_wp2_with fail
                        first | go_end0 | refine bodyPost_ret (results_none rfl _ _ _) rfl ?_
                        rw [← HFN.out]
                        exact ⟨HK9.out.md, .inl ⟨HE0.out, rfl, HK9.out.sp⟩⟩
                      · have HE := Lib.hid he
                        have HR9 := Lib.hid hR9
                        have HB9 := Lib.hid hb9
                        clear he hR9 hb9 hK hHeld HW9 HW2
                        rw [← HFN.out]
                        exact ⟨rfl, HM9.out, .inr ⟨HE.out, rfl, HR9.out, HB9.out⟩⟩
                    exact AllReadyH.nil
                  exact AllReadyH.nil
                exact AllReadyH.nil
              exact AllReadyH.nil
        · have HM9 := Lib.hid (HK.out.md.trans hM)
          have HE := Lib.hid he
          have HR9 := Lib.hid hR9
          have HB9 := Lib.hid hb9
          clear hM he hR9 hb9 C i2 i3 j2 j3 o1 o2
          go_wp2
          have hfe : RC = r2 := by rw [← HFN.out]; exact foldE_err HE.out _
          exact ⟨rfl, HM9.out, .inr ⟨by rw [hfe]; exact HE.out, by rw [hfe], by rw [hfe]; exact HR9.out, HB9.out⟩⟩
    · have HM9 := Lib.hid (HK.out.md.trans hM)
      have HE := Lib.hid he
      have HR9 := Lib.hid hR9
      have HB9 := Lib.hid hb9
      clear hM he hR9 hb9 C i2 i3 j2 j3 o1 o2
      go_wp2
      have hfe : RC = r2 := by rw [← HFN.out]; exact foldE_err HE.out _
      exact ⟨rfl, HM9.out, .inr ⟨by rw [hfe]; exact HE.out, by rw [hfe], by rw [hfe]; exact HR9.out, HB9.out⟩⟩

end Go.Proofs.YtcoehkphdfejjaaGreat
