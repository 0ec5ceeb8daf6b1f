/-
  The reference of layer 17: Put, PutTerm (texts made by wip/lab/genicenc.py).
-/
import Derived.Test.YtkapmfopfddmbaaGreatPk3
import Derived.Test.YtkapmfopfddmbaaGreatPk1
import Derived.Deep.Cut
import Derived.Deep.CutRange
import Derived.BigRegion
namespace Go.Proofs.YtkapmfopfddmbaaGreat
open Go.RowKit
set_option linter.unusedVariables false
set_option linter.unusedSimpArgs false

theorem encO_f (v : Int) : encO false v = [] := rfl

theorem encO_t (v : Int) : encO true v = putS v.toNat := rfl

theorem len_enc {l : List Nat} {n : Nat} (h : l.length ≤ n) {b : Bool} {v : Int} : (l ++ encO b v).length ≤ n + 10 := by
  have := putS_le v.toNat
  unfold encO
  split
  · rw [List.length_append]; omega
  · simp; omega

/-- A byte in a block of its own. -/
theorem bl_one (w0 W : World) (hb : Below w0.heap.size w0 W) (x : Nat) : BL w0 (.slice (some ⟨W.heap.size, 0, none⟩) 1 1) [x] (W.alloc (.cells #[.int .u8 (x : Int)] 5)) :=
  ⟨⟨rfl, .inr ⟨W.heap.size, 1, #[.int .u8 (x : Int)], rfl, hb.size, Row.new W _ _, Nat.le_refl _, by unfold maxLen; omega, rfl, rfl⟩⟩, hb.alloc hb.size _⟩

/-- What Put carries: the instruction in its box, the bytes so far. -/
structure EnS (w : World) (m : Mi) (v : Value) (l : List Nat) (W : World) : Prop where
  box : Row W w.heap.size 84 #[.int .i64 m.op, .int .i64 m.d, .int .i64 m.a, .int .i64 m.b, .int .i64 m.imm, .int .i64 m.dst, .int .i64 m.src]
  bl : BL (w.alloc (.cells #[.int .i64 m.op, .int .i64 m.d, .int .i64 m.a, .int .i64 m.b, .int .i64 m.imm, .int .i64 m.dst, .int .i64 m.src] 84)) v l W

structure EtS (w : World) (m : Tm) (v : Value) (l : List Nat) (W : World) : Prop where
  box : Row W w.heap.size 41 #[.int .i64 m.kind, .int .i64 m.a, .int .i64 m.to, .int .i64 m.el]
  bl : BL (w.alloc (.cells #[.int .i64 m.kind, .int .i64 m.a, .int .i64 m.to, .int .i64 m.el] 41)) v l W

theorem EnS.app {w W W' : World} {m : Mi} {v v' : Value} {l l' : List Nat} (h : EnS w m v l W) (hb : BL (w.alloc (.cells #[.int .i64 m.op, .int .i64 m.d, .int .i64 m.a, .int .i64 m.b, .int .i64 m.imm, .int .i64 m.dst, .int .i64 m.src] 84)) v' l' W') : EnS w m v' l' W' :=
  ⟨(Row.new w _ _).below hb.blw (by simp), hb⟩

theorem EtS.app {w W W' : World} {m : Tm} {v v' : Value} {l l' : List Nat} (h : EtS w m v l W) (hb : BL (w.alloc (.cells #[.int .i64 m.kind, .int .i64 m.a, .int .i64 m.to, .int .i64 m.el] 41)) v' l' W') : EtS w m v' l' W' :=
  ⟨(Row.new w _ _).below hb.blw (by simp), hb⟩

/-- Bytes of its own that a call returns. -/
def RB (w : World) (l : List Nat) (e : Ending) (w' : World) : Prop :=
  ∃ A c, e = .returned (.slice A l.length c) ∧ w'.ownsRow w.heap.size 5 1 (.slice A l.length c) l.length (bts l) ∧ Below w.heap.size w w'

theorem RB.of {w0 w W : World} {v : Value} {l : List Nat} (h : BL w0 v l W) (hb : Below w.heap.size w w0) : RB w l (.returned v) W := by
  have hbl := hb.trans (h.blw.mono hb.size)
  have ho := h.own
  rcases ho.2 with ⟨rfl, h0⟩ | ⟨g, cap, cur, rfl, hg, h2⟩
  · refine ⟨none, 0, by rw [h0], ?_, hbl⟩
    rw [h0]
    exact ⟨by rw [ho.1, h0], .inl ⟨rfl, rfl⟩⟩
  · exact ⟨_, cap, rfl, ⟨ho.1, .inr ⟨g, cap, cur, rfl, Nat.le_trans hb.size hg, h2⟩⟩, hbl⟩

set_option maxRecDepth 100000 in
set_option maxHeartbeats 8000000 in
theorem rputm17_any {w : World} {m : Mi} (ho : 0 ≤ m.op ∧ m.op < 256) (hi : InI m.imm) (hd : uD m.op = true → 0 ≤ m.d ∧ m.d ≤ 9223372036854775807) (ha : uA m.op = true → 0 ≤ m.a ∧ m.a ≤ 9223372036854775807) (hb : uB m.op = true → 0 ≤ m.b ∧ m.b ≤ 9223372036854775807)
    (hx : (m.op == 18) = true → 0 ≤ m.dst ∧ m.dst ≤ 9223372036854775807) (hy : (m.op == 18) = true → 0 ≤ m.src ∧ m.src ≤ 9223372036854775807) :
    Calls Tryz.prog 38 #[.agg #[.int .i64 m.op, .int .i64 m.d, .int .i64 m.a, .int .i64 m.b, .int .i64 m.imm, .int .i64 m.dst, .int .i64 m.src]] w (RB w (encM m)) := by
  have HB0 := Lib.hid ((Below.refl w.heap.size w).alloc (Nat.le_refl _) (.cells #[.int .i64 m.op, .int .i64 m.d, .int .i64 m.a, .int .i64 m.b, .int .i64 m.imm, .int .i64 m.dst, .int .i64 m.src] 84))
  have hrow := Row.new w 84 #[.int .i64 m.op, .int .i64 m.d, .int .i64 m.a, .int .i64 m.b, .int .i64 m.imm, .int .i64 m.dst, .int .i64 m.src]
  obtain ⟨EM, hEM⟩ : ∃ z, z = encM m := ⟨_, rfl⟩
  rw [← hEM]
  have HEM := Lib.hid hEM
  have HON := Lib.hid (show ((m.op.toNat : Nat) : Int) = m.op by omega)
  clear hEM
  go_enter Tryz.func38, Tryz.ntmps38
  obtain ⟨i0, hi0, hz0, hz1, hz2⟩ := info_parts Tryz.infoU8c
  go_upto_region 2 with fail
  have HE0 : Hid (EnS w m (.slice (some ⟨w.heap.size + 1, 0, none⟩) 1 1) [m.op.toNat] ((w.alloc (.cells #[.int .i64 m.op, .int .i64 m.d, .int .i64 m.a, .int .i64 m.b, .int .i64 m.imm, .int .i64 m.dst, .int .i64 m.src] 84)).alloc (.cells #[.int .u8 m.op] 5))) := by
    have h1 := bl_one (w.alloc (.cells #[.int .i64 m.op, .int .i64 m.d, .int .i64 m.a, .int .i64 m.b, .int .i64 m.imm, .int .i64 m.dst, .int .i64 m.src] 84)) (w.alloc (.cells #[.int .i64 m.op, .int .i64 m.d, .int .i64 m.a, .int .i64 m.b, .int .i64 m.imm, .int .i64 m.dst, .int .i64 m.src] 84)) (Below.refl _ _) m.op.toNat
    rw [HON.out] at h1
    simp only [World.size_alloc] at h1
    exact ⟨hrow.alloc _, h1⟩
  have hlen : ([m.op.toNat] : List Nat).length ≤ 1 := Nat.le_refl _
  clear hrow
  generalize ((w.alloc (.cells #[.int .i64 m.op, .int .i64 m.d, .int .i64 m.a, .int .i64 m.b, .int .i64 m.imm, .int .i64 m.dst, .int .i64 m.src] 84)).alloc (.cells #[.int .u8 m.op] 5)) = W0 at *
  have i0 := HE0.out.box.cell 0; have i1 := HE0.out.box.cell 1; have i2 := HE0.out.box.cell 2; have i3 := HE0.out.box.cell 3
  have i4 := HE0.out.box.cell 4; have i5 := HE0.out.box.cell 5; have i6 := HE0.out.box.cell 6
  simp only [List.getElem?_toArray, List.getElem?_cons_zero, List.getElem?_cons_succ] at i0 i1 i2 i3 i4 i5 i6
  obtain ⟨ub, hub⟩ : ∃ z, z = (uD m.op) := ⟨_, rfl⟩
  have HP : Hid (ub = true → 0 ≤ m.d ∧ m.d ≤ 9223372036854775807) := fun h => hd (by rw [← hub]; exact h)
  have HUB := Lib.hid hub
  have CU := Lib.hid fun W => rusesD_any m.op ub W hub.symm
  clear hub
  go_wp2_with fail
  refine (CU.out _).mono ?_
  rintro e V ⟨rfl, rfl⟩
  clear CU
  go_upto_if 10 with fail
  go_cut [3] from 11 to 14 (fun s3 wx => Hid (EnS w m s3 ([m.op.toNat] ++ encO (uD m.op) m.d) wx))
  case first =>
    cases ub
    · go_wp2_with fail
      go_meet
      case rel => show EnS _ _ _ _ _; rw [← HUB.out, encO_f, List.append_nil]; exact HE0.out
    · obtain ⟨h0, h1⟩ := HP.out rfl
      have C := Lib.hid (rput17_any HE0.out.bl m.d h0 h1 (by omega))
      go_wp2_with fail
      refine C.out.mono ?_
      rintro e V ⟨v9, rfl, hbl⟩
      have HN := Lib.hid (HE0.out.app hbl)
      clear i0 i1 i2 i3 i4 i5 i6
      clear C hbl
      go_wp2_with fail
      go_meet
      case rel => show EnS _ _ _ _ _; rw [← HUB.out, encO_t]; exact HN.out
  case rest =>
    have HE1 := hcut
    clear i0 i1 i2 i3 i4 i5 i6
    clear HE0 HP HUB hcut 
    generalize wc = W1 at *
    have hlen := len_enc hlen (b := (uD m.op)) (v := m.d)
    have i0 := HE1.out.box.cell 0; have i1 := HE1.out.box.cell 1; have i2 := HE1.out.box.cell 2; have i3 := HE1.out.box.cell 3
    have i4 := HE1.out.box.cell 4; have i5 := HE1.out.box.cell 5; have i6 := HE1.out.box.cell 6
    simp only [List.getElem?_toArray, List.getElem?_cons_zero, List.getElem?_cons_succ] at i0 i1 i2 i3 i4 i5 i6
    obtain ⟨ub, hub⟩ : ∃ z, z = (uA m.op) := ⟨_, rfl⟩
    have HP : Hid (ub = true → 0 ≤ m.a ∧ m.a ≤ 9223372036854775807) := fun h => ha (by rw [← hub]; exact h)
    have HUB := Lib.hid hub
    have CU := Lib.hid fun W => rusesA_any m.op ub W hub.symm
    clear hub
    go_wp2_with fail
    refine (CU.out _).mono ?_
    rintro e V ⟨rfl, rfl⟩
    clear CU
    go_upto_if 17 with fail
    go_cut [3] from 18 to 21 (fun s3 wx => Hid (EnS w m s3 (([m.op.toNat] ++ encO (uD m.op) m.d) ++ encO (uA m.op) m.a) wx))
    case first =>
      cases ub
      · go_wp2_with fail
        go_meet
        case rel => show EnS _ _ _ _ _; rw [← HUB.out, encO_f, List.append_nil]; exact HE1.out
      · obtain ⟨h0, h1⟩ := HP.out rfl
        have C := Lib.hid (rput17_any HE1.out.bl m.a h0 h1 (by omega))
        go_wp2_with fail
        refine C.out.mono ?_
        rintro e V ⟨v9, rfl, hbl⟩
        have HN := Lib.hid (HE1.out.app hbl)
        clear i0 i1 i2 i3 i4 i5 i6
        clear C hbl
        go_wp2_with fail
        go_meet
        case rel => show EnS _ _ _ _ _; rw [← HUB.out, encO_t]; exact HN.out
    case rest =>
      have HE2 := hcut
      clear i0 i1 i2 i3 i4 i5 i6
      clear HE1 HP HUB hcut 
      generalize wc = W1 at *
      have hlen := len_enc hlen (b := (uA m.op)) (v := m.a)
      have i0 := HE2.out.box.cell 0; have i1 := HE2.out.box.cell 1; have i2 := HE2.out.box.cell 2; have i3 := HE2.out.box.cell 3
      have i4 := HE2.out.box.cell 4; have i5 := HE2.out.box.cell 5; have i6 := HE2.out.box.cell 6
      simp only [List.getElem?_toArray, List.getElem?_cons_zero, List.getElem?_cons_succ] at i0 i1 i2 i3 i4 i5 i6
      obtain ⟨ub, hub⟩ : ∃ z, z = (uB m.op) := ⟨_, rfl⟩
      have HP : Hid (ub = true → 0 ≤ m.b ∧ m.b ≤ 9223372036854775807) := fun h => hb (by rw [← hub]; exact h)
      have HUB := Lib.hid hub
      have CU := Lib.hid fun W => rusesB_any m.op ub W hub.symm
      clear hub
      go_wp2_with fail
      refine (CU.out _).mono ?_
      rintro e V ⟨rfl, rfl⟩
      clear CU
      go_upto_if 24 with fail
      go_cut [3] from 25 to 28 (fun s3 wx => Hid (EnS w m s3 ((([m.op.toNat] ++ encO (uD m.op) m.d) ++ encO (uA m.op) m.a) ++ encO (uB m.op) m.b) wx))
      case first =>
        cases ub
        · go_wp2_with fail
          go_meet
          case rel => show EnS _ _ _ _ _; rw [← HUB.out, encO_f, List.append_nil]; exact HE2.out
        · obtain ⟨h0, h1⟩ := HP.out rfl
          have C := Lib.hid (rput17_any HE2.out.bl m.b h0 h1 (by omega))
          go_wp2_with fail
          refine C.out.mono ?_
          rintro e V ⟨v9, rfl, hbl⟩
          have HN := Lib.hid (HE2.out.app hbl)
          clear i0 i1 i2 i3 i4 i5 i6
          clear C hbl
          go_wp2_with fail
          go_meet
          case rel => show EnS _ _ _ _ _; rw [← HUB.out, encO_t]; exact HN.out
      case rest =>
        have HE3 := hcut
        clear i0 i1 i2 i3 i4 i5 i6
        clear HE2 HP HUB hcut 
        generalize wc = W1 at *
        have hlen := len_enc hlen (b := (uB m.op)) (v := m.b)
        obtain ⟨ub, hub⟩ : ∃ z, z = (m.op == 1) := ⟨_, rfl⟩
        have HUB := Lib.hid hub
        have e1 := hub.symm
        clear hub
        have i0 := HE3.out.box.cell 0; have i1 := HE3.out.box.cell 1; have i2 := HE3.out.box.cell 2; have i3 := HE3.out.box.cell 3
        have i4 := HE3.out.box.cell 4; have i5 := HE3.out.box.cell 5; have i6 := HE3.out.box.cell 6
        simp only [List.getElem?_toArray, List.getElem?_cons_zero, List.getElem?_cons_succ] at i0 i1 i2 i3 i4 i5 i6
        go_upto_if 31 with fail
        go_cut [3] from 32 to 37 (fun s3 wx => Hid (EnS w m s3 (((([m.op.toNat] ++ encO (uD m.op) m.d) ++ encO (uA m.op) m.a) ++ encO (uB m.op) m.b) ++ encO (m.op == 1) (zz m.imm)) wx))
        case first =>
          clear e1
          cases ub
          · go_wp2_with fail
            go_meet
            case rel => show EnS _ _ _ _ _; rw [← HUB.out, encO_f, List.append_nil]; exact HE3.out
          · have hzu := zz_in hi
            have C1 := Lib.hid (rzig_any m.imm W1 hi)
            have C2 := Lib.hid (rput_any (zz m.imm) W1 hzu.1 hzu.2)
            have hp := putS_le (zz m.imm).toNat
            go_wp2_with fail
            refine C1.out.mono ?_
            rintro e V ⟨rfl, rfl⟩
            clear C1
            go_wp2_with fail
            refine C2.out.mono ?_
            rintro e V ⟨g, c, rfl, ho2, hb2⟩
            have HL1 := Lib.hid (HE3.out.bl.next hb2)
            have hsee := Sees.of_own ho2
            clear ho2 hb2 C2
            clear i0 i1 i2 i3 i4 i5 i6
            have hown := HL1.out.own
            have hlz := HL1.out.blw.size
            generalize (((([m.op.toNat] ++ encO (uD m.op) m.d) ++ encO (uA m.op) m.a) ++ encO (uB m.op) m.b)) = l3 at *
            go_wp2_with (at_builtin; refine wpList_append_sees _ rfl (.tmp 32) (.tmp 36) 33 rfl (w.alloc (.cells #[.int .i64 m.op, .int .i64 m.d, .int .i64 m.a, .int .i64 m.b, .int .i64 m.imm, .int .i64 m.dst, .int .i64 m.src] 84)).heap.size 5 i0 (.int .u8 0) 1 Tryz.underlying33 hi0 hz0 hz1 hz2 rfl _ l3.length (bts l3) rfl hown V.heap.size _ _ _ (bts (putS (zz m.imm).toNat)) rfl hsee (bts_length _) (bts_one _) ?c1 ?c2 ?c3 ?_)
            case c1 => have h9 : lenS (zz m.imm).toNat = (putS (zz m.imm).toNat).length := rfl; unfold maxLen; omega
            case c2 => have h9 : lenS (zz m.imm).toNat = (putS (zz m.imm).toNat).length := rfl; omega
            case c3 => exact hlz
            intro v2 W2 ho2 hg2
            have HN := Lib.hid (HE3.out.app (HL1.out.app rfl (by rw [World.size_alloc]; exact ho2) hg2))
            clear ho2 hg2 hown hsee HL1 hlz
            go_wp2_with fail
            go_meet
            case rel => show EnS _ _ _ _ _; rw [← HUB.out, encO_t]; exact HN.out
        case rest =>
          have HE4 := hcut
          clear i0 i1 i2 i3 i4 i5 i6
          clear HE3 HUB hcut e1
          generalize wc = W1 at *
          have hlen := len_enc hlen (b := (m.op == 1)) (v := zz m.imm)
          obtain ⟨ub, hub⟩ : ∃ z, z = (m.op == 18) := ⟨_, rfl⟩
          have HP5 : Hid (ub = true → 0 ≤ m.dst ∧ m.dst ≤ 9223372036854775807) := fun h => hx (by rw [← hub]; exact h)
          have HP6 : Hid (ub = true → 0 ≤ m.src ∧ m.src ≤ 9223372036854775807) := fun h => hy (by rw [← hub]; exact h)
          have HUB := Lib.hid hub
          have e1 := hub.symm
          clear hub hx hy
          have i0 := HE4.out.box.cell 0; have i1 := HE4.out.box.cell 1; have i2 := HE4.out.box.cell 2; have i3 := HE4.out.box.cell 3
          have i4 := HE4.out.box.cell 4; have i5 := HE4.out.box.cell 5; have i6 := HE4.out.box.cell 6
          simp only [List.getElem?_toArray, List.getElem?_cons_zero, List.getElem?_cons_succ] at i0 i1 i2 i3 i4 i5 i6
          go_upto_if 40 with fail
          go_cut [3] from 41 to 47 (fun s3 wx => Hid (EnS w m s3 (((((([m.op.toNat] ++ encO (uD m.op) m.d) ++ encO (uA m.op) m.a) ++ encO (uB m.op) m.b) ++ encO (m.op == 1) (zz m.imm)) ++ encO (m.op == 18) m.dst) ++ encO (m.op == 18) m.src) wx))
          case first =>
            clear e1
            cases ub
            · go_wp2_with fail
              go_meet
              case rel => show EnS _ _ _ _ _; rw [← HUB.out, encO_f, encO_f, List.append_nil, List.append_nil]; exact HE4.out
            · have h5 := HP5.out rfl
              have h6 := HP6.out rfl
              generalize ((((([m.op.toNat] ++ encO (uD m.op) m.d) ++ encO (uA m.op) m.a) ++ encO (uB m.op) m.b) ++ encO (m.op == 1) (zz m.imm))) = l4 at *
              go_wp2_with fail
              refine wp_region_held_drew (S := fun w' => w'.cell? ⟨w.heap.size, 5, none⟩ = some (.int .i64 m.dst) ∧ w'.cell? ⟨w.heap.size, 6, none⟩ = some (.int .i64 m.src)) (by kernel_rfl) ⟨i5, i6⟩ (fun hHeld => ?_)
              have HQ0 : Hid (BL (w.alloc (.cells #[.int .i64 m.op, .int .i64 m.d, .int .i64 m.a, .int .i64 m.b, .int .i64 m.imm, .int .i64 m.dst, .int .i64 m.src] 84)) _ _ W1.drew) := ⟨HE4.out.bl.own, HE4.out.bl.blw.drew⟩
              generalize hVV : W1.drew = V0 at *
              clear hVV
              refine take_at 0 41 (u3) rfl rfl (by kernel_rfl) (by kernel_rfl) (by kernel_rfl) (fun _ _ _ h => h) (Or.inl ⟨by rfl, ?_⟩) hHeld ?_
              · intro w9 hSw
                (try dsimp only at hSw)
                go_simp
                all_goals (first | (intro h9; omega) | omega)
              (try simp only [Act.put, List.setIfInBounds_toArray, List.set_cons_zero, List.set_cons_succ])
              refine take_at 1 42 (.pointer (some ⟨w.heap.size, 5, none⟩)) rfl rfl (by kernel_rfl) (by kernel_rfl) (by kernel_rfl) (fun _ _ _ h => h) (Or.inl ⟨by rfl, ?_⟩) hHeld ?_
              · intro w9 hSw
                (try dsimp only at hSw)
                go_simp
                all_goals (first | (intro h9; omega) | omega)
              (try simp only [Act.put, List.setIfInBounds_toArray, List.set_cons_zero, List.set_cons_succ])
              refine take_at 2 43 (.int .i64 m.dst) rfl rfl (by kernel_rfl) (by kernel_rfl) (by kernel_rfl) (fun _ _ _ h => h) (Or.inl ⟨by rfl, ?_⟩) hHeld ?_
              · intro w9 hSw
                (try dsimp only at hSw)
                go_simp
                all_goals (first | (intro h9; omega) | omega)
              (try simp only [Act.put, List.setIfInBounds_toArray, List.set_cons_zero, List.set_cons_succ])
              refine take_at 4 45 (.pointer (some ⟨w.heap.size, 6, none⟩)) rfl rfl (by kernel_rfl) (by kernel_rfl) (by kernel_rfl) (fun _ _ _ h => h) (Or.inl ⟨by rfl, ?_⟩) hHeld ?_
              · intro w9 hSw
                (try dsimp only at hSw)
                go_simp
                all_goals (first | (intro h9; omega) | omega)
              (try simp only [Act.put, List.setIfInBounds_toArray, List.set_cons_zero, List.set_cons_succ])
              refine take_at 5 46 (.int .i64 m.src) rfl rfl (by kernel_rfl) (by kernel_rfl) (by kernel_rfl) (fun _ _ _ h => h) (Or.inl ⟨by rfl, ?_⟩) hHeld ?_
              · intro w9 hSw
                (try dsimp only at hSw)
                go_simp
                all_goals (first | (intro h9; omega) | omega)
              (try simp only [Act.put, List.setIfInBounds_toArray, List.set_cons_zero, List.set_cons_succ])
              refine wpAnyH_ready (rs := [3]) (by kernel_rfl) (by simp) ?_
              refine AllReadyH.cons rfl (fun K hK => ?_) ?_
              · go_simp
                refine (rput17_any HQ0.out m.dst h5.1 h5.2 (by omega)).mono ?_
                rintro e V1 ⟨v5, rfl, hbl⟩
                (try go_wp2_with fail)
                have HQ1 := Lib.hid hbl
                have HN1 := Lib.hid (HE4.out.app hbl)
                clear hbl
                have j5 := HN1.out.box.cell 5; have j6 := HN1.out.box.cell 6
                simp only [List.getElem?_toArray, List.getElem?_cons_zero, List.getElem?_cons_succ] at j5 j6
                refine hK.out _ _ ⟨j5, j6⟩ (fun hHeld => ?_)
                clear hK K
                refine wpAnyH_ready (rs := [6]) (by kernel_rfl) (by simp) ?_
                refine AllReadyH.cons rfl (fun K hK => ?_) ?_
                · go_simp
                  refine (rput17_any HQ1.out m.src h6.1 h6.2 (by have := putS_le m.dst.toNat; rw [List.length_append]; omega)).mono ?_
                  rintro e V2 ⟨v6, rfl, hbl⟩
                  (try go_wp2_with fail)
                  have HN2 := Lib.hid (HE4.out.app hbl)
                  clear hbl
                  have k5 := HN2.out.box.cell 5; have k6 := HN2.out.box.cell 6
                  simp only [List.getElem?_toArray, List.getElem?_cons_zero, List.getElem?_cons_succ] at k5 k6
                  refine hK.out _ _ ⟨k5, k6⟩ (fun hHeld => ?_)
                  clear hK K
                  refine take_at 7 3 (v6) rfl rfl (by kernel_rfl) (by kernel_rfl) (by kernel_rfl) (fun _ _ _ h => h) (Or.inl ⟨by rfl, ?_⟩) hHeld ?_
                  · intro w9 hSw
                    (try dsimp only at hSw)
                    go_simp
                    all_goals (first | (intro h9; omega) | omega)
                  (try simp only [Act.put, List.setIfInBounds_toArray, List.set_cons_zero, List.set_cons_succ])
                  refine wpAnyH_done (by kernel_rfl) ?_ _
                  clear hHeld j5 j6 k5 k6
                  go_wp2_with fail
                  go_meet
                  case rel => show EnS _ _ _ _ _; rw [← HUB.out, encO_t, encO_t]; exact HN2.out
                exact AllReadyH.nil
              exact AllReadyH.nil
          case rest =>
            have HE5 := hcut
            clear HE4 hcut HP5 HP6 HUB e1
            clear i0 i1 i2 i3 i4 i5 i6
            have HEQ : Hid (EM = (((((([m.op.toNat] ++ encO (uD m.op) m.d) ++ encO (uA m.op) m.a) ++ encO (uB m.op) m.b) ++ encO (m.op == 1) (zz m.imm)) ++ encO (m.op == 18) m.dst) ++ encO (m.op == 18) m.src)) := by show _ = _; rw [HEM.out]; simp [encM, List.append_assoc]
            rw [← HEQ.out] at HE5
            go_wp2
            go_ret
            exact RB.of HE5.out.bl HB0.out

set_option maxRecDepth 100000 in
set_option maxHeartbeats 8000000 in
theorem rputt17_any {w : World} {t : Tm} (ho : 0 ≤ t.kind ∧ t.kind < 256) (ha : (t.kind != 1) = true → 0 ≤ t.a ∧ t.a ≤ 9223372036854775807) (ht : (t.kind != 3) = true → 0 ≤ t.to ∧ t.to ≤ 9223372036854775807) (he : (t.kind == 2) = true → 0 ≤ t.el ∧ t.el ≤ 9223372036854775807) :
    Calls Tryz.prog 37 #[.agg #[.int .i64 t.kind, .int .i64 t.a, .int .i64 t.to, .int .i64 t.el]] w (RB w (encT t)) := by
  have HB0 := Lib.hid ((Below.refl w.heap.size w).alloc (Nat.le_refl _) (.cells #[.int .i64 t.kind, .int .i64 t.a, .int .i64 t.to, .int .i64 t.el] 41))
  have hrow := Row.new w 41 #[.int .i64 t.kind, .int .i64 t.a, .int .i64 t.to, .int .i64 t.el]
  obtain ⟨EM, hEM⟩ : ∃ z, z = encT t := ⟨_, rfl⟩
  rw [← hEM]
  have HEM := Lib.hid hEM
  have HON := Lib.hid (show ((t.kind.toNat : Nat) : Int) = t.kind by omega)
  clear hEM
  go_enter Tryz.func37, Tryz.ntmps37
  go_upto_region 2 with fail
  have HE0 : Hid (EtS w t (.slice (some ⟨w.heap.size + 1, 0, none⟩) 1 1) [t.kind.toNat] ((w.alloc (.cells #[.int .i64 t.kind, .int .i64 t.a, .int .i64 t.to, .int .i64 t.el] 41)).alloc (.cells #[.int .u8 t.kind] 5))) := by
    have h1 := bl_one (w.alloc (.cells #[.int .i64 t.kind, .int .i64 t.a, .int .i64 t.to, .int .i64 t.el] 41)) (w.alloc (.cells #[.int .i64 t.kind, .int .i64 t.a, .int .i64 t.to, .int .i64 t.el] 41)) (Below.refl _ _) t.kind.toNat
    rw [HON.out] at h1
    simp only [World.size_alloc] at h1
    exact ⟨hrow.alloc _, h1⟩
  have hlen : ([t.kind.toNat] : List Nat).length ≤ 1 := Nat.le_refl _
  clear hrow
  generalize ((w.alloc (.cells #[.int .i64 t.kind, .int .i64 t.a, .int .i64 t.to, .int .i64 t.el] 41)).alloc (.cells #[.int .u8 t.kind] 5)) = W0 at *
  have i0 := HE0.out.box.cell 0; have i1 := HE0.out.box.cell 1; have i2 := HE0.out.box.cell 2; have i3 := HE0.out.box.cell 3
  simp only [List.getElem?_toArray, List.getElem?_cons_zero, List.getElem?_cons_succ] at i0 i1 i2 i3
  obtain ⟨ub, hub⟩ : ∃ z, z = (t.kind != 1) := ⟨_, rfl⟩
  have HP : Hid (ub = true → 0 ≤ t.a ∧ t.a ≤ 9223372036854775807) := fun h => ha (by rw [← hub]; exact h)
  have HUB := Lib.hid hub
  have e1 := hub.symm
  clear hub
  go_upto_if 10 with fail
  go_cut [3] from 11 to 14 (fun s3 wx => Hid (EtS w t s3 ([t.kind.toNat] ++ encO (t.kind != 1) t.a) wx))
  case first =>
    clear e1
    cases ub
    · go_wp2_with fail
      go_meet
      case rel => show EtS _ _ _ _ _; rw [← HUB.out, encO_f, List.append_nil]; exact HE0.out
    · obtain ⟨h0, h1⟩ := HP.out rfl
      have C := Lib.hid (rput17_any HE0.out.bl t.a h0 h1 (by omega))
      go_wp2_with fail
      refine C.out.mono ?_
      rintro e V ⟨v9, rfl, hbl⟩
      have HN := Lib.hid (HE0.out.app hbl)
      clear i0 i1 i2 i3
      clear C hbl
      go_wp2_with fail
      go_meet
      case rel => show EtS _ _ _ _ _; rw [← HUB.out, encO_t]; exact HN.out
  case rest =>
    have HE1 := hcut
    clear i0 i1 i2 i3
    clear HE0 HP HUB hcut e1
    generalize wc = W1 at *
    have hlen := len_enc hlen (b := (t.kind != 1)) (v := t.a)
    have i0 := HE1.out.box.cell 0; have i1 := HE1.out.box.cell 1; have i2 := HE1.out.box.cell 2; have i3 := HE1.out.box.cell 3
    simp only [List.getElem?_toArray, List.getElem?_cons_zero, List.getElem?_cons_succ] at i0 i1 i2 i3
    obtain ⟨ub, hub⟩ : ∃ z, z = (t.kind != 3) := ⟨_, rfl⟩
    have HP : Hid (ub = true → 0 ≤ t.to ∧ t.to ≤ 9223372036854775807) := fun h => ht (by rw [← hub]; exact h)
    have HUB := Lib.hid hub
    have e1 := hub.symm
    clear hub
    go_upto_if 17 with fail
    go_cut [3] from 18 to 21 (fun s3 wx => Hid (EtS w t s3 (([t.kind.toNat] ++ encO (t.kind != 1) t.a) ++ encO (t.kind != 3) t.to) wx))
    case first =>
      clear e1
      cases ub
      · go_wp2_with fail
        go_meet
        case rel => show EtS _ _ _ _ _; rw [← HUB.out, encO_f, List.append_nil]; exact HE1.out
      · obtain ⟨h0, h1⟩ := HP.out rfl
        have C := Lib.hid (rput17_any HE1.out.bl t.to h0 h1 (by omega))
        go_wp2_with fail
        refine C.out.mono ?_
        rintro e V ⟨v9, rfl, hbl⟩
        have HN := Lib.hid (HE1.out.app hbl)
        clear i0 i1 i2 i3
        clear C hbl
        go_wp2_with fail
        go_meet
        case rel => show EtS _ _ _ _ _; rw [← HUB.out, encO_t]; exact HN.out
    case rest =>
      have HE2 := hcut
      clear i0 i1 i2 i3
      clear HE1 HP HUB hcut e1
      generalize wc = W1 at *
      have hlen := len_enc hlen (b := (t.kind != 3)) (v := t.to)
      have i0 := HE2.out.box.cell 0; have i1 := HE2.out.box.cell 1; have i2 := HE2.out.box.cell 2; have i3 := HE2.out.box.cell 3
      simp only [List.getElem?_toArray, List.getElem?_cons_zero, List.getElem?_cons_succ] at i0 i1 i2 i3
      obtain ⟨ub, hub⟩ : ∃ z, z = (t.kind == 2) := ⟨_, rfl⟩
      have HP : Hid (ub = true → 0 ≤ t.el ∧ t.el ≤ 9223372036854775807) := fun h => he (by rw [← hub]; exact h)
      have HUB := Lib.hid hub
      have e1 := hub.symm
      clear hub
      go_upto_if 24 with fail
      go_cut [3] from 25 to 28 (fun s3 wx => Hid (EtS w t s3 ((([t.kind.toNat] ++ encO (t.kind != 1) t.a) ++ encO (t.kind != 3) t.to) ++ encO (t.kind == 2) t.el) wx))
      case first =>
        clear e1
        cases ub
        · go_wp2_with fail
          go_meet
          case rel => show EtS _ _ _ _ _; rw [← HUB.out, encO_f, List.append_nil]; exact HE2.out
        · obtain ⟨h0, h1⟩ := HP.out rfl
          have C := Lib.hid (rput17_any HE2.out.bl t.el h0 h1 (by omega))
          go_wp2_with fail
          refine C.out.mono ?_
          rintro e V ⟨v9, rfl, hbl⟩
          have HN := Lib.hid (HE2.out.app hbl)
          clear i0 i1 i2 i3
          clear C hbl
          go_wp2_with fail
          go_meet
          case rel => show EtS _ _ _ _ _; rw [← HUB.out, encO_t]; exact HN.out
      case rest =>
        have HE3 := hcut
        clear i0 i1 i2 i3
        clear HE2 HP HUB hcut e1
        generalize wc = W1 at *
        have hlen := len_enc hlen (b := (t.kind == 2)) (v := t.el)
        have HEQ : Hid (EM = ((([t.kind.toNat] ++ encO (t.kind != 1) t.a) ++ encO (t.kind != 3) t.to) ++ encO (t.kind == 2) t.el)) := by show _ = _; rw [HEM.out]; simp [encT, List.append_assoc]
        rw [← HEQ.out] at HE3
        go_wp2
        go_ret
        exact RB.of HE3.out.bl HB0.out

set_option maxRecDepth 100000 in
set_option maxHeartbeats 2000000 in
theorem rputi17_any {w : World} {m : Mi} (h5 : m.dst = 0) (h6 : m.src = 0) (ho : 0 ≤ m.op ∧ m.op < 256) (hi : InI m.imm) (hd : uD m.op = true → 0 ≤ m.d ∧ m.d ≤ 9223372036854775807) (ha : uA m.op = true → 0 ≤ m.a ∧ m.a ≤ 9223372036854775807) (hb : uB m.op = true → 0 ≤ m.b ∧ m.b ≤ 9223372036854775807) :
    Calls Tryz.prog 36 #[.agg #[.int .i64 m.op, .int .i64 m.d, .int .i64 m.a, .int .i64 m.b, .int .i64 m.imm]] w (RB w (encM m)) := by
  have hba := (Below.refl w.heap.size w).alloc (Nat.le_refl _) (.cells #[.int .i64 m.op, .int .i64 m.d, .int .i64 m.a, .int .i64 m.b, .int .i64 m.imm] 79)
  have hrow := Row.new w 79 #[.int .i64 m.op, .int .i64 m.d, .int .i64 m.a, .int .i64 m.b, .int .i64 m.imm]
  have C := Lib.hid fun W => rputm17_any (w := W) (m := m) ho hi hd ha hb (fun _ => by rw [h5]; exact ⟨by decide, by decide⟩) (fun _ => by rw [h6]; exact ⟨by decide, by decide⟩)
  rw [h5, h6] at C
  have HBA := Lib.hid hba
  clear hba h5 h6
  obtain ⟨EM, hEM⟩ : ∃ z, z = encM m := ⟨_, rfl⟩
  rw [← hEM] at C ⊢
  clear hEM
  go_enter Tryz.func36, Tryz.ntmps36
  go_upto_region 1 with fail
  generalize (w.alloc (.cells #[.int .i64 m.op, .int .i64 m.d, .int .i64 m.a, .int .i64 m.b, .int .i64 m.imm] 79)) = W0 at *
  have i0 := hrow.cell 0; have i1 := hrow.cell 1; have i2 := hrow.cell 2; have i3 := hrow.cell 3; have i4 := hrow.cell 4
  simp only [List.getElem?_toArray, List.getElem?_cons_zero, List.getElem?_cons_succ] at i0 i1 i2 i3 i4
  clear hrow
  go_wp2_with fail
  refine (C.out _).mono ?_
  rintro e W1 ⟨A, c, rfl, how, hb1⟩
  clear i0 i1 i2 i3 i4 C
  have HB1 := Lib.hid (HBA.out.trans (hb1.mono HBA.out.size))
  have HOW : Hid (W1.ownsRow w.heap.size 5 1 (.slice A EM.length c) EM.length (bts EM)) := by
    refine ⟨how.1, ?_⟩
    rcases how.2 with h | ⟨g, cap, cur, e1, e2, e3⟩
    · exact .inl h
    · exact .inr ⟨g, cap, cur, e1, Nat.le_trans HBA.out.size e2, e3⟩
  clear how hb1
  go_wp2
  go_ret
  exact ⟨A, c, rfl, HOW.out, HB1.out⟩

end Go.Proofs.YtkapmfopfddmbaaGreat
