import Derived.Test.YtcoehkphdfejjaaPk42
import Derived.Test.YtcoehkphdfejjaaPNest
import Derived.Test.YtcoehkphdfejjaaMNest
import Derived.Test.YtcoehkphdfejjaaSrcCopy
import Derived.Test.YtcoehkphdfejjaaSrcFew
import Derived.Test.YtcoehkphdfejjaaSrcCheck
import Derived.Laws.StructEq

/-
  Spilled blocks: runs of moves, invariants, copies of blocks.
-/
namespace Go.Proofs.Ytcoehkphdfejjaa
open Go.RowKit
set_option linter.unusedVariables false
set_option linter.unusedSimpArgs false

/-! Blocks told apart by their types. -/

def TyB (w : World) (T : TypeId) (k : Nat) : Prop := ∃ cs fr, w.heap[k]? = some (.cells cs T fr)

theorem own_ty {w : World} {base s n : Nat} {e : TypeId} {v : Value} {xs : List Value} (h : w.ownsRow base e s v n xs) (k : Nat) (hk : v.ownBlock = some k) : TyB w e k := by
  rcases h.2 with ⟨rfl, _⟩ | ⟨g, cap, cur, rfl, _, h1, _⟩
  · cases hk
  · simp only [Value.ownBlock, Option.some.injEq] at hk
    subst hk
    exact ⟨_, _, h1⟩

theorem Row.tyb {w : World} {k : Nat} {T : TypeId} {cs : Array Value} (h : Row w k T cs) : TyB w T k := ⟨cs, (0, 0), h⟩

theorem TyB.ne {w : World} {T T' : TypeId} {k : Nat} (h : TyB w T k) (h' : TyB w T' k) (hn : T ≠ T') : False := by
  obtain ⟨cs, fr, h1⟩ := h
  obtain ⟨cs', fr', h2⟩ := h'
  rw [h1] at h2
  simp only [Option.some.injEq, Obj.cells.injEq] at h2
  exact hn h2.2.1

theorem grown_ty {w w' : World} {base s n : Nat} {e : TypeId} {v : Value} {xs : List Value} (h : w.ownsRow base e s v n xs) (hg : w.grownBy w' v.ownBlock) : Mods (TyB w e) w w' :=
  (Mods.refl _ _).grown hg fun k hk => .inl (own_ty h k hk)

theorem put_ty {w w' : World} {k : Nat} {T : TypeId} {cs : Array Value} (h : Row w k T cs) (hm : Mods (Is k) w w') : Mods (TyB w T) w w' :=
  hm.mono fun j hj => by
    have : j = k := hj
    rw [this]
    exact h.tyb

theorem Row.ty {w w' : World} {k : Nat} {T T' : TypeId} {cs : Array Value} (h : Row w k T cs) (hm : Mods (TyB w T') w w') (hn : T ≠ T') : Row w' k T cs := h.mods hm fun h' => h.tyb.ne h' hn

theorem own_tyk {w w' : World} {base s n : Nat} {e T' : TypeId} {v : Value} {xs : List Value} (h : w.ownsRow base e s v n xs) (hm : Mods (TyB w T') w w') (hn : e ≠ T') : w'.ownsRow base e s v n xs :=
  hm.ownS h fun k hk h' => (own_ty h k hk).ne h' hn

theorem NestV.ty {α : Type} {S : Shp α} {w w' : World} {base : Nat} {v : Value} {vs : List Value} {xs : List α} {T' : TypeId} (h : NestV S w base v vs xs) (hm : Mods (TyB w T') w w') (h1 : S.eo ≠ T') (h2 : S.ei ≠ T') : NestV S w' base v vs xs :=
  ⟨own_tyk h.outer hm h1, h.len, fun i u x hu hx => own_tyk (h.inner i u x hu hx) hm h2, h.dist⟩

set_option maxRecDepth 100000 in
set_option maxHeartbeats 1000000 in
theorem longest22 (A : Option Addr) (xs : List Mi) (c : Nat) (w : World) (hs : MisAt w w.heap.size A xs) (hm : xs.length ≤ 1000000) :
    Calls Try.prog 26 #[.slice A xs.length c] w fun e w' => e = .returned (.int .i64 (mvs xs : Nat)) ∧ Below w.heap.size w w' := by
  go_enter Try.func26, Try.ntmps26
  go_wp2
  go_loopw [3, 4, 9] (fun a b i wr => ∃ (k run lon : Nat), k ≤ xs.length ∧ i = .int .i64 k ∧ a = .int .i64 run ∧ b = .int .i64 lon ∧ run ≤ lon ∧ lon ≤ k ∧ Hid (mvs xs = max lon (max (run + lead (xs.drop k)) (mvs (xs.drop k)))) ∧ Hid (Below w.heap.size w wr)) (fun _ _ i _ => xs.length - (intOf i).toNat)
  case atStart => exact ⟨0, 0, 0, Nat.zero_le _, rfl, rfl, rfl, Nat.le_refl _, Nat.le_refl _, by have := lead_mvs xs; rw [Hid, List.drop_zero]; omega, Below.refl _ _⟩
  case round =>
    obtain ⟨k, run, lon, hk, rfl, rfl, rfl, hrl, hlk, HT, HB⟩ := hrel
    by_cases hlt : k < xs.length
    · obtain ⟨b, o, rfl, hb, hat⟩ := (hs.below HB.out).at_ hlt
      have hc0 := hat.c0; have hc1 := hat.c1; have hc2 := hat.c2; have hc3 := hat.c3; have hc4 := hat.c4; have hc5 := hat.c5; have hc6 := hat.c6
      have HS : Hid (mvs xs = max (max lon (ext run xs[k])) (max (ext run xs[k] + lead (xs.drop (k + 1))) (mvs (xs.drop (k + 1))))) := by
        rw [Hid, HT.out, List.drop_eq_getElem_cons hlt]
        exact scan_step run lon xs[k] _ hrl
      have HB1 := Lib.hid (HB.out.alloc HB.out.size (.cells #[.int .i64 xs[k].op, .int .i64 xs[k].d, .int .i64 xs[k].a, .int .i64 xs[k].b, .int .i64 xs[k].imm, .int .i64 xs[k].dst, .int .i64 xs[k].src] 69))
      have hx1 := ext_le run xs[k]
      have hx2 : Hid (ext run xs[k] = if (xs[k].op == 18) = true then run + 1 else 0) := rfl
      clear hat hs HT HB
      generalize ext run xs[k] = r2 at *
      generalize xs[k] = y at *
      cases h18 : (y.op == 18)
      · have e2 := hx2.out
        rw [h18] at e2
        simp only [Bool.false_eq_true, if_false] at e2
        subst e2
        go_upto_region 8 with fail
        go_wp2
        go_roundw
        case rel => exact ⟨k + 1, 0, max lon 0, by omega, by go_num, rfl, by go_num, by omega, by omega, HS.out, HB1.out⟩
        case measure => simp [intOf]; omega
      · have e2 := hx2.out
        rw [h18] at e2
        simp only [if_true] at e2
        subst e2
        go_upto_region 8 with fail
        go_wp2
        go_roundw
        case rel => exact ⟨k + 1, run + 1, max lon (run + 1), by omega, by go_num, by go_num, by go_num, by omega, by omega, HS.out, HB1.out⟩
        case measure => simp [intOf]; omega
    · obtain rfl : k = xs.length := by omega
      rw [List.drop_length] at HT
      have HT2 : Hid (mvs xs = lon) := by rw [Hid, HT.out, lead, mvs]; omega
      go_wp2
      go_ret
      exact ⟨by rw [HT2.out]; rfl, HB.out⟩

theorem sp_locok {b : Blk} (h1 : ∀ x ∈ b.code, In22 x) (h2 : Tm22 b.term) : ∀ y ∈ (spB b).code, y.Ok := fun y hy => by
  have hf : ∀ z : Int, 0 ≤ z → z ≤ 3000000 → Fits z := fun z h1 h2 => ⟨by omega, by omega⟩
  have hl : ∀ n v : Int, 0 ≤ n → n < 2 → 0 ≤ v → v ≤ 1000000 → (ldM n v).Ok := fun n v h1 h2 h3 h4 => ⟨hf _ (by show 0 ≤ 2 * n; omega) (by show 2 * n ≤ _; omega), hf _ (by show 0 ≤ 2 * v + 1; omega) (by show 2 * v + 1 ≤ _; omega)⟩
  have hst : ∀ v : Int, 0 ≤ v → v ≤ 1000000 → (stM v).Ok := fun v h3 h4 => ⟨hf _ (by show 0 ≤ 2 * v + 1; omega) (by show 2 * v + 1 ≤ _; omega), hf 0 (by omega) (by omega)⟩
  have hy : y ∈ b.code.flatMap spI ++ spT b.term := hy
  rcases List.mem_append.1 hy with hy | hy
  · obtain ⟨x, hx, hy⟩ := List.mem_flatMap.1 hy
    obtain ⟨ho, ha, hb, hd⟩ := h1 x hx
    unfold spI at hy
    split at hy
    · rename_i h2
      have ha := ha (by rw [h2]; rfl)
      have hd := hd (by rw [h2]; rfl)
      simp only [List.mem_cons, List.not_mem_nil, or_false] at hy
      rcases hy with rfl | rfl
      · exact hl _ _ (by omega) (by omega) ha.1 ha.2
      · exact hst _ hd.1 hd.2
    · unfold spO spA spBb spD at hy
      simp only [List.mem_append, List.mem_cons] at hy
      rcases hy with (hy | hy) | rfl | hy
      · split at hy
        · rename_i hu; rw [List.mem_singleton] at hy; subst hy; exact hl _ _ (by omega) (by omega) (ha hu).1 (ha hu).2
        · cases hy
      · split at hy
        · rename_i hu; rw [List.mem_singleton] at hy; subst hy; exact hl _ _ (by omega) (by omega) (hb hu).1 (hb hu).2
        · cases hy
      · exact ⟨hf 0 (by omega) (by omega), hf 0 (by omega) (by omega)⟩
      · split at hy
        · rename_i hu; rw [List.mem_singleton] at hy; subst hy; exact hst _ (hd hu).1 (hd hu).2
        · cases hy
  · unfold spT at hy
    split at hy
    · cases hy
    · rw [List.mem_singleton] at hy
      subst hy
      rcases h2 with h | ⟨_, h3, h4⟩
      · contradiction
      · exact hl _ _ (by omega) (by omega) h3 h4

set_option maxRecDepth 100000 in
set_option maxHeartbeats 1000000 in
theorem spmoves22 (A : Option Addr) (x : Blk) (c : Nat) (w : World) (hs : InsAt w w.heap.size A x.code) (hm : x.code.length ≤ 1000) (ht : Tm22 x.term) (hx : ∀ i ∈ x.code, In22 i) :
    Calls Try.prog 12 #[.agg #[.slice A x.code.length c, .int .i64 x.term.kind, .int .i64 x.term.a, .int .i64 x.term.to, .int .i64 x.term.el]] w fun e w' => e = .returned (.int .i64 (mvs (spB x).code : Nat)) ∧ Below w.heap.size w w' := by
  have HX := Lib.hid (Row.new w 45 #[.slice A x.code.length c, .int .i64 x.term.kind, .int .i64 x.term.a, .int .i64 x.term.to, .int .i64 x.term.el])
  have hb0 : Below w.heap.size w (w.alloc (.cells #[.slice A x.code.length c, .int .i64 x.term.kind, .int .i64 x.term.a, .int .i64 x.term.to, .int .i64 x.term.el] 45)) := (Below.refl _ _).alloc (Nat.le_refl _) _
  have C1 := Lib.hid (block22 A x c (w.alloc (.cells #[.slice A x.code.length c, .int .i64 x.term.kind, .int .i64 x.term.a, .int .i64 x.term.to, .int .i64 x.term.el] 45)) ((hs.below hb0).more hb0.size) hm ht hx)
  have hok := sp_locok hx ht
  have hlen := spB_len x
  have HB0 := Lib.hid hb0
  have HOK := Lib.hid hok
  clear hs ht hx hok hb0
  go_enter Try.func12, Try.ntmps12
  go_upto_region 1 with fail
  generalize (w.alloc (.cells #[.slice A x.code.length c, .int .i64 x.term.kind, .int .i64 x.term.a, .int .i64 x.term.to, .int .i64 x.term.el] 45)) = W0 at *
  have c0 := HX.out.k0; have c1 := HX.out.k1; have c2 := HX.out.k2; have c3 := HX.out.k3; have c4 := HX.out.k4
  have hfd : ∀ (v0 v1 v2 v3 v4 : Value) w, (Instr.field 49 (.agg #[v0, v1, v2, v3, v4]) 0).run Try.prog w = .ok v0 w := by intros; kernel_rfl
  go_wp2_with fail
  refine C1.out.mono ?_
  rintro e W1 ⟨A', c', rfl, ho, hb⟩
  have C2 := Lib.hid (longest22 A' (spB x).code c' W1 (MisAt.of_own ho HOK.out) (by omega))
  have HB1 := Lib.hid (HB0.out.trans (hb.mono HB0.out.size))
  clear ho hb C1 HB0 HOK c0 c1 c2 c3 c4 HX
  obtain ⟨ys, hys⟩ : ∃ z, (spB x).code = z := ⟨_, rfl⟩
  rw [hys] at C2 hlen ⊢
  have HYS := Lib.hid hys
  clear hys
  go_wp2_with fail
  refine C2.out.mono ?_
  rintro e W2 ⟨rfl, hb⟩
  have HB2 := Lib.hid (HB1.out.trans (hb.mono HB1.out.size))
  clear hb C2 HB1
  go_wp2
  go_ret
  exact ⟨by rw [HYS.out]; rfl, HB2.out⟩

set_option maxRecDepth 100000 in
set_option maxHeartbeats 2000000 in
theorem inv22 (n : Nat) (w : World) (hn : n ≤ 1000) :
    Calls Try.prog 27 #[.int .i64 (n : Int)] w fun e w' => ∃ v, e = .returned v ∧ PL w v (invN n) w' := by
  obtain ⟨i0, hi0, hz0, hz1, hz2⟩ := info_pr
  obtain ⟨Z, hZ, hmk⟩ := make_pr n (by omega)
  have HPZ : Hid (PL w (.slice (some ⟨w.heap.size, 0, none⟩) 0 n) [] (w.alloc (.cells Z 66))) := PL.make w hZ (by omega)
  clear hZ
  go_enter Try.func27, Try.ntmps27
  go_upto_region 2 with fail
  generalize (w.alloc (.cells Z 66)) = W0 at *
  go_upto_region 3 with fail
  go_loopg [3, 8] n (fun g v3 v8 wr => ∃ i : Nat, i + g = n ∧ v8 = .int .i64 (i : Int) ∧ Hid (PL w v3 (invN i) wr))
  case atStart => exact ⟨0, by omega, by go_num, HPZ.out⟩
  case round =>
    obtain ⟨i, hg, rfl, HP⟩ := hrel
    clear HPZ
    by_cases hlt : i < n
    · have hkz : (i : Int) < (n : Int) := by omega
      have C1 := Lib.hid fun W => slot22 (i : Int) W (by omega)
      have HE := Lib.hid (show invN (i + 1) = invN i ++ [((i : Int), 2 * (i : Int) + 1)] by unfold invN; rw [List.range_succ, List.map_append]; rfl)
      have HIL := Lib.hid (invN_len i)
      generalize invN i = l at *
      go_upto_region 5 with fail
      go_wp2_with fail
      refine (C1.out _).mono ?_
      rintro e W1 ⟨rfl, rfl⟩
      have hown := (HP.out.alloc (prObj (i : Int) (2 * (i : Int) + 1))).own
      have hnew := new_sees wr (i : Int) (2 * (i : Int) + 1)
      go_wp2_with (at_builtin; refine wpList_append_any _ rfl (.tmp 11) (.tmp 16) 63 rfl _ 66 i0 (.agg #[.int .i64 0, .int .i64 0]) 2 16 Try.underlying63 hi0 hz0 hz1 hz2 rfl (by decide) _ _ _ rfl hown (wr.heap.size + 1) _ 1 1 _ rfl hnew rfl (prs_one _) ?c1 ?c2 ?c3 ?_)
      case c1 => have := HIL.out; unfold maxLen; omega
      case c2 => have := HIL.out; omega
      case c3 => have := HP.out.blw.size; simp; omega
      intro v6 W6 ho2 hg2 hb2
      have HP6 := Lib.hid (HP.out.push (i : Int) (2 * (i : Int) + 1) (by first | rfl | simp) ho2 hg2)
      clear ho2 hg2 hb2 hown hnew
      clear C1 HP
      go_wp2
      go_roundg (n - (i + 1))
      case measure => omega
      case rel => exact ⟨i + 1, by omega, by go_num, by show PL _ _ _ _; rw [HE.out]; exact HP6.out⟩
    · obtain rfl : i = n := by omega
      have hkz : ¬ (i : Int) < (i : Int) := by omega
      go_wp2
      go_ret
      exact ⟨_, rfl, HP.out⟩

end Go.Proofs.Ytcoehkphdfejjaa

/-
  The program's copy of a function; whether a certificate fits.
-/
namespace Go.Proofs.Ytcoehkphdfejjaa
open Go.RowKit
set_option linter.unusedVariables false
set_option linter.unusedSimpArgs false

set_option maxRecDepth 100000 in
set_option maxHeartbeats 1000000 in
theorem iclone22 (B : Nat) (A : Option Addr) (l : List In) (c : Nat) (w : World) (hs : InsAt w B A l) (hB : B ≤ w.heap.size) (hm : l.length ≤ 1000000) :
    Calls Try.prog 49 #[.slice A l.length c] w fun e w' => ∃ v, e = .returned v ∧ RL In.cells 5 62 w v l w' := by
  have hs := sees_insAt hs
  rcases A with _ | ad
  · obtain rfl : l = [] := by
      rcases l with _ | ⟨x, r⟩
      · rfl
      · obtain ⟨b, o, h, _⟩ := hs (by simp [In.cells])
        cases h
    have q22 : ∀ (w : World) (n c n' c' : Nat), (binOp .eql 41 (.slice none n c) (.slice none n' c')).run Try.prog w = .ok (.bool true) w := fun w n c n' c' => Lib.run_eql_slice_nil w _ _ _ n c n' c' Try.underlying41
    clear hs hm
    go_enter Try.func49, Try.ntmps49
    go_wp2
    go_ret
    exact ⟨_, rfl, RL.nil _⟩
  · have q22 : ∀ (w : World) (n c n' c' : Nat), (binOp .eql 41 (.slice (some ad) n c) (.slice none n' c')).run Try.prog w = .ok (.bool false) w := fun w n c n' c' => Lib.run_eql_slice_nil w _ _ _ n c n' c' Try.underlying41
    obtain ⟨i0, hi0, hz0, hz1, hz2⟩ := info_parts infoIn
    have hs1 := hs.alloc hB (.cells #[] 62)
    clear hs
    go_enter Try.func49, Try.ntmps49
    go_wp2_with (at_builtin; refine wpList_append_any _ rfl (.tmp 5) (.tmp 6) 41 rfl w.heap.size 62 i0 (.agg #[.int .i64 0, .int .i64 0, .int .i64 0, .int .i64 0, .int .i64 0]) 5 40 Try.underlying41 hi0 hz0 hz1 hz2 rfl (by decide) _ _ _ rfl (own_empty w 62 5) B _ _ _ (l.flatMap In.cells) rfl hs1 (ins_len _) (ins_one _) ?c1 ?c2 ?c3 ?_)
    case c1 => unfold maxLen; omega
    case c2 => omega
    case c3 => simp
    intro v1 W1 ho1 hg1 _
    have hb1 : Below w.heap.size w W1 := ((Below.refl _ _).alloc (Nat.le_refl _) _).grown hg1 (by simp) (fun k hk => by simp [Value.ownBlock] at hk; omega)
    have HP : Hid (RL In.cells 5 62 w v1 l W1) := ⟨by simpa using ho1, hb1⟩
    clear ho1 hg1 hb1
    go_wp2
    go_ret
    exact ⟨_, rfl, HP.out⟩

theorem make_blk22 (n : Nat) (hn : n ≤ 1048576) : ∃ Z : Array Value, Z.size = n * 5 ∧ ∀ w, (Instr.makeSlice 22 (.int .i64 0) (.int .i64 (n : Int))).run Try.prog w = .ok (.slice (some ⟨w.heap.size, 0, none⟩) 0 n) (w.alloc (.cells Z 45)) := by
  obtain ⟨i, hi, hz, hs, hb⟩ := info_parts infoBlk
  refine ⟨madeCells (Value.agg #[.slice none 0 0, .int .i64 0, .int .i64 0, .int .i64 0, .int .i64 0]).cells (n * i.size), ?_, fun w => ?_⟩
  · rw [size_madeCells, hs]
  · have := run_make (P := Try.prog) w _ _ i _ Try.underlying22 hi hz .i64 .i64 0 n (by decide) (by omega) (by rw [hb]; omega) (by omega)
    simpa using this

/-- Blocks of one's own, new to a world. -/
structure NC {α : Type} (S : Shp α) (w : World) (v : Value) (xs : List α) (W : World) : Prop where
  ne : ∃ vs, NestV S W w.heap.size v vs xs
  blw : Below w.heap.size w W

section
variable {α : Type} {S : Shp α} {w W W' : World} {v : Value} {xs : List α}

theorem NC.next (h : NC S w v xs W) (hb : Below W.heap.size W W') : NC S w v xs W' := by
  obtain ⟨⟨vs, hn⟩, hb0⟩ := h
  exact ⟨⟨vs, hn.below hb⟩, hb0.trans (hb.mono hb0.size)⟩

theorem NC.alloc (h : NC S w v xs W) (o : Obj) : NC S w v xs (W.alloc o) := h.next ((Below.refl _ _).alloc (Nat.le_refl _) o)

theorem NC.new (w : World) (n : Nat) (Z : Array Value) (hZ : Z.size = n * S.so) (hn : n ≤ maxLen) : NC S w (.slice (some ⟨w.heap.size, 0, none⟩) 0 n) [] (w.alloc (.cells Z S.eo)) :=
  ⟨⟨[], ⟨⟨by simp, .inr ⟨w.heap.size, n, Z, rfl, Nat.le_refl _, heap_alloc_new w _, Nat.zero_le _, hn, hZ, by simp⟩⟩, rfl, fun i u x hu => by simp at hu, fun i j u u' g hu => by simp at hu⟩⟩, (Below.refl _ _).alloc (Nat.le_refl _) _⟩

theorem NC.slice (h : NC S w v xs W) : ∃ A c, v = .slice A xs.length c ∧ xs.length ≤ c ∧ c ≤ maxLen := by
  obtain ⟨⟨vs, hn⟩, _⟩ := h
  have := ownS_slice hn.outer
  rw [hn.len] at this
  exact this

end

set_option maxRecDepth 100000 in
set_option maxHeartbeats 4000000 in
theorem spclone22 (A : Option Addr) (bs : List Blk) (c : Nat) (a r : Int) (w : World) (hs : BlksAt w w.heap.size A bs) (hm : bs.length ≤ 1000) (hn : ∀ b ∈ bs, b.code.length ≤ 1000) :
    Calls Try.prog 25 #[.agg #[.int .i64 a, .int .i64 r, .slice A bs.length c]] w fun e w' => ∃ A' c', e = .returned (.agg #[.int .i64 a, .int .i64 r, .slice A' bs.length c']) ∧ NC bshp w (.slice A' bs.length c') bs w' := by
  obtain ⟨i1, hi1, hy0, hy1, hy2⟩ := info_parts infoBlk
  obtain ⟨Z, hZ, hmk⟩ := make_blk22 bs.length (by omega)
  have HX := Lib.hid ((Row.new w 24 #[.int .i64 a, .int .i64 r, .slice A bs.length c]).alloc (.cells #[.int .i64 0, .int .i64 0, .slice none 0 0] 24))
  have HY := Row.new (w.alloc (.cells #[.int .i64 a, .int .i64 r, .slice A bs.length c] 24)) 24 #[.int .i64 0, .int .i64 0, .slice none 0 0]
  rw [show (w.alloc (.cells #[.int .i64 a, .int .i64 r, .slice A bs.length c] 24)).heap.size = w.heap.size + 1 by simp] at HY
  have HY := Lib.hid HY
  have hb0 : Below w.heap.size w ((w.alloc (.cells #[.int .i64 a, .int .i64 r, .slice A bs.length c] 24)).alloc (.cells #[.int .i64 0, .int .i64 0, .slice none 0 0] 24)) := ((Below.refl _ _).alloc (Nat.le_refl _) _).alloc (by simp) _
  have HB0 := Lib.hid hb0
  have hs0 := (hs.below hb0).more hb0.size
  have HN := Lib.hid hn
  clear hs hb0 hn
  go_enter Try.func25, Try.ntmps25
  go_upto_region 1 with fail
  generalize ((w.alloc (.cells #[.int .i64 a, .int .i64 r, .slice A bs.length c] 24)).alloc (.cells #[.int .i64 0, .int .i64 0, .slice none 0 0] 24)) = W0 at *
  obtain ⟨b1, hb1⟩ : ∃ z, w.heap.size = z := ⟨_, rfl⟩
  obtain ⟨b2, hb2⟩ : ∃ z, w.heap.size + 1 = z := ⟨_, rfl⟩
  have h12 : b1 < b2 := by omega
  have hw0 : b2 < W0.heap.size := by have := HY.out.lt; omega
  rw [hb1] at HX
  rw [hb2] at HY
  rw [hb2, hb1]
  have c2 := HX.out.k2
  have HC0 : Hid (NC bshp W0 (.slice (some ⟨W0.heap.size, 0, none⟩) 0 bs.length) [] (W0.alloc (.cells Z 45))) := NC.new W0 bs.length Z hZ (by unfold maxLen; omega)
  clear hZ
  go_upto_region 2 with fail
  clear hmk c2
  generalize (W0.alloc (.cells Z 45)) = W1 at *
  have c2 := (HX.out.below HC0.out.blw (by omega)).k2
  go_upto_region 3 with fail
  go_loopg [3, 13] bs.length (fun g v3 v13 wr => ∃ i : Nat, i + g = bs.length ∧ v13 = .int .i64 (i : Int) ∧ Hid (NC bshp W0 v3 (bs.take i) wr))
  case atStart => exact ⟨0, by omega, by go_num, HC0.out⟩
  case round =>
    obtain ⟨i, hg, rfl, HC⟩ := hrel
    clear c2 HC0
    by_cases hlt : i < bs.length
    · obtain ⟨b', o, rfl, hb, hy⟩ := (hs0.below HC.out.blw).at_ hlt
      have hyl := HN.out _ (List.getElem_mem hlt)
      have HT := Lib.hid (show bs.take (i + 1) = bs.take i ++ [bs[i]] from List.take_succ_eq_append_getElem hlt)
      have HTL := Lib.hid (show (bs.take i).length = i by rw [List.length_take]; omega)
      generalize bs[i] = y at *
      generalize bs.take i = pre at *
      obtain ⟨Av, cv, e3, _, _⟩ := HC.out.slice
      rw [HTL.out] at e3
      subst e3
      obtain ⟨A1, c1, f0, hc1, hc2, hins⟩ := hy.code
      have f1 := hy.t0; have f2 := hy.t1; have f3 := hy.t2; have f4 := hy.t3
      clear hy
      have hkz : (i : Int) < (bs.length : Int) := by omega
      go_upto_region 5 with fail
      have HX5 := Lib.hid (Row.new wr 45 #[.slice A1 y.code.length c1, .int .i64 y.term.kind, .int .i64 y.term.a, .int .i64 y.term.to, .int .i64 y.term.el])
      have HC5 := Lib.hid (HC.out.alloc (.cells #[.slice A1 y.code.length c1, .int .i64 y.term.kind, .int .i64 y.term.a, .int .i64 y.term.to, .int .i64 y.term.el] 45))
      have HI5 := Lib.hid (hins.below ((((Below.refl wr.heap.size wr).alloc (Nat.le_refl _) (.cells #[.slice A1 y.code.length c1, .int .i64 y.term.kind, .int .i64 y.term.a, .int .i64 y.term.to, .int .i64 y.term.el] 45))).mono HC.out.blw.size))
      have hwz := HC.out.blw.size
      have hkx : ∀ k, (Value.slice Av i cv).ownBlock = some k → k < wr.heap.size := fun k hk => (ownS_lt HC.out.ne.choose_spec.outer k hk).2
      have hwz5 : W0.heap.size ≤ (wr.alloc (.cells #[.slice A1 y.code.length c1, .int .i64 y.term.kind, .int .i64 y.term.a, .int .i64 y.term.to, .int .i64 y.term.el] 45)).heap.size := HC5.out.blw.size
      clear hins f0 f1 f2 f3 f4 HC
      generalize (wr.alloc (.cells #[.slice A1 y.code.length c1, .int .i64 y.term.kind, .int .i64 y.term.a, .int .i64 y.term.to, .int .i64 y.term.el] 45)) = W5 at *
      generalize wr.heap.size = xb at *
      have HG := Lib.hid (Below.refl W5.heap.size W5)
      have z0 := HX5.out.k0; have z1 := HX5.out.k1; have z2 := HX5.out.k2; have z3 := HX5.out.k3; have z4 := HX5.out.k4
      go_wp2_with fail
      refine wp_region_held_drew (S := fun w' => w'.cell? ⟨xb, 0, none⟩ = some (.slice A1 y.code.length c1) ∧ w'.cell? ⟨xb, 1, none⟩ = some (.int .i64 y.term.kind) ∧ w'.cell? ⟨xb, 2, none⟩ = some (.int .i64 y.term.a) ∧ w'.cell? ⟨xb, 3, none⟩ = some (.int .i64 y.term.to) ∧ w'.cell? ⟨xb, 4, none⟩ = some (.int .i64 y.term.el)) (by kernel_rfl) ⟨z0, z1, z2, z3, z4⟩ (fun hHeld => ?_)
      replace HG : Hid (Below W5.heap.size W5 W5.drew) := blw_drew W5 1
      generalize hVV : W5.drew = V at *
      clear hVV
      refine take_at 0 17 (.slice Av i cv) rfl rfl (by kernel_rfl) (by kernel_rfl) (by kernel_rfl) (fun _ _ _ h => h) (Or.inl ⟨by rfl, ?_⟩) hHeld ?_
      · intro w9 hSw
        (try dsimp only at hSw)
        go_simp
      (try simp only [Act.put, List.setIfInBounds_toArray, List.set_cons_zero, List.set_cons_succ])
      refine take_at 1 18 (.pointer (some ⟨xb, 0, none⟩)) rfl rfl (by kernel_rfl) (by kernel_rfl) (by kernel_rfl) (fun _ _ _ h => h) (Or.inl ⟨by rfl, ?_⟩) hHeld ?_
      · intro w9 hSw
        (try dsimp only at hSw)
        go_simp
      (try simp only [Act.put, List.setIfInBounds_toArray, List.set_cons_zero, List.set_cons_succ])
      refine take_at 2 19 (.slice A1 y.code.length c1) rfl rfl (by kernel_rfl) (by kernel_rfl) (by kernel_rfl) (fun _ _ _ h => h) (Or.inl ⟨by rfl, ?_⟩) hHeld ?_
      · intro w9 hSw
        (try dsimp only at hSw)
        go_simp
      (try simp only [Act.put, List.setIfInBounds_toArray, List.set_cons_zero, List.set_cons_succ])
      refine take_at 4 21 (.pointer (some ⟨xb, 1, none⟩)) rfl rfl (by kernel_rfl) (by kernel_rfl) (by kernel_rfl) (fun _ _ _ h => h) (Or.inl ⟨by rfl, ?_⟩) hHeld ?_
      · intro w9 hSw
        (try dsimp only at hSw)
        go_simp
      (try simp only [Act.put, List.setIfInBounds_toArray, List.set_cons_zero, List.set_cons_succ])
      refine take_at 5 22 (.agg #[.int .i64 y.term.kind, .int .i64 y.term.a, .int .i64 y.term.to, .int .i64 y.term.el]) rfl rfl (by kernel_rfl) (by kernel_rfl) (by kernel_rfl) (fun _ _ _ h => h) (Or.inl ⟨by rfl, ?_⟩) hHeld ?_
      · intro w9 hSw
        (try dsimp only at hSw)
        go_simp
      (try simp only [Act.put, List.setIfInBounds_toArray, List.set_cons_zero, List.set_cons_succ])
      refine wpAnyH_ready (rs := [3]) (by decide +kernel) (by simp) ?_
      refine AllReadyH.cons (i := 3) rfl (fun K hK => ?_) AllReadyH.nil
      go_simp
      refine (iclone22 _ A1 y.code c1 V (HI5.out.below (HG.out.mono hwz5)) (Nat.le_trans hwz5 HG.out.size) (by omega)).mono ?_
      rintro e V1 ⟨v1, rfl, hP⟩
      (try go_wp2_with fail)
      obtain ⟨A2, c2, rfl, _, _⟩ := hP.slice
      have HGV := HG
      replace HG := Lib.hid (HG.out.trans (hP.blw.mono HG.out.size))
      have HP := Lib.hid hP
      clear hP
      refine hK.out _ _ ⟨(HX5.out.below HG.out HX5.out.lt).k0, (HX5.out.below HG.out HX5.out.lt).k1, (HX5.out.below HG.out HX5.out.lt).k2, (HX5.out.below HG.out HX5.out.lt).k3, (HX5.out.below HG.out HX5.out.lt).k4⟩ (fun hHeld => ?_)
      clear hK K
      refine take_at 6 23 (.agg #[.slice A2 y.code.length c2, .int .i64 y.term.kind, .int .i64 y.term.a, .int .i64 y.term.to, .int .i64 y.term.el]) rfl rfl (by kernel_rfl) (by kernel_rfl) (by kernel_rfl) (fun _ _ _ h => h) (Or.inl ⟨by rfl, ?_⟩) hHeld ?_
      · intro w9 hSw
        (try dsimp only at hSw)
        go_simp
      (try simp only [Act.put, List.setIfInBounds_toArray, List.set_cons_zero, List.set_cons_succ])
      refine wpAnyH_ready (rs := [7]) (by decide +kernel) (by simp) ?_
      refine AllReadyH.cons (i := 7) rfl (fun K hK => ?_) AllReadyH.nil
      go_simp
      replace HG := Lib.hid (HG.out.alloc HG.out.size (.cells #[.slice A2 y.code.length c2, .int .i64 y.term.kind, .int .i64 y.term.a, .int .i64 y.term.to, .int .i64 y.term.el] 45))
      refine hK.out _ _ ⟨(HX5.out.below HG.out HX5.out.lt).k0, (HX5.out.below HG.out HX5.out.lt).k1, (HX5.out.below HG.out HX5.out.lt).k2, (HX5.out.below HG.out HX5.out.lt).k3, (HX5.out.below HG.out HX5.out.lt).k4⟩ (fun hHeld => ?_)
      clear hK K
      refine wpAnyH_ready (rs := [8]) (by decide +kernel) (by simp) ?_
      refine AllReadyH.cons (i := 8) rfl (fun K hK => ?_) AllReadyH.nil
      obtain ⟨vs, hne⟩ := (HC5.out.next HGV.out).ne
      have hvl : vs.length = i := by rw [hne.len, HTL.out]
      have HNE := Lib.hid hne
      have hP1 := HP.out.blw
      have hout := (HNE.out.below (hP1.trans ((Below.refl V1.heap.size V1).alloc (Nat.le_refl _) (.cells #[.slice A2 y.code.length c2, .int .i64 y.term.kind, .int .i64 y.term.a, .int .i64 y.term.to, .int .i64 y.term.el] 45) |>.mono hP1.size))).outer
      rw [hvl] at hout
      have HVL := Lib.hid hvl
      clear hne hvl
      refine step_append_any _ rfl (.tmp 17) (.tmp 24) 22 rfl W0.heap.size 45 i1 _ 5 56 Try.underlying22 hi1 hy0 hy1 hy2 rfl (by decide) _ i _ rfl hout (V1.heap.size + 1) (some ⟨V1.heap.size, 0, none⟩) 1 1 (bshp.oc (.slice A2 y.code.length c2) y) rfl (sees_new V1 #[.slice A2 y.code.length c2, .int .i64 y.term.kind, .int .i64 y.term.a, .int .i64 y.term.to, .int .i64 y.term.el] 45) rfl (oc_one y A2 _ c2) (by unfold maxLen; omega) (by omega) (Nat.le_trans hwz5 (Nat.le_trans HGV.out.size (Nat.le_trans hP1.size (by simp)))) ?_
      intro v2 W8 ho2 hg2 ha2
      (try dsimp only)
      have HN8 : Hid (NC bshp W0 v2 (pre ++ [y]) W8) := by
        refine ⟨⟨vs ++ [.slice A2 y.code.length c2], ?_⟩, ?_⟩
        · exact NestV.snoc (M := No) HNE.out (Mods.of_below hP1) (fun _ h => h.elim) (Nat.le_trans hwz5 HGV.out.size) HP.out.own (.cells #[.slice A2 y.code.length c2, .int .i64 y.term.kind, .int .i64 y.term.a, .int .i64 y.term.to, .int .i64 y.term.el] 45) (by rw [HVL.out]; exact ho2) hg2
        · exact (((HC5.out.blw.trans (HGV.out.mono hwz5)).trans (hP1.mono (Nat.le_trans hwz5 HGV.out.size))).alloc (Nat.le_trans hwz5 (Nat.le_trans HGV.out.size hP1.size)) _).grown hg2 (Nat.le_trans hwz5 (Nat.le_trans HGV.out.size (Nat.le_trans hP1.size (by simp)))) fun k hk => (ownS_lt (HC5.out.ne.choose_spec.outer) k hk).1
      have hx8 := (HX5.out.below HGV.out HX5.out.lt).below hP1 (Nat.lt_of_lt_of_le HX5.out.lt HGV.out.size)
      have hx9 := Lib.hid ((hx8.alloc (.cells #[.slice A2 y.code.length c2, .int .i64 y.term.kind, .int .i64 y.term.a, .int .i64 y.term.to, .int .i64 y.term.el] 45)).mods ((Mods.refl (fun k => (Value.slice Av i cv).ownBlock = some k) _).grown hg2 fun k hk => .inl hk) (fun e => Nat.lt_irrefl _ (hkx xb e)))
      clear hx8 hP1 hout hg2 ho2 ha2
      refine hK.out _ _ ⟨hx9.out.k0, hx9.out.k1, hx9.out.k2, hx9.out.k3, hx9.out.k4⟩ (fun hHeld => ?_)
      clear hK K
      refine take_at 9 3 (v2) rfl rfl (by kernel_rfl) (by kernel_rfl) (by kernel_rfl) (fun _ _ _ h => h) (Or.inl ⟨by rfl, ?_⟩) hHeld ?_
      · intro w9 hSw
        (try dsimp only at hSw)
        go_simp
      (try simp only [Act.put, List.setIfInBounds_toArray, List.set_cons_zero, List.set_cons_succ])
      refine wpAnyH_done (by decide +kernel) ?_ _
      clear hHeld z0 z1 z2 z3 z4
      go_wp2
      go_roundg (bs.length - (i + 1))
      case measure => omega
      case rel => exact ⟨i + 1, by omega, by go_num, by show NC _ _ _ _ _; rw [HT.out]; exact HN8.out⟩
    · have hkz : ¬ (i : Int) < (bs.length : Int) := by omega
      have hk2 : bs.take i = bs := List.take_of_length_le (by omega)
      rw [hk2] at HC
      obtain ⟨Av, cv, rfl, _, _⟩ := HC.out.slice
      have HXe := Lib.hid (HX.out.below HC.out.blw (by omega))
      have HYe := Lib.hid (HY.out.below HC.out.blw (by omega))
      clear hk2
      have x0 := HXe.out.k0; have x1 := HXe.out.k1; have x2 := HXe.out.k2; have g2 := HXe.out.frozen 2
      have y0 := HYe.out.k0; have y1 := HYe.out.k1; have y2 := HYe.out.k2; have h0 := HYe.out.frozen 0; have h1 := HYe.out.frozen 1; have h2 := HYe.out.frozen 2
      have q0 := (HXe.out.put 2 (.slice Av bs.length cv)).k0; have q1 := (HXe.out.put 2 (.slice Av bs.length cv)).k1; have q2 := (HXe.out.put 2 (.slice Av bs.length cv)).k2
      go_wp2
      have m1 : Mods (Is b1) wr (wr.setCell ⟨b1, 2, none⟩ (.slice Av bs.length cv)) := (Mods.refl (Is b1) wr).put 2 _
      have m2 : Mods (Is b2) (wr.setCell ⟨b1, 2, none⟩ (.slice Av bs.length cv)) ((((wr.setCell ⟨b1, 2, none⟩ (.slice Av bs.length cv)).setCell ⟨b2, 0, none⟩ (.int .i64 a)).setCell ⟨b2, 1, none⟩ (.int .i64 r)).setCell ⟨b2, 2, none⟩ (.slice Av bs.length cv)) := (((Mods.refl (Is b2) _).put 0 _).put 1 _).put 2 _
      have m3 := (m1.mono (S' := fun k => k < W0.heap.size) fun k hk => by unfold Is at hk; omega).trans (m2.mono (S' := fun k => k < W0.heap.size) fun k hk => by unfold Is at hk; omega)
      have m4 : Mods (fun k => b1 ≤ k) wr _ := (m1.mono (S' := fun k => b1 ≤ k) fun k hk => by unfold Is at hk; omega).trans (m2.mono (S' := fun k => b1 ≤ k) fun k hk => by unfold Is at hk; omega)
      refine bodyPost_ret (v := .agg #[.int .i64 a, .int .i64 r, .slice Av bs.length cv]) ?_ rfl ⟨Av, cv, rfl, ?_, ?_⟩
      · exact results_cell_row rfl _ _ b2 24 #[.int .i64 a, .int .i64 r, .slice Av bs.length cv] (0, 0) _ rfl ((((HYe.out.far (q := ⟨b1, 2, none⟩) (by show b2 ≠ b1; omega) _).put 0 _).put 1 _).put 2 _) Try.underlying24 rfl (by kernel_rfl)
      · obtain ⟨⟨vs, hne⟩, _⟩ := HC.out
        exact ⟨vs, (hne.mods m3 fun k h1 _ h2 => by omega).rebase (by omega)⟩
      · have hbz := HB0.out.size
        have hz := HC.out.blw.size
        exact (HB0.out.trans (HC.out.blw.mono hbz)).trans (m4.below (by omega) fun k hk => by omega)

end Go.Proofs.Ytcoehkphdfejjaa

/-
  Whether a certificate fits; what Cert carries.
-/
namespace Go.Proofs.Ytcoehkphdfejjaa
open Go.RowKit
set_option linter.unusedVariables false
set_option linter.unusedSimpArgs false

set_option maxRecDepth 100000 in
set_option maxHeartbeats 2000000 in
theorem fits22 (A : Option Addr) (bs : List Blk) (c : Nat) (a r : Int) (w : World) (hs : BlksAt w w.heap.size A bs) (hm : bs.length ≤ 40) (hn : codeN bs ≤ 300) (hr : 0 ≤ r ∧ r ≤ 60) (ht : ∀ b ∈ bs, Tm22 b.term) :
    Calls Try.prog 24 #[.agg #[.int .i64 a, .int .i64 r, .slice A bs.length c]] w fun e w' => e = .returned (.bool true) ∧ Below w.heap.size w w' := by
  have HX := Lib.hid (Row.new w 24 #[.int .i64 a, .int .i64 r, .slice A bs.length c])
  have hb0 : Below w.heap.size w (w.alloc (.cells #[.int .i64 a, .int .i64 r, .slice A bs.length c] 24)) := (Below.refl _ _).alloc (Nat.le_refl _) _
  have HB0 := Lib.hid hb0
  have hs0 := (hs.below hb0).more hb0.size
  have HT := Lib.hid ht
  clear hs hb0 ht
  go_enter Try.func24, Try.ntmps24
  go_upto_region 1 with fail
  generalize (w.alloc (.cells #[.int .i64 a, .int .i64 r, .slice A bs.length c] 24)) = W0 at *
  have c2 := HX.out.k2
  go_upto_region 3 with fail
  go_loopg [3, 9] bs.length (fun g v3 v9 wr => ∃ i n : Nat, i + g = bs.length ∧ v9 = .int .i64 (i : Int) ∧ v3 = .int .i64 (n : Int) ∧ n ≤ 4 * codeN (bs.take i) + i ∧ Hid (Below W0.heap.size W0 wr))
  case atStart => exact ⟨0, 0, by omega, by go_num, by go_num, by omega, Below.refl _ _⟩
  case round =>
    obtain ⟨i, n, hg, rfl, rfl, hni, HB⟩ := hrel
    clear c2
    by_cases hlt : i < bs.length
    · obtain ⟨b', o, rfl, hb, hy⟩ := (hs0.below HB.out).at_ hlt
      have hst := codeN_step bs i hlt
      have hct := codeN_take bs (i + 1)
      have hty := HT.out _ (List.getElem_mem hlt)
      generalize bs[i] = y at *
      obtain ⟨A1, c1, f0, hc1, hc2, hins⟩ := hy.code
      have f1 := hy.t0; have f2 := hy.t1; have f3 := hy.t2; have f4 := hy.t3
      clear hy
      have hkz : (i : Int) < (bs.length : Int) := by omega
      go_upto_region 5 with fail
      have HX5 := Lib.hid (Row.new wr 45 #[.slice A1 y.code.length c1, .int .i64 y.term.kind, .int .i64 y.term.a, .int .i64 y.term.to, .int .i64 y.term.el])
      have hb5 : Below wr.heap.size wr (wr.alloc (.cells #[.slice A1 y.code.length c1, .int .i64 y.term.kind, .int .i64 y.term.a, .int .i64 y.term.to, .int .i64 y.term.el] 45)) := (Below.refl _ _).alloc (Nat.le_refl _) _
      have hz := HB.out.size
      have hz5 := hb5.size
      have C := Lib.hid (size22 A1 y c1 (wr.alloc (.cells #[.slice A1 y.code.length c1, .int .i64 y.term.kind, .int .i64 y.term.a, .int .i64 y.term.to, .int .i64 y.term.el] 45)) ((hins.below (hb5.mono hz)).more (by omega)) (by omega) hty)
      have HB5 := Lib.hid (HB.out.trans (hb5.mono hz))
      clear hins f0 f1 f2 f3 f4 HB hb5 hz hz5
      generalize (wr.alloc (.cells #[.slice A1 y.code.length c1, .int .i64 y.term.kind, .int .i64 y.term.a, .int .i64 y.term.to, .int .i64 y.term.el] 45)) = W5 at *
      generalize wr.heap.size = xb at *
      have z0 := HX5.out.k0; have z1 := HX5.out.k1; have z2 := HX5.out.k2; have z3 := HX5.out.k3; have z4 := HX5.out.k4
      go_wp2_with fail
      refine C.out.mono ?_
      rintro e W6 ⟨⟨m, hm4, rfl⟩, hb6⟩
      have HB6 := Lib.hid (HB5.out.trans (hb6.mono HB5.out.size))
      clear hb6 HB5 z0 z1 z2 z3 z4 HX5 C
      go_wp2
      go_roundg (bs.length - (i + 1))
      case measure => omega
      case rel => exact ⟨i + 1, n + m, by omega, by go_num, by go_num, by omega, HB6.out⟩
    · have hkz : ¬ (i : Int) < (bs.length : Int) := by omega
      have hct := codeN_take bs i
      have hle : decide ((n : Int) ≤ 1048576) = true := decide_eq_true (by omega)
      obtain ⟨m, hmm⟩ : ∃ m : Int, (bs.length : Int) * r = m := ⟨_, rfl⟩
      have hm0 : 0 ≤ m := by rw [← hmm]; exact Int.mul_nonneg (by omega) hr.1
      have hm1 : m ≤ 2400 := by
        have h1 : (bs.length : Int) * r ≤ 40 * r := Int.mul_le_mul_of_nonneg_right (by omega) hr.1
        omega
      have hwr : IntKind.i64.wrap ((bs.length : Int) * r) = m := by rw [hmm, IntKind.wrap_i64]; omega
      have hle2 : decide (m ≤ 1048576) = true := decide_eq_true (by omega)
      have x1 := (HX.out.below HB.out HX.out.lt).k1; have x2 := (HX.out.below HB.out HX.out.lt).k2
      have HBE := Lib.hid (HB0.out.trans (HB.out.mono HB0.out.size))
      clear hmm
      go_upto_region 7 with fail
      clear hkz
      go_wp2
      go_ret
      exact ⟨rfl, HBE.out⟩

/-! Appending to blocks of one's own. -/

theorem nc_outer {α : Type} {S : Shp α} {w W Wm : World} {v : Value} {vs : List Value} {xs : List α} {n : Nat} (h : NestV S W w.heap.size v vs xs) (hm : Below W.heap.size W Wm) (o : Obj) (hl : xs.length = n) : (Wm.alloc o).ownsRow w.heap.size S.eo S.so v n ((vs.zip xs).flatMap fun p => S.oc p.1 p.2) := by
  have := (h.below (hm.alloc hm.size o)).outer
  rwa [h.len, hl] at this

theorem nc_snoc {α : Type} {S : Shp α} {w W Wm W' : World} {v v' u : Value} {vs : List Value} {xs : List α} {x : α} {n : Nat} (h : NestV S W w.heap.size v vs xs) (hb : Below w.heap.size w W) (hm : Below W.heap.size W Wm) (hl : xs.length = n)
    (hu : Wm.ownsRow W.heap.size S.ei S.si u (S.il x) (S.ic x)) (o : Obj) (ho : W'.ownsRow w.heap.size S.eo S.so v' (n + 1) (((vs.zip xs).flatMap fun p => S.oc p.1 p.2) ++ S.oc u x)) (hg : (Wm.alloc o).grownBy W' v.ownBlock) : NC S w v' (xs ++ [x]) W' := by
  have hz := hb.size
  refine ⟨⟨vs ++ [u], NestV.snoc (M := No) h (Mods.of_below hm) (fun _ h => h.elim) hz hu o (by rw [h.len, hl]; exact ho) hg⟩, ?_⟩
  exact (((hb.trans (hm.mono hz))).alloc (Nat.le_trans hz hm.size) o).grown hg (Nat.le_trans hz (Nat.le_trans hm.size (by simp))) fun k hk => (ownS_lt h.outer k hk).1

theorem NC.ty {α : Type} {S : Shp α} {w W W' : World} {v : Value} {xs : List α} {T : TypeId} (h : NC S w v xs W) (hm : Mods (TyB W T) W W') (h1 : S.eo ≠ T) (h2 : S.ei ≠ T) (hb : Below w.heap.size w W') : NC S w v xs W' := by
  obtain ⟨⟨vs, hn⟩, _⟩ := h
  exact ⟨⟨vs, hn.ty hm h1 h2⟩, hb⟩

/-- What Cert carries: the boxes, the certificate at block cb. -/
structure CT (w : World) (b1 b2 cb : Nat) (r1 : Array Value) (a r : Int) (n : Nat) (bs : List Blk) (S1 : Value) (i : Nat) (A2 : Option Addr) (c2 : Nat) (l2 : List MBlk) (j : Nat) (A3 : Option Addr) (c3 : Nat) (l3 : List (List Pr)) (W : World) : Prop where
  x1 : Row W b1 24 r1
  x2 : Row W b2 32 #[.int .i64 0, .int .i64 0, .slice none 0 0, .int .i64 0, .int .i64 0, .int .i64 0, .slice none 0 0, .slice none 0 0]
  xc : Row W cb 32 #[.int .i64 a, .int .i64 r, S1, .int .i64 a, .int .i64 2, .int .i64 r, .slice A2 i c2, .slice A3 j c3]
  n1 : NC bshp w S1 bs W
  n2 : NC mshp w (.slice A2 i c2) l2 W
  n3 : NC pshp w (.slice A3 j c3) l3 W
  hi : l2.length = i
  hj : l3.length = j
  lo : b1 < b2 ∧ b2 < w.heap.size ∧ w.heap.size ≤ cb

section
variable {w W Wm W' : World} {b1 b2 cb : Nat} {r1 : Array Value} {a r : Int} {n : Nat} {bs : List Blk} {S1 : Value} {i : Nat} {A2 : Option Addr} {c2 : Nat} {l2 : List MBlk} {j : Nat} {A3 : Option Addr} {c3 : Nat} {l3 : List (List Pr)}

theorem CT.next (h : CT w b1 b2 cb r1 a r n bs S1 i A2 c2 l2 j A3 c3 l3 W) (hb : Below W.heap.size W W') : CT w b1 b2 cb r1 a r n bs S1 i A2 c2 l2 j A3 c3 l3 W' :=
  ⟨h.x1.below hb h.x1.lt, h.x2.below hb h.x2.lt, h.xc.below hb h.xc.lt, h.n1.next hb, h.n2.next hb, h.n3.next hb, h.hi, h.hj, h.lo⟩

theorem CT.alloc (h : CT w b1 b2 cb r1 a r n bs S1 i A2 c2 l2 j A3 c3 l3 W) (o : Obj) : CT w b1 b2 cb r1 a r n bs S1 i A2 c2 l2 j A3 c3 l3 (W.alloc o) := h.next ((Below.refl _ _).alloc (Nat.le_refl _) o)

theorem CT.push2 (h : CT w b1 b2 cb r1 a r n bs S1 i A2 c2 l2 j A3 c3 l3 W) (hm : Below W.heap.size W Wm) {vs : List Value} (hne : NestV mshp W w.heap.size (.slice A2 i c2) vs l2) {u : Value} {x : MBlk} (hu : Wm.ownsRow W.heap.size 69 7 u x.code.length (x.code.flatMap Mi.cells)) (o : Obj) {A2' : Option Addr} {c2' : Nat}
    (ho : W'.ownsRow w.heap.size 49 5 (.slice A2' (i + 1) c2') (i + 1) (((vs.zip l2).flatMap fun p => mshp.oc p.1 p.2) ++ mshp.oc u x)) (hg : (Wm.alloc o).grownBy W' (Value.slice A2 i c2).ownBlock) :
    CT w b1 b2 cb r1 a r n bs S1 (i + 1) A2' c2' (l2 ++ [x]) j A3 c3 l3 (W'.setCell ⟨cb, 6, none⟩ (.slice A2' (i + 1) c2')) ∧ Row W' cb 32 #[.int .i64 a, .int .i64 r, S1, .int .i64 a, .int .i64 2, .int .i64 r, .slice A2 i c2, .slice A3 j c3] := by
  have hma := h.next (hm.alloc hm.size o)
  have hout := nc_outer (w := w) hne hm o h.hi
  have hG := grown_ty hout hg
  have hxc := hma.xc.ty hG (by decide)
  have hN2 := nc_snoc (w := w) hne h.n2.blw hm h.hi hu o ho hg
  have hP : Mods (Is cb) W' (W'.setCell ⟨cb, 6, none⟩ (.slice A2' (i + 1) c2')) := (Mods.refl (Is cb) W').put 6 _
  have hT := put_ty hxc hP
  have hbP : ∀ {Z : World}, Below w.heap.size w W' → Below w.heap.size w (W'.setCell ⟨cb, 6, none⟩ (.slice A2' (i + 1) c2')) := fun hb => hb.trans (hP.below hb.size fun k hk => by unfold Is at hk; have := h.lo; omega)
  have hb9 := hbP (Z := w) hN2.blw
  have hlo := h.lo
  refine ⟨⟨(hma.x1.ty hG (by decide)).ty hT (by decide), (hma.x2.ty hG (by decide)).mods hP (fun e => by have : b2 = cb := e; omega), hxc.put 6 _, (hma.n1.ty hG (by decide) (by decide) hN2.blw).ty hT (by decide) (by decide) hb9, hN2.ty hT (by decide) (by decide) hb9, (hma.n3.ty hG (by decide) (by decide) hN2.blw).ty hT (by decide) (by decide) hb9, by rw [List.length_append, h.hi]; rfl, h.hj, h.lo⟩, hxc⟩

theorem CT.push3 (h : CT w b1 b2 cb r1 a r n bs S1 i A2 c2 l2 j A3 c3 l3 W) (hm : Below W.heap.size W Wm) {vs : List Value} (hne : NestV pshp W w.heap.size (.slice A3 j c3) vs l3) {u : Value} {x : List Pr} (hu : Wm.ownsRow W.heap.size 66 2 u x.length (prs x)) (o : Obj) {A3' : Option Addr} {c3' : Nat}
    (ho : W'.ownsRow w.heap.size 63 1 (.slice A3' (j + 1) c3') (j + 1) (((vs.zip l3).flatMap fun p => pshp.oc p.1 p.2) ++ [u])) (hg : (Wm.alloc o).grownBy W' (Value.slice A3 j c3).ownBlock) :
    CT w b1 b2 cb r1 a r n bs S1 i A2 c2 l2 (j + 1) A3' c3' (l3 ++ [x]) (W'.setCell ⟨cb, 7, none⟩ (.slice A3' (j + 1) c3')) ∧ Row W' cb 32 #[.int .i64 a, .int .i64 r, S1, .int .i64 a, .int .i64 2, .int .i64 r, .slice A2 i c2, .slice A3 j c3] ∧ Row W' b1 24 r1 := by
  have hma := h.next (hm.alloc hm.size o)
  have hout := nc_outer (w := w) hne hm o h.hj
  have hG := grown_ty hout hg
  have hxc := hma.xc.ty hG (by decide)
  have hN3 := nc_snoc (w := w) hne h.n3.blw hm h.hj hu o ho hg
  have hP : Mods (Is cb) W' (W'.setCell ⟨cb, 7, none⟩ (.slice A3' (j + 1) c3')) := (Mods.refl (Is cb) W').put 7 _
  have hT := put_ty hxc hP
  have hbP : ∀ {Z : World}, Below w.heap.size w W' → Below w.heap.size w (W'.setCell ⟨cb, 7, none⟩ (.slice A3' (j + 1) c3')) := fun hb => hb.trans (hP.below hb.size fun k hk => by unfold Is at hk; have := h.lo; omega)
  have hb9 := hbP (Z := w) hN3.blw
  have hlo := h.lo
  refine ⟨⟨(hma.x1.ty hG (by decide)).ty hT (by decide), (hma.x2.ty hG (by decide)).mods hP (fun e => by have : b2 = cb := e; omega), hxc.put 7 _, (hma.n1.ty hG (by decide) (by decide) hN3.blw).ty hT (by decide) (by decide) hb9, (hma.n2.ty hG (by decide) (by decide) hN3.blw).ty hT (by decide) (by decide) hb9, hN3.ty hT (by decide) (by decide) hb9, h.hi, by rw [List.length_append, h.hj]; rfl, h.lo⟩, hxc, hma.x1.ty hG (by decide)⟩

end

/-- What Cert leaves: a certificate of one's own, and the error. -/
def SaP (w : World) (q : Ct × Int) (e : Ending) (w' : World) : Prop :=
  ∃ A1 c1 A2 c2 A3 c3, e = .returned (.tuple #[.agg #[.int .i64 q.1.sa, .int .i64 q.1.sr, .slice A1 q.1.bs.length c1, .int .i64 q.1.ta, .int .i64 q.1.tr, .int .i64 q.1.ts, .slice A2 q.1.ms.length c2, .slice A3 q.1.inv.length c3], .int .i64 q.2]) ∧
    NC bshp w (.slice A1 q.1.bs.length c1) q.1.bs w' ∧ NC mshp w (.slice A2 q.1.ms.length c2) q.1.ms w' ∧ NC pshp w (.slice A3 q.1.inv.length c3) q.1.inv w'

theorem NC.nil {α : Type} (S : Shp α) {w W : World} (hb : Below w.heap.size w W) : NC S w (.slice none 0 0) [] W := ⟨⟨[], NestV.nil _ _⟩, hb⟩

theorem SaP.bad {w W : World} (hb : Below w.heap.size w W) (x : Int) : SaP w (nCt, x) (.returned (.tuple #[.agg #[.int .i64 0, .int .i64 0, .slice none 0 0, .int .i64 0, .int .i64 0, .int .i64 0, .slice none 0 0, .slice none 0 0], .int .i64 x])) W :=
  ⟨none, 0, none, 0, none, 0, rfl, NC.nil _ hb, NC.nil _ hb, NC.nil _ hb⟩

theorem NC.base {α : Type} {S : Shp α} {w w0 W : World} {v : Value} {xs : List α} (h : NC S w0 v xs W) (hb : Below w.heap.size w w0) : NC S w v xs W := by
  obtain ⟨⟨vs, hn⟩, hb0⟩ := h
  exact ⟨⟨vs, hn.rebase hb.size⟩, hb.trans (hb0.mono hb.size)⟩

end Go.Proofs.Ytcoehkphdfejjaa

/-
  Cert.
-/
namespace Go.Proofs.Ytcoehkphdfejjaa
open Go.RowKit
set_option linter.unusedVariables false
set_option linter.unusedSimpArgs false

theorem results_row_tmp22 {P : Program} {fn : Func} {t p : Tmp} {ty : TypeId} (h : fn.results = #[.cell p ty, .tmp t]) (tmps : Array Value) (w : World) (g : Nat) (T : TypeId) (cs : Array Value) (fr : Nat × Nat) (d : TypeDesc) {v : Value} (hv : tmps.getD t undef = v)
    (hp : tmps.getD p undef = .pointer (some ⟨g, 0, none⟩)) (hg : w.heap[g]? = some (.cells cs T fr))
    (hu : P.underlying ty = some d) (hd : (match d with | .struct _ | .array _ _ => true | _ => false) = true) (hi : (P.info? ty).map (·.size) = some cs.size) :
    (results fn tmps).run P w = .ok (.tuple #[.agg cs, v]) w := by
  subst hv
  have hp' : tmps[p]?.getD undef = .pointer (some ⟨g, 0, none⟩) := by simpa using hp
  simp [results, h, hp', asAddr, run_loadVar_row w g T ty cs fr d hg hu hd hi, Result.andThen]

theorem Row.put8s {W : World} {p : Nat} {T : TypeId} {z0 z1 z2 z3 z4 z5 z6 z7 : Value} (h : Row W p T #[z0, z1, z2, z3, z4, z5, z6, z7]) (a0 a1 a2 a3 a4 a5 a6 a7 : Value) : Row ((((((((W.setCell ⟨p, 0, none⟩ a0).setCell ⟨p, 1, none⟩ a1).setCell ⟨p, 2, none⟩ a2).setCell ⟨p, 3, none⟩ a3).setCell ⟨p, 4, none⟩ a4).setCell ⟨p, 5, none⟩ a5).setCell ⟨p, 6, none⟩ a6).setCell ⟨p, 7, none⟩ a7) p T #[a0, a1, a2, a3, a4, a5, a6, a7] := by
  have q0 : Row _ p T #[a0, z1, z2, z3, z4, z5, z6, z7] := h.put 0 a0
  have q1 : Row _ p T #[a0, a1, z2, z3, z4, z5, z6, z7] := q0.put 1 a1
  have q2 : Row _ p T #[a0, a1, a2, z3, z4, z5, z6, z7] := q1.put 2 a2
  have q3 : Row _ p T #[a0, a1, a2, a3, z4, z5, z6, z7] := q2.put 3 a3
  have q4 : Row _ p T #[a0, a1, a2, a3, a4, z5, z6, z7] := q3.put 4 a4
  have q5 : Row _ p T #[a0, a1, a2, a3, a4, a5, z6, z7] := q4.put 5 a5
  have q6 : Row _ p T #[a0, a1, a2, a3, a4, a5, a6, z7] := q5.put 6 a6
  exact q6.put 7 a7

theorem mods8s (W : World) (p : Nat) (a0 a1 a2 a3 a4 a5 a6 a7 : Value) : Mods (Is p) W ((((((((W.setCell ⟨p, 0, none⟩ a0).setCell ⟨p, 1, none⟩ a1).setCell ⟨p, 2, none⟩ a2).setCell ⟨p, 3, none⟩ a3).setCell ⟨p, 4, none⟩ a4).setCell ⟨p, 5, none⟩ a5).setCell ⟨p, 6, none⟩ a6).setCell ⟨p, 7, none⟩ a7) :=
  ((((((((Mods.refl _ W).put 0 a0).put 1 a1).put 2 a2).put 3 a3).put 4 a4).put 5 a5).put 6 a6).put 7 a7

/-- Cert ends by an error: its result is a zero certificate. -/
theorem cert_bad22 {w W : World} {b2 : Nat} (hw : w.heap.size ≤ b2) (h2 : Row W b2 32 #[.int .i64 0, .int .i64 0, .slice none 0 0, .int .i64 0, .int .i64 0, .int .i64 0, .slice none 0 0, .slice none 0 0]) (hb : Below w.heap.size w W) : Row ((((((((W.setCell ⟨b2, 0, none⟩ (.int .i64 0)).setCell ⟨b2, 1, none⟩ (.int .i64 0)).setCell ⟨b2, 2, none⟩ (.slice none 0 0)).setCell ⟨b2, 3, none⟩ (.int .i64 0)).setCell ⟨b2, 4, none⟩ (.int .i64 0)).setCell ⟨b2, 5, none⟩ (.int .i64 0)).setCell ⟨b2, 6, none⟩ (.slice none 0 0)).setCell ⟨b2, 7, none⟩ (.slice none 0 0)) b2 32 #[.int .i64 0, .int .i64 0, .slice none 0 0, .int .i64 0, .int .i64 0, .int .i64 0, .slice none 0 0, .slice none 0 0] ∧ Below w.heap.size w ((((((((W.setCell ⟨b2, 0, none⟩ (.int .i64 0)).setCell ⟨b2, 1, none⟩ (.int .i64 0)).setCell ⟨b2, 2, none⟩ (.slice none 0 0)).setCell ⟨b2, 3, none⟩ (.int .i64 0)).setCell ⟨b2, 4, none⟩ (.int .i64 0)).setCell ⟨b2, 5, none⟩ (.int .i64 0)).setCell ⟨b2, 6, none⟩ (.slice none 0 0)).setCell ⟨b2, 7, none⟩ (.slice none 0 0)) :=
  ⟨Row.put8s h2 _ _ _ _ _ _ _ _, hb.trans ((mods8s W b2 _ _ _ _ _ _ _ _).below hb.size fun k hk => by unfold Is at hk; omega)⟩

theorem ho_back {W : World} {base base' n s : Nat} {e : TypeId} {v : Value} {xs : List Value} (h : W.ownsRow base e s v n xs) (hb : base' ≤ base) : W.ownsRow base' e s v n xs := ownS_base h hb

set_option maxRecDepth 100000 in
set_option maxHeartbeats 8000000 in
theorem cert22 (A : Option Addr) (bs : List Blk) (c : Nat) (a r : Int) (w : World) (hs : BlksAt w w.heap.size A bs) (hf : FewF r bs) :
    Calls Try.prog 8 #[.agg #[.int .i64 a, .int .i64 r, .slice A bs.length c]] w (SaP w (spR a r bs)) := by
  have mixed : Try.prog.follows .mixedOrders = true := by kernel_rfl
  obtain ⟨hm, hr60, hcn⟩ := hf
  have HX := Lib.hid ((Row.new w 24 #[.int .i64 a, .int .i64 r, .slice A bs.length c]).alloc (.cells #[.int .i64 0, .int .i64 0, .slice none 0 0, .int .i64 0, .int .i64 0, .int .i64 0, .slice none 0 0, .slice none 0 0] 32))
  have HY := Row.new (w.alloc (.cells #[.int .i64 a, .int .i64 r, .slice A bs.length c] 24)) 32 #[.int .i64 0, .int .i64 0, .slice none 0 0, .int .i64 0, .int .i64 0, .int .i64 0, .slice none 0 0, .slice none 0 0]
  rw [show (w.alloc (.cells #[.int .i64 a, .int .i64 r, .slice A bs.length c] 24)).heap.size = w.heap.size + 1 by simp] at HY
  have HY := Lib.hid HY
  have hb0 : Below w.heap.size w ((w.alloc (.cells #[.int .i64 a, .int .i64 r, .slice A bs.length c] 24)).alloc (.cells #[.int .i64 0, .int .i64 0, .slice none 0 0, .int .i64 0, .int .i64 0, .int .i64 0, .slice none 0 0, .slice none 0 0] 32)) := ((Below.refl _ _).alloc (Nat.le_refl _) _).alloc (by simp) _
  have HB0 := Lib.hid hb0
  have hs0 := (hs.below hb0).more hb0.size
  obtain ⟨er, her⟩ : ∃ z, eF a r bs = z := ⟨_, rfl⟩
  have HSR : Hid (spR a r bs = if er ≠ 0 then (nCt, er) else if longB bs = true then (nCt, 15) else (spC a r bs, 0)) := by rw [← her]; rfl
  have C1 := Lib.hid fun W (h : Below ((w.alloc (.cells #[.int .i64 a, .int .i64 r, .slice A bs.length c] 24)).alloc (.cells #[.int .i64 0, .int .i64 0, .slice none 0 0, .int .i64 0, .int .i64 0, .int .i64 0, .slice none 0 0, .slice none 0 0] 32)).heap.size ((w.alloc (.cells #[.int .i64 a, .int .i64 r, .slice A bs.length c] 24)).alloc (.cells #[.int .i64 0, .int .i64 0, .slice none 0 0, .int .i64 0, .int .i64 0, .int .i64 0, .slice none 0 0, .slice none 0 0] 32)) W) => check_any _ A bs c a r W ((hs0.below h).more h.size) (Nat.le_refl _) (by omega) (by omega)
  rw [her] at C1
  have HER := Lib.hid her
  clear hs hb0 her
  obtain ⟨SR, hSR⟩ : ∃ z, spR a r bs = z := ⟨_, rfl⟩
  rw [hSR] at HSR ⊢
  clear hSR
  go_enter Try.func8, Try.ntmps8
  go_upto_region 1 with fail
  generalize ((w.alloc (.cells #[.int .i64 a, .int .i64 r, .slice A bs.length c] 24)).alloc (.cells #[.int .i64 0, .int .i64 0, .slice none 0 0, .int .i64 0, .int .i64 0, .int .i64 0, .slice none 0 0, .slice none 0 0] 32)) = W0 at *
  obtain ⟨b1, hb1⟩ : ∃ z, w.heap.size = z := ⟨_, rfl⟩
  obtain ⟨b2, hb2⟩ : ∃ z, w.heap.size + 1 = z := ⟨_, rfl⟩
  have h12 : b1 < b2 := by omega
  have hwb : w.heap.size ≤ b2 := by omega
  rw [hb1] at HX
  rw [hb2] at HY
  rw [hb2, hb1]
  clear hb1 hb2
  have x0 := HX.out.k0; have x1 := HX.out.k1; have x2 := HX.out.k2
  go_wp2_with fail
  refine (C1.out _ (Below.refl _ _)).mono ?_
  rintro e W1 ⟨rfl, hb⟩
  have HB1 := Lib.hid (HB0.out.trans (hb.mono HB0.out.size))
  have HX1 := Lib.hid (HX.out.below hb HX.out.lt)
  have HY1 := Lib.hid (HY.out.below hb HY.out.lt)
  have HWW := Lib.hid hb
  clear hb C1 x0 x1 x2 HX HY
  by_cases hz : er = 0
  · have e1 : (er != 0) = false := by simp [hz]
    have her := HER.out
    rw [hz] at her HSR
    simp only [ne_eq, not_true_eq_false, if_false] at HSR
    obtain ⟨q1, q2, q3, q4, q5, q6, q7⟩ := eF_of her
    have H7 := Lib.hid q7
    have HI22 : Hid (∀ b ∈ bs, (∀ i ∈ b.code, In22 i) ∧ Tm22 b.term) := fun b hb => ⟨fun i hi => in22_of ((q7 b hb).1 i hi) (by omega), tm22_of (q7 b hb).2 (by omega)⟩
    clear hz her q7 HER
    go_upto_region 4 with fail
    have C2 := Lib.hid (fits22 A bs c a r W1 ((hs0.below HWW.out).more HWW.out.size) hm hcn ⟨by omega, hr60⟩ fun b hb => (HI22.out b hb).2)
    have x0 := HX1.out.k0; have x1 := HX1.out.k1; have x2 := HX1.out.k2
    go_wp2_with fail
    refine C2.out.mono ?_
    rintro e W2 ⟨rfl, hb⟩
    have HB2 := Lib.hid (HB1.out.trans (hb.mono HB1.out.size))
    have HX2 := Lib.hid (HX1.out.below hb HX1.out.lt)
    have HY2 := Lib.hid (HY1.out.below hb HY1.out.lt)
    have hs2 := ((hs0.below HWW.out).more HWW.out.size).below hb |>.more hb.size
    clear hb C2 x0 x1 x2 HX1 HY1 HB1 HWW hs0 HB0
    go_upto_region 6 with fail
    have HLEN : Hid (∀ b ∈ bs, b.code.length ≤ 1000) := fun b hb => by
      obtain ⟨i, hi, rfl⟩ := List.getElem_of_mem hb
      have := codeN_mem bs i hi
      omega
    have HS2 := Lib.hid hs2
    have x0 := HX2.out.k0; have x1 := HX2.out.k1; have x2 := HX2.out.k2
    clear hs2
    go_cut [5] from 19 (fun s5 wx => ∃ cb A1 c1, s5 = .pointer (some ⟨cb, 0, none⟩) ∧ Hid (CT W2 b1 b2 cb #[.int .i64 a, .int .i64 r, .slice A bs.length c] a r r.toNat bs (.slice A1 bs.length c1) 0 none 0 [] 0 none 0 [] wx))
    case first =>
      have HG : Hid (Below W2.heap.size W2 W2.drew) := blw_drew W2 1
      go_wp2_with fail
      refine wp_region_held_drew (S := fun w' => w'.cell? ⟨b1, 0, none⟩ = some (.int .i64 a) ∧ w'.cell? ⟨b1, 1, none⟩ = some (.int .i64 r) ∧ w'.cell? ⟨b1, 2, none⟩ = some (.slice A bs.length c)) (by kernel_rfl) ⟨x0, x1, x2⟩ (fun hHeld => ?_)
      generalize hVV : W2.drew = V at *
      clear hVV
      refine take_at 0 19 (.agg #[.int .i64 a, .int .i64 r, .slice A bs.length c]) rfl rfl (by kernel_rfl) (by kernel_rfl) (by kernel_rfl) (fun _ _ _ h => h) (Or.inl ⟨by rfl, ?_⟩) hHeld ?_
      · intro w9 hSw
        (try dsimp only at hSw)
        go_simp
      (try simp only [Act.put, List.setIfInBounds_toArray, List.set_cons_zero, List.set_cons_succ])
      refine take_at 2 21 (.pointer (some ⟨b1, 0, none⟩)) rfl rfl (by kernel_rfl) (by kernel_rfl) (by kernel_rfl) (fun _ _ _ h => h) (Or.inl ⟨by rfl, ?_⟩) hHeld ?_
      · intro w9 hSw
        (try dsimp only at hSw)
        go_simp
      (try simp only [Act.put, List.setIfInBounds_toArray, List.set_cons_zero, List.set_cons_succ])
      refine take_at 3 22 (.int .i64 a) rfl rfl (by kernel_rfl) (by kernel_rfl) (by kernel_rfl) (fun _ _ _ h => h) (Or.inl ⟨by rfl, ?_⟩) hHeld ?_
      · intro w9 hSw
        (try dsimp only at hSw)
        go_simp
      (try simp only [Act.put, List.setIfInBounds_toArray, List.set_cons_zero, List.set_cons_succ])
      refine take_at 4 23 (.pointer (some ⟨b1, 1, none⟩)) rfl rfl (by kernel_rfl) (by kernel_rfl) (by kernel_rfl) (fun _ _ _ h => h) (Or.inl ⟨by rfl, ?_⟩) hHeld ?_
      · intro w9 hSw
        (try dsimp only at hSw)
        go_simp
      (try simp only [Act.put, List.setIfInBounds_toArray, List.set_cons_zero, List.set_cons_succ])
      refine take_at 5 24 (.int .i64 r) rfl rfl (by kernel_rfl) (by kernel_rfl) (by kernel_rfl) (fun _ _ _ h => h) (Or.inl ⟨by rfl, ?_⟩) hHeld ?_
      · intro w9 hSw
        (try dsimp only at hSw)
        go_simp
      (try simp only [Act.put, List.setIfInBounds_toArray, List.set_cons_zero, List.set_cons_succ])
      refine take_at 6 25 (.agg #[.int .i64 a, .int .i64 2, .int .i64 r, .slice none 0 0]) rfl rfl (by kernel_rfl) (by kernel_rfl) (by kernel_rfl) (fun _ _ _ h => h) (Or.inl ⟨by rfl, ?_⟩) hHeld ?_
      · intro w9 hSw
        (try dsimp only at hSw)
        go_simp
      (try simp only [Act.put, List.setIfInBounds_toArray, List.set_cons_zero, List.set_cons_succ])
      repeat' (first
        | exact AllReadyH.nil
        | (refine AllReadyH.cons (i := 1) rfl (fun K hK => ?_) ?_; focus (go_simp; refine (spclone22 A bs c a r V ((HS2.out.below HG.out).more HG.out.size) (by omega) HLEN.out).mono ?_; rintro e V ⟨A1, c1, rfl, hP⟩; (try go_wp2_with fail); (try replace HCB := Lib.hid (HCB.out.below hP.blw HCB.out.lt)); have HP := Lib.hid (hP.base HG.out); replace HG := Lib.hid (HG.out.trans (hP.blw.mono HG.out.size)); refine hK.out _ _ ⟨(HX2.out.below HG.out HX2.out.lt).k0, (HX2.out.below HG.out HX2.out.lt).k1, (HX2.out.below HG.out HX2.out.lt).k2⟩ (fun hHeld => ?_); clear hK K; clear hP; refine take_at 7 26 (.agg #[.int .i64 a, .int .i64 r, .slice A1 bs.length c1, .int .i64 a, .int .i64 2, .int .i64 r, .slice none 0 0, .slice none 0 0]) rfl rfl (by kernel_rfl) (by kernel_rfl) (by kernel_rfl) (fun _ _ _ h => h) (Or.inl ⟨by rfl, by (intro w9 hSw; (try dsimp only at hSw); go_simp)⟩) hHeld ?_; (try simp only [Act.put, List.setIfInBounds_toArray, List.set_cons_zero, List.set_cons_succ])))
        | (refine AllReadyH.cons (i := 8) rfl (fun K hK => ?_) ?_; focus (go_simp; have hcb := HG.out.size; have HCB := Lib.hid (Row.new V 32 #[.int .i64 0, .int .i64 0, .slice none 0 0, .int .i64 0, .int .i64 0, .int .i64 0, .slice none 0 0, .slice none 0 0]); (try replace HP := Lib.hid (HP.out.alloc (.cells #[.int .i64 0, .int .i64 0, .slice none 0 0, .int .i64 0, .int .i64 0, .int .i64 0, .slice none 0 0, .slice none 0 0] 32))); replace HG := Lib.hid (HG.out.alloc HG.out.size (.cells #[.int .i64 0, .int .i64 0, .slice none 0 0, .int .i64 0, .int .i64 0, .int .i64 0, .slice none 0 0, .slice none 0 0] 32)); refine hK.out _ _ ⟨(HX2.out.below HG.out HX2.out.lt).k0, (HX2.out.below HG.out HX2.out.lt).k1, (HX2.out.below HG.out HX2.out.lt).k2⟩ (fun hHeld => ?_); clear hK K; generalize V.heap.size = cb at *; generalize V.alloc (.cells #[.int .i64 0, .int .i64 0, .slice none 0 0, .int .i64 0, .int .i64 0, .int .i64 0, .slice none 0 0, .slice none 0 0] 32) = V at *))
        | (refine AllReadyH.cons (i := 9) rfl (fun K hK => ?_) ?_; focus (have hr0 := HCB.out; have k0 := hr0.k0; have k1 := hr0.k1; have k2 := hr0.k2; have k3 := hr0.k3; have k4 := hr0.k4; have k5 := hr0.k5; have k6 := hr0.k6; have k7 := hr0.k7; have f0 := hr0.frozen 0; have f1 := hr0.frozen 1; have f2 := hr0.frozen 2; have f3 := hr0.frozen 3; have f4 := hr0.frozen 4; have f5 := hr0.frozen 5; have f6 := hr0.frozen 6; have f7 := hr0.frozen 7; have hM := mods8s V cb (.int .i64 a) (.int .i64 r) (.slice A1 bs.length c1) (.int .i64 a) (.int .i64 2) (.int .i64 r) (.slice none 0 0) (.slice none 0 0); have HN1 := Lib.hid (HP.out.ty (put_ty hr0 hM) (by decide) (by decide) (HG.out.trans (hM.below HG.out.size fun k hk => by unfold Is at hk; omega))); replace HG := Lib.hid (HG.out.trans (hM.below HG.out.size fun k hk => by unfold Is at hk; omega)); replace HCB := Lib.hid (Row.put8s hr0 (.int .i64 a) (.int .i64 r) (.slice A1 bs.length c1) (.int .i64 a) (.int .i64 2) (.int .i64 r) (.slice none 0 0) (.slice none 0 0)); clear hr0; go_simp; refine hK.out _ _ ⟨(HX2.out.below HG.out HX2.out.lt).k0, (HX2.out.below HG.out HX2.out.lt).k1, (HX2.out.below HG.out HX2.out.lt).k2⟩ (fun hHeld => ?_); clear hK K))
        | refine wpAnyH_ready (rs := [1, 8]) (by decide +kernel) (by simp) ?_
        | refine wpAnyH_ready (rs := [1]) (by decide +kernel) (by simp) ?_
        | refine wpAnyH_ready (rs := [8]) (by decide +kernel) (by simp) ?_
        | refine wpAnyH_ready (rs := [9]) (by decide +kernel) (by simp) ?_
        | (refine wpAnyH_done (by decide +kernel) ?_ _; clear hHeld; go_wp2_with fail; focus (go_meet; case rel => exact ⟨cb, A1, _, rfl, ⟨HX2.out.below HG.out HX2.out.lt, HY2.out.below HG.out HY2.out.lt, HCB.out, HN1.out, NC.nil _ HG.out, NC.nil _ HG.out, rfl, rfl, h12, HY2.out.lt, hcb⟩⟩)))
    case rest =>
      obtain ⟨cb, A1, c1, rfl, HC⟩ := hcut
      clear x0 x1 x2
      obtain ⟨i0, hi0, hz0, hz1, hz2⟩ := info_parts infoMB
      obtain ⟨i3, hi3, hy0, hy1, hy2⟩ := info_parts infoPl
      have CI : Hid (∀ V, Calls Try.prog 27 #[.int .i64 r] V fun e w' => ∃ v, e = .returned v ∧ PL V v (invN r.toNat) w') := fun V => by
        have := inv22 r.toNat V (by omega)
        rwa [Int.toNat_of_nonneg (show 0 ≤ r by omega)] at this
      have HIL := Lib.hid (invN_len r.toNat)
      have x2 := HC.out.x1.k2
      go_upto_region 8 with fail
      go_loopg [30] bs.length (fun g v30 wr => ∃ (i : Nat) (A2 : Option Addr) (c2 : Nat) (A3 : Option Addr) (c3 : Nat), i + g = bs.length ∧ v30 = .int .i64 (i : Int) ∧ Hid (∀ b ∈ bs.take i, ¬ 64 < mvs (spB b).code) ∧ Hid (CT W2 b1 b2 cb #[.int .i64 a, .int .i64 r, .slice A bs.length c] a r r.toNat bs (.slice A1 bs.length c1) i A2 c2 ((bs.take i).map spB) i A3 c3 ((bs.take i).map fun _ => invN r.toNat) wr))
      case atStart => exact ⟨0, none, 0, none, 0, by omega, by go_num, (fun b hb => by cases hb), HC.out⟩
      case round =>
        obtain ⟨i, A2, c2, A3, c3, hg, rfl, HNL, HC2⟩ := hrel
        clear x2 HC
        by_cases hlt : i < bs.length
        · obtain ⟨b', o, rfl, hb, hy⟩ := (HS2.out.below HC2.out.n1.blw).at_ hlt
          have hyl := HLEN.out _ (List.getElem_mem hlt)
          obtain ⟨hyin, hytm⟩ := HI22.out _ (List.getElem_mem hlt)
          have HYM := Lib.hid (List.getElem_mem hlt)
          have HT := Lib.hid (show bs.take (i + 1) = bs.take i ++ [bs[i]] from List.take_succ_eq_append_getElem hlt)
          obtain ⟨l2, hl2⟩ : ∃ z, (bs.take i).map spB = z := ⟨_, rfl⟩
          obtain ⟨l3, hl3⟩ : ∃ z, ((bs.take i).map fun _ => invN r.toNat) = z := ⟨_, rfl⟩
          rw [hl2, hl3] at HC2
          have HL2 := Lib.hid hl2
          have HL3 := Lib.hid hl3
          clear hl2 hl3
          generalize bs[i] = y at *
          obtain ⟨A4, c4, f0, hc1, hc2, hins⟩ := hy.code
          have f1 := hy.t0; have f2 := hy.t1; have f3 := hy.t2; have f4 := hy.t3
          clear hy
          have hkz : (i : Int) < (bs.length : Int) := by omega
          go_upto_region 10 with fail
          have hb5 : Below wr.heap.size wr (wr.alloc (.cells #[.slice A4 y.code.length c4, .int .i64 y.term.kind, .int .i64 y.term.a, .int .i64 y.term.to, .int .i64 y.term.el] 45)) := (Below.refl _ _).alloc (Nat.le_refl _) _
          have hzz := HC2.out.n1.blw.size
          have HX5 := Lib.hid (Row.new wr 45 #[.slice A4 y.code.length c4, .int .i64 y.term.kind, .int .i64 y.term.a, .int .i64 y.term.to, .int .i64 y.term.el])
          have C5 := Lib.hid (block22 A4 y c4 (wr.alloc (.cells #[.slice A4 y.code.length c4, .int .i64 y.term.kind, .int .i64 y.term.a, .int .i64 y.term.to, .int .i64 y.term.el] 45)) ((hins.below (hb5.mono hzz)).more (Nat.le_trans hzz hb5.size)) (by omega) hytm hyin)
          have HB5 := Lib.hid hb5
          clear hins f0 f1 f2 f3 f4 hb5
          generalize (wr.alloc (.cells #[.slice A4 y.code.length c4, .int .i64 y.term.kind, .int .i64 y.term.a, .int .i64 y.term.to, .int .i64 y.term.el] 45)) = W5 at *
          obtain ⟨xb, hxb⟩ : ∃ z, wr.heap.size = z := ⟨_, rfl⟩
          rw [hxb] at HX5 ⊢
          clear hxb
          have z0 := HX5.out.k0; have z1 := HX5.out.k1; have z2 := HX5.out.k2; have z3 := HX5.out.k3; have z4 := HX5.out.k4
          go_wp2_with fail
          refine C5.out.mono ?_
          rintro e W6 ⟨A5, c5, rfl, ho, hb⟩
          have HO6 := Lib.hid ho
          have HB6 := Lib.hid (HB5.out.trans (hb.mono HB5.out.size))
          have HWZ := Lib.hid HB5.out.size
          obtain ⟨ys, hys⟩ : ∃ z, (spB y).code = z := ⟨_, rfl⟩
          have hok := sp_locok hyin hytm
          have hspl := spB_len y
          rw [hys] at HO6 hok hspl
          rw [hys]
          have HYS := Lib.hid hys
          clear ho hb C5 z0 z1 z2 z3 z4 HX5 HB5 hys hyin hytm
          go_upto_region 11 with fail
          have HX7 := Lib.hid (Row.new W6 49 #[.slice A5 ys.length c5, .int .i64 y.term.kind, .int .i64 0, .int .i64 y.term.to, .int .i64 y.term.el])
          have hb7 : Below W6.heap.size W6 (W6.alloc (.cells #[.slice A5 ys.length c5, .int .i64 y.term.kind, .int .i64 0, .int .i64 y.term.to, .int .i64 y.term.el] 49)) := (Below.refl _ _).alloc (Nat.le_refl _) _
          have ho7 := (Mods.of_below (S := No) hb7).ownS HO6.out (fun _ _ h => h)
          have C7 := Lib.hid (longest22 A5 ys c5 (W6.alloc (.cells #[.slice A5 ys.length c5, .int .i64 y.term.kind, .int .i64 0, .int .i64 y.term.to, .int .i64 y.term.el] 49)) (MisAt.of_own ho7 hok) (by omega))
          have HO7 := Lib.hid ho7
          have HB7 := Lib.hid (HB6.out.trans (hb7.mono HB6.out.size))
          clear hb7 ho7 HO6 HB6 hok
          generalize (W6.alloc (.cells #[.slice A5 ys.length c5, .int .i64 y.term.kind, .int .i64 0, .int .i64 y.term.to, .int .i64 y.term.el] 49)) = W7 at *
          generalize W6.heap.size = tb at *
          have z0 := HX7.out.k0
          go_wp2_with fail
          refine C7.out.mono ?_
          rintro e W8 ⟨rfl, hb⟩
          have HO8 := Lib.hid ((Mods.of_below (S := No) hb).ownS HO7.out (fun _ _ h => h))
          have HB8 := Lib.hid (HB7.out.trans (hb.mono HB7.out.size))
          have HX8 := Lib.hid (HX7.out.below hb HX7.out.lt)
          clear hb C7 HO7 HB7 HX7 z0
          obtain ⟨q, hq⟩ : ∃ q, mvs ys = q := ⟨_, rfl⟩
          rw [hq]
          by_cases h64 : 64 < q
          · have hgt : (64 : Int) < (q : Int) := by omega
            have hsr := HSR.out
            have hlong : longB bs = true := by
              unfold longB
              exact List.any_eq_true.2 ⟨y, HYM.out, by rw [HYS.out, hq]; exact decide_eq_true h64⟩
            rw [if_pos hlong] at hsr
            have HC8 := Lib.hid (HC2.out.next HB8.out)
            obtain ⟨z1, z2⟩ := cert_bad22 hwb HC8.out.x2 (HB2.out.trans (HC8.out.n1.blw.mono HB2.out.size))
            have Z1 := Lib.hid z1
            have Z2 := Lib.hid z2
            clear z1 z2 hlong HC2 HB8 HX8 HO8
            have y0 := HC8.out.x2.k0; have y1 := HC8.out.x2.k1; have y2 := HC8.out.x2.k2; have y3 := HC8.out.x2.k3; have y4 := HC8.out.x2.k4; have y5 := HC8.out.x2.k5; have y6 := HC8.out.x2.k6; have y7 := HC8.out.x2.k7
            have g0 := HC8.out.x2.frozen 0; have g1 := HC8.out.x2.frozen 1; have g2 := HC8.out.x2.frozen 2; have g3 := HC8.out.x2.frozen 3; have g4 := HC8.out.x2.frozen 4; have g5 := HC8.out.x2.frozen 5; have g6 := HC8.out.x2.frozen 6; have g7 := HC8.out.x2.frozen 7
            go_wp2
            refine bodyPost_ret (v := .tuple #[.agg #[.int .i64 0, .int .i64 0, .slice none 0 0, .int .i64 0, .int .i64 0, .int .i64 0, .slice none 0 0, .slice none 0 0], .int .i64 15]) ?_ rfl ?_
            · exact results_row_tmp22 rfl _ _ b2 32 #[.int .i64 0, .int .i64 0, .slice none 0 0, .int .i64 0, .int .i64 0, .int .i64 0, .slice none 0 0, .slice none 0 0] (0, 0) _ (by rfl) rfl Z1.out Try.underlying32 rfl (by kernel_rfl)
            · rw [hsr]
              exact SaP.bad Z2.out 15
          · have hgt : ¬ (64 : Int) < (q : Int) := by omega
            go_upto_region 13 with fail
            have HNL2 : Hid (∀ b ∈ bs.take (i + 1), ¬ 64 < mvs (spB b).code) := fun b hb => by
              rw [HT.out] at hb
              rcases List.mem_append.1 hb with hb | hb
              · exact HNL.out b hb
              · rw [List.mem_singleton] at hb
                rw [hb, HYS.out, hq]
                exact h64
            clear h64 hgt HNL
            have q6 := (HC2.out.next HB8.out).xc.k6
            have t0 := HX8.out.k0; have t1 := HX8.out.k1; have t2 := HX8.out.k2; have t3 := HX8.out.k3; have t4 := HX8.out.k4
            obtain ⟨vs, hne⟩ := HC2.out.n2.ne
            have HNE := Lib.hid hne
            have hown := nc_outer (w := W2) hne HB8.out (.cells #[.slice A5 ys.length c5, .int .i64 y.term.kind, .int .i64 0, .int .i64 y.term.to, .int .i64 y.term.el] 49) HC2.out.hi
            have hnew := sees_new W8 #[.slice A5 ys.length c5, .int .i64 y.term.kind, .int .i64 0, .int .i64 y.term.to, .int .i64 y.term.el] 49
            have hbz : W2.heap.size ≤ (W8.alloc (.cells #[.slice A5 ys.length c5, .int .i64 y.term.kind, .int .i64 0, .int .i64 y.term.to, .int .i64 y.term.el] 49)).heap.size := Nat.le_trans hzz (Nat.le_trans HB8.out.size (by simp))
            have hbz1 : W2.heap.size ≤ W8.heap.size + 1 := Nat.le_trans hzz (Nat.le_trans HB8.out.size (by simp))
            clear hne
            go_wp2_with (at_builtin; refine wpList_append_any _ rfl (.tmp 43) (.tmp 45) 27 rfl W2.heap.size 49 i0 _ 5 56 Try.underlying27 hi0 hz0 hz1 hz2 rfl (by decide) _ _ _ rfl hown (W8.heap.size + 1) _ 1 1 _ rfl hnew rfl (moc_one (spB y) A5 _ c5) ?c1 ?c2 ?c3 ?_)
            case c1 => unfold maxLen; omega
            case c2 => omega
            (try (case c3 => first | exact hbz | exact hbz1))
            intro v2 W9 ho2 hg2 hb2
            obtain ⟨A2', c2', rfl, _, _⟩ := ownS_slice ho2
            obtain ⟨hct, hxc⟩ := CT.push2 (n := r.toNat) HC2.out HB8.out HNE.out (x := spB y) (u := .slice A5 ys.length c5) (by rw [HYS.out]; exact ho_back HO8.out HWZ.out) (.cells #[.slice A5 ys.length c5, .int .i64 y.term.kind, .int .i64 0, .int .i64 y.term.to, .int .i64 y.term.el] 49) ho2 hg2
            have HCT := Lib.hid hct
            have p6 := hxc.k6
            have g6 := hxc.frozen 6
            clear hct hxc ho2 hg2 hb2 hown hnew hbz hbz1 q6 t0 t1 t2 t3 t4 HNE HX8 HO8 HB8 HC2 HWZ
            go_upto_region 14 with fail
            clear p6 g6
            generalize (W9.setCell ⟨cb, 6, none⟩ (.slice A2' (i + 1) c2')) = W10 at *
            have HV := Lib.hid (HCT.out.next (blw_drew W10 1))
            have x1 := HCT.out.x1.k1
            go_wp2_with fail
            refine wp_region_held_drew (S := fun w' => w'.cell? ⟨b1, 1, none⟩ = some (.int .i64 r)) (by kernel_rfl) x1 (fun hHeld => ?_)
            change Hid (CT _ _ _ _ _ _ _ _ _ _ _ _ _ _ _ _ _ _ W10.drew) at HV
            generalize hVV : W10.drew = V0 at *
            clear hVV x1 HCT
            have HM := Lib.hid (Below.refl V0.heap.size V0)
            obtain ⟨V, hV⟩ : ∃ z, z = V0 := ⟨_, rfl⟩
            have HM : Hid (Below V0.heap.size V0 V) := by rw [hV]; exact HM.out
            rw [← hV]
            have hHeld : V.cell? ⟨b1, 1, none⟩ = some (.int .i64 r) := by rw [hV]; exact hHeld
            clear hV
            refine take_at 0 49 (.pointer (some ⟨cb, 7, none⟩)) rfl rfl (by kernel_rfl) (by kernel_rfl) (by kernel_rfl) (fun _ _ _ h => h) (Or.inl ⟨by rfl, ?_⟩) hHeld ?_
            · intro w9 hSw
              (try dsimp only at hSw)
              go_simp
            (try simp only [Act.put, List.setIfInBounds_toArray, List.set_cons_zero, List.set_cons_succ])
            refine take_at 2 51 (.pointer (some ⟨b1, 1, none⟩)) rfl rfl (by kernel_rfl) (by kernel_rfl) (by kernel_rfl) (fun _ _ _ h => h) (Or.inl ⟨by rfl, ?_⟩) hHeld ?_
            · intro w9 hSw
              (try dsimp only at hSw)
              go_simp
            (try simp only [Act.put, List.setIfInBounds_toArray, List.set_cons_zero, List.set_cons_succ])
            refine take_at 3 52 (.int .i64 r) rfl rfl (by kernel_rfl) (by kernel_rfl) (by kernel_rfl) (fun _ _ _ h => h) (Or.inl ⟨by rfl, ?_⟩) hHeld ?_
            · intro w9 hSw
              (try dsimp only at hSw)
              go_simp
            (try simp only [Act.put, List.setIfInBounds_toArray, List.set_cons_zero, List.set_cons_succ])
            repeat' (first
              | exact AllReadyH.nil
              | (refine AllReadyH.cons (i := 1) rfl (fun K hK => ?_) ?_; focus ((first | have q7 := (HV.out.next HMB.out).xc.k7 | have q7 := (HV.out.next HM.out).xc.k7); go_simp; refine hK.out _ _ (HV.out.next (by first | exact HMB.out | exact HM.out)).x1.k1 (fun hHeld => ?_); clear hK K; clear q7))
              | (refine AllReadyH.cons (i := 4) rfl (fun K hK => ?_) ?_; focus (go_simp; refine (CI.out _).mono ?_; rintro e V ⟨v6, rfl, hP⟩; (try go_wp2_with fail); obtain ⟨A6, c6, rfl, _, _⟩ := hP.slice; have HU := Lib.hid (ho_back hP.own HM.out.size); replace HM := Lib.hid (HM.out.trans (hP.blw.mono HM.out.size)); refine hK.out _ _ (HV.out.next (by first | exact HMB.out | exact HM.out)).x1.k1 (fun hHeld => ?_); clear hK K; clear hP))
              | (refine AllReadyH.cons (i := 5) rfl (fun K hK => ?_) ?_; focus (go_simp; have HMB := Lib.hid (HM.out.alloc HM.out.size (.cells #[.slice A6 (invN r.toNat).length c6] 63)); refine hK.out _ _ (HV.out.next (by first | exact HMB.out | exact HM.out)).x1.k1 (fun hHeld => ?_); clear hK K))
              | (refine AllReadyH.cons (i := 6) rfl (fun K hK => ?_) ?_; focus (obtain ⟨vs, hne⟩ := HV.out.n3.ne; have hown := nc_outer (w := W2) hne HM.out (.cells #[.slice A6 (invN r.toNat).length c6] 63) HV.out.hj; have hz9 : W2.heap.size ≤ (V.alloc (.cells #[.slice A6 (invN r.toNat).length c6] 63)).heap.size := Nat.le_trans HV.out.n1.blw.size HMB.out.size; refine step_append_any _ rfl (.tmp 50) (.tmp 54) 30 rfl W2.heap.size 63 i3 _ 1 24 Try.underlying30 hi3 hy0 hy1 hy2 rfl (by decide) _ i _ rfl hown (V.heap.size + 1) _ 1 1 [.slice A6 (invN r.toNat).length c6] rfl (sees_new V #[.slice A6 (invN r.toNat).length c6] 63) rfl (poc_one (invN r.toNat) A6 _ c6) (by unfold maxLen; omega) (by omega) hz9 ?_; intro v9 W11 ho2 hg2 hb2; (try dsimp only); obtain ⟨A9, c9, rfl, _, _⟩ := ownS_slice ho2; obtain ⟨hct, hxc, hx1⟩ := CT.push3 (n := r.toNat) HV.out HM.out hne HU.out (.cells #[.slice A6 (invN r.toNat).length c6] 63) ho2 hg2; have HCT9 := Lib.hid hct; have HXC9 := Lib.hid hxc; refine hK.out _ _ hx1.k1 (fun hHeld => ?_); clear hK K hct hxc hx1 ho2 hg2 hb2 hown hne; refine take_at 7 56 (.pointer (some ⟨cb, 7, none⟩)) rfl rfl (by kernel_rfl) (by kernel_rfl) (by kernel_rfl) (fun _ _ _ h => h) (Or.inl ⟨by rfl, by (intro w9 hSw; (try dsimp only at hSw); go_simp)⟩) hHeld ?_; (try simp only [Act.put, List.setIfInBounds_toArray, List.set_cons_zero, List.set_cons_succ])))
              | (refine AllReadyH.cons (i := 8) rfl (fun K hK => ?_) ?_; focus (have k7 := HXC9.out.k7; have g7 := HXC9.out.frozen 7; go_simp; refine hK.out _ _ HCT9.out.x1.k1 (fun hHeld => ?_); clear hK K k7 g7))
              | refine wpAnyH_ready (rs := [1, 4]) (by decide +kernel) (by simp) ?_
              | refine wpAnyH_ready (rs := [1, 5]) (by decide +kernel) (by simp) ?_
              | refine wpAnyH_ready (rs := [1]) (by decide +kernel) (by simp) ?_
              | refine wpAnyH_ready (rs := [4]) (by decide +kernel) (by simp) ?_
              | refine wpAnyH_ready (rs := [5]) (by decide +kernel) (by simp) ?_
              | refine wpAnyH_ready (rs := [6]) (by decide +kernel) (by simp) ?_
              | refine wpAnyH_ready (rs := [8]) (by decide +kernel) (by simp) ?_
              | (refine wpAnyH_done (by decide +kernel) ?_ _; clear hHeld; go_wp2; go_roundg (bs.length - (i + 1)); all_goals (first | omega | exact ⟨i + 1, _, _, _, _, by omega, by go_num, HNL2.out, by show CT _ _ _ _ _ _ _ _ _ _ _ _ _ _ _ _ _ _ _; rw [HT.out, List.map_append, List.map_append, HL2.out, HL3.out]; exact HCT9.out⟩)))
        · have hkz : ¬ (i : Int) < (bs.length : Int) := by omega
          have hk2 : bs.take i = bs := List.take_of_length_le (by omega)
          rw [hk2] at HC2 HNL
          have hil : i = bs.length := by omega
          have hlong : longB bs = false := by
            unfold longB
            exact List.any_eq_false.2 fun b hb => by simpa using HNL.out b hb
          have hsr := HSR.out
          rw [if_neg (by rw [hlong]; simp)] at hsr
          have HSR2 := Lib.hid hsr
          have HIX := Lib.hid hil
          clear hk2 hil hlong hsr HSR HNL
          obtain ⟨l2, hl2⟩ : ∃ z, bs.map spB = z := ⟨_, rfl⟩
          obtain ⟨l3, hl3⟩ : ∃ z, (bs.map fun _ => invN r.toNat) = z := ⟨_, rfl⟩
          rw [hl2, hl3] at HC2
          have HL2 := Lib.hid hl2
          have HL3 := Lib.hid hl3
          clear hl2 hl3
          have k0 := HC2.out.xc.k0; have k1 := HC2.out.xc.k1; have k2 := HC2.out.xc.k2; have k3 := HC2.out.xc.k3; have k4 := HC2.out.xc.k4; have k5 := HC2.out.xc.k5; have k6 := HC2.out.xc.k6; have k7 := HC2.out.xc.k7
          have y0 := HC2.out.x2.k0; have y1 := HC2.out.x2.k1; have y2 := HC2.out.x2.k2; have y3 := HC2.out.x2.k3; have y4 := HC2.out.x2.k4; have y5 := HC2.out.x2.k5; have y6 := HC2.out.x2.k6; have y7 := HC2.out.x2.k7
          have g0 := HC2.out.x2.frozen 0; have g1 := HC2.out.x2.frozen 1; have g2 := HC2.out.x2.frozen 2; have g3 := HC2.out.x2.frozen 3; have g4 := HC2.out.x2.frozen 4; have g5 := HC2.out.x2.frozen 5; have g6 := HC2.out.x2.frozen 6; have g7 := HC2.out.x2.frozen 7
          go_wp2
          refine bodyPost_ret (v := .tuple #[.agg #[.int .i64 a, .int .i64 r, .slice A1 bs.length c1, .int .i64 a, .int .i64 2, .int .i64 r, .slice A2 i c2, .slice A3 i c3], .int .i64 0]) ?_ rfl ?_
          · exact results_row_tmp22 rfl _ _ b2 32 #[.int .i64 a, .int .i64 r, .slice A1 bs.length c1, .int .i64 a, .int .i64 2, .int .i64 r, .slice A2 i c2, .slice A3 i c3] (0, 0) _ (by rfl) rfl (Row.put8s HC2.out.x2 _ _ _ _ _ _ _ _) Try.underlying32 rfl (by kernel_rfl)
          · rw [HSR2.out]
            have hM := mods8s wr b2 (.int .i64 a) (.int .i64 r) (.slice A1 bs.length c1) (.int .i64 a) (.int .i64 2) (.int .i64 r) (.slice A2 i c2) (.slice A3 i c3)
            have hT := put_ty HC2.out.x2 hM
            have hB9 : Below w.heap.size w ((((((((wr.setCell ⟨b2, 0, none⟩ (.int .i64 a)).setCell ⟨b2, 1, none⟩ (.int .i64 r)).setCell ⟨b2, 2, none⟩ (.slice A1 bs.length c1)).setCell ⟨b2, 3, none⟩ (.int .i64 a)).setCell ⟨b2, 4, none⟩ (.int .i64 2)).setCell ⟨b2, 5, none⟩ (.int .i64 r)).setCell ⟨b2, 6, none⟩ (.slice A2 i c2)).setCell ⟨b2, 7, none⟩ (.slice A3 i c3)) := (HB2.out.trans (HC2.out.n1.blw.mono HB2.out.size)).trans (hM.below (HB2.out.trans (HC2.out.n1.blw.mono HB2.out.size)).size fun k hk => by unfold Is at hk; omega)
            have n1 := (HC2.out.n1.base HB2.out).ty hT (by decide) (by decide) hB9
            have n2 := (HC2.out.n2.base HB2.out).ty hT (by decide) (by decide) hB9
            have n3 := (HC2.out.n3.base HB2.out).ty hT (by decide) (by decide) hB9
            have e2 : (bs.map spB).length = i := by rw [List.length_map, HIX.out]
            have e3 : (bs.map fun _ => invN r.toNat).length = i := by rw [List.length_map, HIX.out]
            refine ⟨A1, c1, A2, c2, A3, c3, ?_, n1, ?_, ?_⟩
            · show Ending.returned (.tuple #[.agg #[.int .i64 a, .int .i64 r, .slice A1 bs.length c1, .int .i64 a, .int .i64 2, .int .i64 r, .slice A2 i c2, .slice A3 i c3], .int .i64 0]) = .returned (.tuple #[.agg #[.int .i64 a, .int .i64 r, .slice A1 bs.length c1, .int .i64 a, .int .i64 2, .int .i64 r, .slice A2 (bs.map spB).length c2, .slice A3 (bs.map fun _ => invN r.toNat).length c3], .int .i64 0])
              rw [e2, e3]
            · show NC mshp w (.slice A2 (bs.map spB).length c2) (bs.map spB) _
              rw [e2, HL2.out]
              exact n2
            · show NC pshp w (.slice A3 (bs.map fun _ => invN r.toNat).length c3) (bs.map fun _ => invN r.toNat) _
              rw [e3, HL3.out]
              exact n3
      
  · have e1 : (er != 0) = true := by simp [hz]
    have hsr := HSR.out
    rw [if_pos hz] at hsr
    clear hz HSR
    obtain ⟨z1, z2⟩ := cert_bad22 hwb HY1.out HB1.out
    have Z1 := Lib.hid z1
    have Z2 := Lib.hid z2
    clear z1 z2
    have y0 := HY1.out.k0; have y1 := HY1.out.k1; have y2 := HY1.out.k2; have y3 := HY1.out.k3; have y4 := HY1.out.k4; have y5 := HY1.out.k5; have y6 := HY1.out.k6; have y7 := HY1.out.k7
    have g0 := HY1.out.frozen 0; have g1 := HY1.out.frozen 1; have g2 := HY1.out.frozen 2; have g3 := HY1.out.frozen 3; have g4 := HY1.out.frozen 4; have g5 := HY1.out.frozen 5; have g6 := HY1.out.frozen 6; have g7 := HY1.out.frozen 7
    go_wp2
    refine bodyPost_ret (v := .tuple #[.agg #[.int .i64 0, .int .i64 0, .slice none 0 0, .int .i64 0, .int .i64 0, .int .i64 0, .slice none 0 0, .slice none 0 0], .int .i64 er]) ?_ rfl ?_
    · exact results_row_tmp22 rfl _ _ b2 32 #[.int .i64 0, .int .i64 0, .slice none 0 0, .int .i64 0, .int .i64 0, .int .i64 0, .slice none 0 0, .slice none 0 0] (0, 0) _ (by rfl) rfl Z1.out Try.underlying32 rfl (by kernel_rfl)
    · rw [hsr]
      exact SaP.bad Z2.out er

end Go.Proofs.Ytcoehkphdfejjaa

/-
  The examples of layer 22.
-/
namespace Go.Proofs.Ytcoehkphdfejjaa
open Go.RowKit
set_option linter.unusedVariables false
set_option linter.unusedSimpArgs false

theorem eq_mach22 (a b c d e f g : Int) (w : World) : (binOp .eql 69 (.agg #[.int .i64 a, .int .i64 b, .int .i64 c, .int .i64 d, .int .i64 e, .int .i64 f, .int .i64 g]) (.agg #[.int .i64 a, .int .i64 b, .int .i64 c, .int .i64 d, .int .i64 e, .int .i64 f, .int .i64 g])).run Try.prog w = .ok (.bool true) w := by
  have u3 := Try.underlying3
  have a3 := Try.isAgg3
  have z3 := Try.sizeOf3
  have u4 := Try.underlying2
  have a4 := Try.isAgg2
  have z4 := Try.sizeOf2
  have u5 := Try.underlying64
  have a5 := Try.isAgg64
  have z5 := Try.sizeOf64
  have hS : Try.prog.underlying 69 = some (.struct (Try.prog.fieldsOf 69)) := by kernel_rfl
  have hp : Try.prog.stoodInHeld 69 = false := by kernel_rfl
  rw [run_eql_struct, show (10000 : Nat) = 9999 + 1 from rfl, run_equalIn_agg w 9999 69 _ _ hS hp]
  simp only [Program.fieldsOf, Try.underlying69]
  go_simp

theorem eq_term22 (a b c d : Int) (w : World) : (binOp .eql 43 (.agg #[.int .i64 a, .int .i64 b, .int .i64 c, .int .i64 d]) (.agg #[.int .i64 a, .int .i64 b, .int .i64 c, .int .i64 d])).run Try.prog w = .ok (.bool true) w := by
  have u3 := Try.underlying3
  have a3 := Try.isAgg3
  have z3 := Try.sizeOf3
  have hS : Try.prog.underlying 43 = some (.struct (Try.prog.fieldsOf 43)) := by kernel_rfl
  have hp : Try.prog.stoodInHeld 43 = false := by kernel_rfl
  rw [run_eql_struct, show (10000 : Nat) = 9999 + 1 from rfl, run_equalIn_agg w 9999 43 _ _ hS hp]
  simp only [Program.fieldsOf, Try.underlying43]
  go_simp

def exB22 : Blk := ⟨[⟨5, 0, 1, 2, 0⟩], ⟨1, 0, 0, 0⟩⟩

theorem exB_tm : Tm22 exB22.term := .inl rfl

theorem exB_in : ∀ i ∈ exB22.code, In22 i := fun i hi => by
  have : i = ⟨5, 0, 1, 2, 0⟩ := by simpa [exB22] using hi
  subst this
  exact ⟨by decide, fun _ => by decide, fun _ => by decide, fun _ => by decide⟩

set_option maxRecDepth 100000 in
set_option maxHeartbeats 4000000 in
theorem awake22_any (w : World) : Calls Try.prog 6 #[] w fun e w' => e = .returned (.bool true) ∧ Below w.heap.size w w' := by
  have q0 := eq_mach22 18 0 0 0 0 0 3
  have q1 := eq_mach22 18 0 0 0 0 2 5
  have q2 := eq_mach22 5 0 0 1 0 0 0
  have q3 := eq_mach22 18 0 0 0 0 1 0
  have q4 := eq_term22 1 0 0 0
  have HB0 : Hid (Below w.heap.size w ((w.alloc (.cells #[.int .i64 5, .int .i64 0, .int .i64 1, .int .i64 2, .int .i64 0] 62)).alloc (.cells #[.slice (some ⟨w.heap.size, 0, none⟩) 1 1, .int .i64 1, .int .i64 0, .int .i64 0, .int .i64 0] 45))) := ((Below.refl _ _).alloc (Nat.le_refl _) _).alloc (by simp) _
  have hs0 := sees_new w #[.int .i64 5, .int .i64 0, .int .i64 1, .int .i64 2, .int .i64 0] 62
  have HI0 : Hid (InsAt ((w.alloc (.cells #[.int .i64 5, .int .i64 0, .int .i64 1, .int .i64 2, .int .i64 0] 62)).alloc (.cells #[.slice (some ⟨w.heap.size, 0, none⟩) 1 1, .int .i64 1, .int .i64 0, .int .i64 0, .int .i64 0] 45)) (w.heap.size + 1) (some ⟨w.heap.size, 0, none⟩) exB22.code) := insAt_sees (hs0.alloc (by simp) (.cells #[.slice (some ⟨w.heap.size, 0, none⟩) 1 1, .int .i64 1, .int .i64 0, .int .i64 0, .int .i64 0] 45))
  have HX := Row.new (w.alloc (.cells #[.int .i64 5, .int .i64 0, .int .i64 1, .int .i64 2, .int .i64 0] 62)) 45 #[.slice (some ⟨w.heap.size, 0, none⟩) 1 1, .int .i64 1, .int .i64 0, .int .i64 0, .int .i64 0]
  rw [show (w.alloc (.cells #[.int .i64 5, .int .i64 0, .int .i64 1, .int .i64 2, .int .i64 0] 62)).heap.size = w.heap.size + 1 by simp] at HX
  have HX := Lib.hid HX
  clear hs0
  go_enter Try.func6, Try.ntmps6
  go_upto_region 2 with fail
  have hz0 : w.heap.size + 1 < ((w.alloc (.cells #[.int .i64 5, .int .i64 0, .int .i64 1, .int .i64 2, .int .i64 0] 62)).alloc (.cells #[.slice (some ⟨w.heap.size, 0, none⟩) 1 1, .int .i64 1, .int .i64 0, .int .i64 0, .int .i64 0] 45)).heap.size := by simp
  generalize ((w.alloc (.cells #[.int .i64 5, .int .i64 0, .int .i64 1, .int .i64 2, .int .i64 0] 62)).alloc (.cells #[.slice (some ⟨w.heap.size, 0, none⟩) 1 1, .int .i64 1, .int .i64 0, .int .i64 0, .int .i64 0] 45)) = W0 at *
  obtain ⟨g0, hg0⟩ : ∃ z, w.heap.size = z := ⟨_, rfl⟩
  obtain ⟨xb, hxb⟩ : ∃ z, w.heap.size + 1 = z := ⟨_, rfl⟩
  rw [hxb] at HI0 hz0
  rw [hxb, hg0] at HX
  rw [hg0] at HI0
  rw [hxb, hg0]
  clear hxb hg0
  have C1 : Hid (Calls Try.prog 21 #[.agg #[.slice (some ⟨g0, 0, none⟩) 1 1, .int .i64 1, .int .i64 0, .int .i64 0, .int .i64 0]] W0 fun e w' => ∃ A' c', e = .returned (.agg #[.slice A' 4 c', .int .i64 1, .int .i64 0, .int .i64 0, .int .i64 0]) ∧ w'.ownsRow W0.heap.size 69 7 (.slice A' 4 c') 4 [.int .i64 18, .int .i64 0, .int .i64 0, .int .i64 0, .int .i64 0, .int .i64 0, .int .i64 3, .int .i64 18, .int .i64 0, .int .i64 0, .int .i64 0, .int .i64 0, .int .i64 2, .int .i64 5, .int .i64 5, .int .i64 0, .int .i64 0, .int .i64 1, .int .i64 0, .int .i64 0, .int .i64 0, .int .i64 18, .int .i64 0, .int .i64 0, .int .i64 0, .int .i64 0, .int .i64 1, .int .i64 0] ∧ Below W0.heap.size W0 w') := block22 (some ⟨g0, 0, none⟩) exB22 1 W0 (HI0.out.more (Nat.le_of_lt hz0)) (by decide) exB_tm exB_in
  have c0 := HX.out.k0; have c1 := HX.out.k1; have c2 := HX.out.k2; have c3 := HX.out.k3; have c4 := HX.out.k4
  go_wp2_with fail
  refine C1.out.mono ?_
  rintro e W1 ⟨A1, k1, rfl, ho, hb⟩
  have HO1 : Hid (W1.ownsRow W0.heap.size 69 7 (.slice A1 4 k1) 4 [.int .i64 18, .int .i64 0, .int .i64 0, .int .i64 0, .int .i64 0, .int .i64 0, .int .i64 3, .int .i64 18, .int .i64 0, .int .i64 0, .int .i64 0, .int .i64 0, .int .i64 2, .int .i64 5, .int .i64 5, .int .i64 0, .int .i64 0, .int .i64 1, .int .i64 0, .int .i64 0, .int .i64 0, .int .i64 18, .int .i64 0, .int .i64 0, .int .i64 0, .int .i64 0, .int .i64 1, .int .i64 0]) := ho
  obtain ⟨g1, rfl⟩ : ∃ g, A1 = some ⟨g, 0, none⟩ := by
    rcases HO1.out.2 with ⟨e, _⟩ | ⟨g', cap, cur, hv, _⟩
    · injection e with _ e2 _
      omega
    · injection hv with e1 _ _
      exact ⟨g', e1⟩
  obtain ⟨g1', o1', e1, hg1, hcs⟩ := sees_own HO1.out (by simp)
  injection e1 with e1
  injection e1 with e1 e2
  subst e1 e2
  have HX1 := Lib.hid (HX.out.below hb hz0)
  have HI1 := Lib.hid (HI0.out.below (hb.mono (Nat.le_of_lt hz0)))
  have HB1 := Lib.hid (HB0.out.trans (hb.mono HB0.out.size))
  have HWZ := Lib.hid (Nat.lt_of_lt_of_le hz0 hb.size)
  have HCS := Lib.hid hcs
  clear ho hb hcs C1 c0 c1 c2 c3 c4 HX HI0 HB0 hz0
  go_upto_region 3 with fail
  have hn : (spR 0 0 []) = (nCt, 14) := by unfold spR; rw [if_pos (by decide)]; rfl
  have C2 : Hid (∀ W, Calls Try.prog 8 #[.agg #[.int .i64 0, .int .i64 0, .slice none 0 0]] W fun e w' => (∃ A4 c4 A5 c5 A6 c6, e = .returned (.tuple #[.agg #[.int .i64 0, .int .i64 0, .slice A4 0 c4, .int .i64 0, .int .i64 0, .int .i64 0, .slice A5 0 c5, .slice A6 0 c6], .int .i64 14])) ∧ Below W.heap.size W w') := fun W =>
    (cert22 none [] 0 0 0 W BlksAt.nil ⟨by decide, by decide, by decide⟩).mono fun e w' h => by
      rw [hn] at h
      obtain ⟨A4, c4, A5, c5, A6, c6, rfl, hn1, _, _⟩ := h
      exact ⟨⟨A4, c4, A5, c5, A6, c6, rfl⟩, hn1.blw⟩
  clear hn
  have HM2 := Lib.hid (Row.new W1 49 #[.slice (some ⟨g1, 0, none⟩) 4 k1, .int .i64 1, .int .i64 0, .int .i64 0, .int .i64 0])
  have hb2 : Below W1.heap.size W1 (W1.alloc (.cells #[.slice (some ⟨g1, 0, none⟩) 4 k1, .int .i64 1, .int .i64 0, .int .i64 0, .int .i64 0] 49)) := (Below.refl _ _).alloc (Nat.le_refl _) _
  have HB2 := Lib.hid hb2
  clear hb2
  generalize (W1.alloc (.cells #[.slice (some ⟨g1, 0, none⟩) 4 k1, .int .i64 1, .int .i64 0, .int .i64 0, .int .i64 0] 49)) = W2 at *
  obtain ⟨mb, hmb⟩ : ∃ z, W1.heap.size = z := ⟨_, rfl⟩
  rw [hmb] at HM2 ⊢
  have HMB := Lib.hid hmb
  clear hmb
  go_wp2_with fail
  refine (C2.out _).mono ?_
  rintro e W3 ⟨⟨A4, c4, A5, c5, A6, c6, rfl⟩, hb3⟩
  have HB3 := Lib.hid (HB2.out.trans (hb3.mono HB2.out.size))
  have HM3 := Lib.hid (HM2.out.below hb3 HM2.out.lt)
  clear hb3 C2 HM2 HB2
  go_upto_region 4 with fail
  have hb4 : Below W3.heap.size W3 (W3.alloc (.cells #[.int .i64 0, .int .i64 0, .slice A4 0 c4, .int .i64 0, .int .i64 0, .int .i64 0, .slice A5 0 c5, .slice A6 0 c6] 32)) := (Below.refl _ _).alloc (Nat.le_refl _) _
  have HB4 := Lib.hid (HB3.out.trans (hb4.mono HB3.out.size))
  have HM4 := Lib.hid (HM3.out.below hb4 HM3.out.lt)
  have HX4 := Lib.hid (HX1.out.below HB4.out (by have := HX1.out.lt; exact this))
  have HI4 := Lib.hid (HI1.out.below (HB4.out.mono (Nat.le_of_lt HWZ.out)))
  have hcell : ∀ (i : Nat) (u : Value), ([.int .i64 18, .int .i64 0, .int .i64 0, .int .i64 0, .int .i64 0, .int .i64 0, .int .i64 3, .int .i64 18, .int .i64 0, .int .i64 0, .int .i64 0, .int .i64 0, .int .i64 2, .int .i64 5, .int .i64 5, .int .i64 0, .int .i64 0, .int .i64 1, .int .i64 0, .int .i64 0, .int .i64 0, .int .i64 18, .int .i64 0, .int .i64 0, .int .i64 0, .int .i64 0, .int .i64 1, .int .i64 0] : List Value)[i]? = some u → (W3.alloc (.cells #[.int .i64 0, .int .i64 0, .slice A4 0 c4, .int .i64 0, .int .i64 0, .int .i64 0, .slice A5 0 c5, .slice A6 0 c6] 32)).cell? ⟨g1, i, none⟩ = some u := fun i u hu => (HB4.out.cell (p := ⟨g1, i, none⟩) hg1).trans (by have := HCS.out i u hu; rwa [Nat.zero_add] at this)
  clear hb4 HB3 HM3 HX1 HI1 HCS
  generalize (W3.alloc (.cells #[.int .i64 0, .int .i64 0, .slice A4 0 c4, .int .i64 0, .int .i64 0, .int .i64 0, .slice A5 0 c5, .slice A6 0 c6] 32)) = W4 at *
  have d0 := hcell 0 _ rfl
  have d1 := hcell 1 _ rfl
  have d2 := hcell 2 _ rfl
  have d3 := hcell 3 _ rfl
  have d4 := hcell 4 _ rfl
  have d5 := hcell 5 _ rfl
  have d6 := hcell 6 _ rfl
  have d7 := hcell 7 _ rfl
  have d8 := hcell 8 _ rfl
  have d9 := hcell 9 _ rfl
  have d10 := hcell 10 _ rfl
  have d11 := hcell 11 _ rfl
  have d12 := hcell 12 _ rfl
  have d13 := hcell 13 _ rfl
  have d14 := hcell 14 _ rfl
  have d15 := hcell 15 _ rfl
  have d16 := hcell 16 _ rfl
  have d17 := hcell 17 _ rfl
  have d18 := hcell 18 _ rfl
  have d19 := hcell 19 _ rfl
  have d20 := hcell 20 _ rfl
  have d21 := hcell 21 _ rfl
  have d22 := hcell 22 _ rfl
  have d23 := hcell 23 _ rfl
  have d24 := hcell 24 _ rfl
  have d25 := hcell 25 _ rfl
  have d26 := hcell 26 _ rfl
  have d27 := hcell 27 _ rfl
  have m0 := HM4.out.k0; have m1 := HM4.out.k1; have m2 := HM4.out.k2; have m3 := HM4.out.k3; have m4 := HM4.out.k4
  clear hcell
  have c0 := HX4.out.k0; have c1 := HX4.out.k1; have c2 := HX4.out.k2; have c3 := HX4.out.k3; have c4 := HX4.out.k4
  have C3 : Hid (Calls Try.prog 12 #[.agg #[.slice (some ⟨g0, 0, none⟩) 1 1, .int .i64 1, .int .i64 0, .int .i64 0, .int .i64 0]] W4 fun e w' => e = .returned (.int .i64 (mvs (spB exB22).code : Nat)) ∧ Below W4.heap.size W4 w') := (spmoves22 (some ⟨g0, 0, none⟩) exB22 1 W4 (HI4.out.more (Nat.le_trans (Nat.le_of_lt HWZ.out) HB4.out.size)) (by decide) exB_tm exB_in)
  rw [show (mvs (spB exB22).code : Nat) = 2 by decide +kernel] at C3
  go_upto_region 6 with fail
  go_wp2_with fail
  refine C3.out.mono ?_
  rintro e W5 ⟨rfl, hb⟩
  have HB5 := Lib.hid (HB1.out.trans ((HB4.out.trans (hb.mono HB4.out.size)).mono HB1.out.size))
  clear hb
  go_wp2
  go_ret
  exact ⟨rfl, HB5.out⟩

end Go.Proofs.Ytcoehkphdfejjaa
