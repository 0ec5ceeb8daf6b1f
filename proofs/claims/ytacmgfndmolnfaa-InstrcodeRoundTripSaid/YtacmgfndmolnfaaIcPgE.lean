/-
  The program of layer 17: Instr, Mach (made by wip/lab/genicpge.py).
-/
import Derived.Test.YtacmgfndmolnfaaIcPgD
namespace Go.Proofs.Ytacmgfndmolnfaa
open Go.RowKit
set_option linter.unusedVariables false
set_option linter.unusedSimpArgs false

theorem readE_errP {op r n : Int} {s : Ip} (h : s.err ≠ 0) : readE op r n s = (Mi0, s) := by
  have hd : dE op r s = (0, s) := optE_err h
  have ha : aE op r s = (0, s) := by unfold aE; rw [hd]; exact optE_err h
  have hb : bE op r s = (0, s) := by unfold bE; rw [ha]; exact optE_err h
  have hi : iE op r s = (0, s) := by unfold iE; rw [hb]; exact immE_err h
  exact readE_i (by rw [hi]) h
theorem readE_lt {op r n : Int} {s : Ip} (h : op ≠ 18) : readE op r n s = (if (iE op r s).2.err ≠ 0 then Mi0 else ⟨op, (dE op r s).1, (aE op r s).1, (bE op r s).1, (iE op r s).1, 0, 0⟩, (iE op r s).2) := by
  have h8 : (op == 18) = false := beq_eq_false_iff_ne.2 h
  have hx : xE op r n s = (0, (iE op r s).2) := by unfold xE; rw [h8]; exact if_neg fun hh => by cases hh.1
  have hy : yE op r n s = (0, (iE op r s).2) := by unfold yE; rw [h8, hx]; exact if_neg fun hh => by cases hh.1
  have hz : zE op r n s = (iE op r s).2 := by unfold zE; rw [h8, hy]; exact if_neg fun hh => by cases hh.1
  unfold readE
  rw [hz, hx, hy]
  split <;> rfl
theorem readE_18 {r n : Int} {s : Ip} {tx ty : Int × Ip} (hx : locE r n s = tx) (hy : locE r n tx.2 = ty) : readE 18 r n s = (if (twoE true tx.1 ty.1 ty.2).err ≠ 0 then Mi0 else ⟨18, 0, 0, 0, 0, tx.1, ty.1⟩, twoE true tx.1 ty.1 ty.2) := by
  have hd : dE 18 r s = (0, s) := rfl
  have ha : aE 18 r s = (0, s) := rfl
  have hb : bE 18 r s = (0, s) := rfl
  have hi : iE 18 r s = (0, s) := by
    show immE false s = (0, s)
    exact if_neg fun hh => by cases hh.1
  have hx' : xE 18 r n s = tx := by unfold xE; rw [hi, show ((18 : Int) == 18) = true from rfl, olocE_true, hx]
  have hy' : yE 18 r n s = ty := by unfold yE; rw [hx', show ((18 : Int) == 18) = true from rfl, olocE_true, hy]
  have hz : zE 18 r n s = twoE true tx.1 ty.1 ty.2 := by unfold zE; rw [hx', hy']; rfl
  unfold readE
  rw [hz, hd, ha, hb, hi, hx', hy']
  split <;> rfl
theorem firstE_rng {most nt why : Int} {s : Ip} (h : 0 ≤ most) : 0 ≤ (firstE most nt why s).1 ∧ (firstE most nt why s).1 ≤ most := by
  obtain ⟨l, e⟩ := s
  unfold firstE
  split
  · exact ⟨Int.le_refl _, h⟩
  · rcases l with _ | ⟨x, r⟩
    · exact ⟨Int.le_refl _, h⟩
    · dsimp only
      split
      · exact ⟨Int.le_refl _, h⟩
      · exact ⟨by dsimp only; omega, by dsimp only; omega⟩
theorem instrE_eq {r : Int} {s : Ip} : instrE r s = readE (firstE 17 0 8 s).1 r 0 (firstE 17 0 8 s).2 := by
  unfold instrE
  split
  · rename_i h; exact (readE_errP h).symm
  · rfl
theorem machE_eq {r n : Int} {s : Ip} : machE r n s = readE (firstE 18 2 8 s).1 r n (firstE 18 2 8 s).2 := by
  unfold machE
  split
  · rename_i h; exact (readE_errP h).symm
  · rfl

section
variable {w : World} {lo p : Nat} {l : List Nat} {A : Option Addr} {c : Nat} {s : Ip}
theorem first_src (h : CE lo p l A c s w) : Calls Try.prog 32 #[.func (.func 33) #[.pointer (some ⟨p, 0, none⟩)] #[], .func (.func 34) #[.pointer (some ⟨p, 0, none⟩)] #[], .func (.func 35) #[] #[], .int .i64 8] w
      fun e w' => e = .returned (.int .i64 (firstE 17 0 8 s).1) ∧ Mods (Is p) w w' ∧ CE lo p l A c (firstE 17 0 8 s).2 w' := by
  have hf : frs (fun v => uO v && !(v == 18)) 8 s = firstE 17 0 8 s := frs_first h.byt fun v h0 h1 => by
    rw [Bool.eq_iff_iff]; simp [uO]; omega
  have := getfirst_any h 8 (by decide) 35 (fun args W => enters_of Try.func35 (by kernel_rfl) rfl args W) (fun v => uO v && !(v == 18))
    (fun v W hv => (source_any v _ W rfl).mono fun e w' ⟨he, hw⟩ => ⟨he, hw ▸ Below.refl _ _⟩)
  rw [hf] at this
  exact this
theorem first_mach (h : CE lo p l A c s w) : Calls Try.prog 32 #[.func (.func 33) #[.pointer (some ⟨p, 0, none⟩)] #[], .func (.func 34) #[.pointer (some ⟨p, 0, none⟩)] #[], .func (.func 38) #[] #[], .int .i64 8] w
      fun e w' => e = .returned (.int .i64 (firstE 18 2 8 s).1) ∧ Mods (Is p) w w' ∧ CE lo p l A c (firstE 18 2 8 s).2 w' := by
  have hf : frs (fun v => uO v && !(v == 2)) 8 s = firstE 18 2 8 s := frs_first h.byt fun v h0 h1 => by
    rw [Bool.eq_iff_iff]; simp [uO]; omega
  have := getfirst_any h 8 (by decide) 38 (fun args W => enters_of Try.func38 (by kernel_rfl) rfl args W) (fun v => uO v && !(v == 2))
    (fun v W hv => (machine_any v _ W rfl).mono fun e w' ⟨he, hw⟩ => ⟨he, hw ▸ Below.refl _ _⟩)
  rw [hf] at this
  exact this
theorem first_term (h : CE lo p l A c s w) : Calls Try.prog 32 #[.func (.func 33) #[.pointer (some ⟨p, 0, none⟩)] #[], .func (.func 34) #[.pointer (some ⟨p, 0, none⟩)] #[], .func (.func 41) #[] #[], .int .i64 16] w
      fun e w' => e = .returned (.int .i64 (firstE 3 0 16 s).1) ∧ Mods (Is p) w w' ∧ CE lo p l A c (firstE 3 0 16 s).2 w' := by
  have hf : frs kOk 16 s = firstE 3 0 16 s := frs_first h.byt fun v h0 h1 => by
    rw [Bool.eq_iff_iff]; simp [kOk]; omega
  have := getfirst_any h 16 (by decide) 41 (fun args W => enters_of Try.func41 (by kernel_rfl) rfl args W) kOk
    (fun v W hv => iskind_any v W)
  rw [hf] at this
  exact this
end

/-- What Instr, Mach and Term carry: the result's block. -/
structure GZ (w : World) (lo p : Nat) (l : List Nat) (A : Option Addr) (c : Nat) (t : Ip) (T : TypeId) (zs : Array Value) (z : Nat) (W : World) : Prop where
  md : Mods (Is p) w W
  ce : CE lo p l A c t W
  z_ : Row W z T zs
  pw : p < w.heap.size
  wz : w.heap.size ≤ z
section
variable {w : World} {lo p : Nat} {l : List Nat} {A : Option Addr} {c : Nat} {t t' : Ip} {T : TypeId} {zs : Array Value} {z : Nat} {W W' : World}
theorem GZ.next (h : GZ w lo p l A c t T zs z W) (hm : Mods (Is p) W W') (hc : CE lo p l A c t' W') : GZ w lo p l A c t' T zs z W' := by
  obtain ⟨md, ce, z_, pw, wz⟩ := h
  exact ⟨md.trans hm, hc, z_.mods hm (fun hh => by unfold Is at hh; omega), pw, wz⟩
theorem GZ.below (h : GZ w lo p l A c t T zs z W) (hb : Below W.heap.size W W') : GZ w lo p l A c t T zs z W' :=
  h.next (Mods.of_below hb) (h.ce.mods (S := No) (Mods.of_below hb) fun _ hk => hk.elim)
theorem GZ.fin (h : GZ w lo p l A c t T zs z W) (hm : Mods (Is z) W W') : Mods (Is p) w W' ∧ CE lo p l A c t W' := by
  obtain ⟨md, ce, z_, pw, wz⟩ := h
  exact ⟨md.then hm fun q hq => .inr (by unfold Is at hq; omega), ce.mods hm fun q hq => .inr (by unfold Is at hq; omega)⟩
theorem GZ.new (h : CE lo p l A c t w) (T : TypeId) (zs : Array Value) : GZ w lo p l A c t T zs w.heap.size (w.alloc (.cells zs T)) :=
  ⟨(Mods.refl _ _).alloc _, h.alloc _, Row.new _ _ _, h.lt, Nat.le_refl _⟩
end

set_option maxRecDepth 100000 in
set_option maxHeartbeats 4000000 in
theorem instr_ce {w : World} {lo p : Nat} {l : List Nat} {A : Option Addr} {c : Nat} {s : Ip} (h : CE lo p l A c s w) (r : Int) (hr : 0 ≤ r ∧ r ≤ 65535) {m : Mi} {t : Ip} (hm : instrE r s = (m, t)) :
    Calls Try.prog 9 #[.pointer (some ⟨p, 0, none⟩), .int .i64 r] w fun e w' => e = .returned (.agg #[.int .i64 m.op, .int .i64 m.d, .int .i64 m.a, .int .i64 m.b, .int .i64 m.imm]) ∧ Mods (Is p) w w' ∧ CE lo p l A c t w' := by
  have hmf : ∀ (fn : Fn) (first cap : Array Value) (w : World), (Instr.makeFunc fn first cap).run Try.prog w = .ok (.func fn first cap) w := fun _ _ _ _ => rfl
  have HG : Hid (GZ w lo p l A c s 30 #[.int .i64 0, .int .i64 0, .int .i64 0, .int .i64 0, .int .i64 0] w.heap.size (w.alloc (.cells #[.int .i64 0, .int .i64 0, .int .i64 0, .int .i64 0, .int .i64 0] 30))) := GZ.new h _ _
  have C1 := Lib.hid (first_src HG.out.ce)
  have hv := firstE_rng (most := 17) (nt := 0) (why := 8) (s := s) (by decide)
  rw [instrE_eq] at hm
  obtain ⟨⟨v, u⟩, hf⟩ : ∃ y, y = firstE 17 0 8 s := ⟨_, rfl⟩
  rw [← hf] at C1 hv hm
  clear hf h
  dsimp only at C1 hv hm
  rw [readE_lt (show v ≠ 18 by omega)] at hm
  have hm1 : (if (iE v r u).2.err ≠ 0 then Mi0 else ⟨v, (dE v r u).1, (aE v r u).1, (bE v r u).1, (iE v r u).1, 0, 0⟩) = m := congrArg Prod.fst hm
  have hm2 : (iE v r u).2 = t := congrArg Prod.snd hm
  have HE : Hid ((if t.err ≠ 0 then #[.int .i64 0, .int .i64 0, .int .i64 0, .int .i64 0, .int .i64 0] else #[.int .i64 v, .int .i64 (dE v r u).1, .int .i64 (aE v r u).1, .int .i64 (bE v r u).1, .int .i64 (iE v r u).1]) = (#[.int .i64 m.op, .int .i64 m.d, .int .i64 m.a, .int .i64 m.b, .int .i64 m.imm] : Array Value)) := by
    show _ = _
    rw [← hm1, hm2]
    split <;> rfl
  have C2 := Lib.hid fun W (hc : CE lo p l A c u W) => getfields_any hc v r hr
  rw [hm2] at C2
  generalize (dE v r u).1 = vd at *
  generalize (aE v r u).1 = va at *
  generalize (bE v r u).1 = vb at *
  generalize (iE v r u).1 = vi at *
  clear hm hm1 hm2 hr
  go_enter Try.func9, Try.ntmps9
  go_upto_region 1 with fail
  generalize (w.alloc (.cells #[.int .i64 0, .int .i64 0, .int .i64 0, .int .i64 0, .int .i64 0] 30)) = W0 at *
  generalize w.heap.size = z at *
  go_wp2_with fail
  refine C1.out.mono ?_
  rintro e W1 ⟨rfl, hm, hc⟩
  have HG1 := Lib.hid (HG.out.next hm hc)
  clear hm hc HG C1
  go_wp2_with fail
  refine (C2.out _ HG1.out.ce).mono ?_
  rintro e W2 ⟨rfl, hm, hc⟩
  have HG2 := Lib.hid (HG1.out.next hm hc)
  clear hm hc HG1 C2
  have C3 := Lib.hid (unl_instr HG2.out.ce v vd va vb vi)
  rw [HE.out] at C3
  go_wp2_with fail
  refine C3.out.mono ?_
  rintro e W3 ⟨rfl, hb⟩
  have HG3 := Lib.hid (HG2.out.below hb)
  clear hb HG2 C3
  have z0 := HG3.out.z_.cell 0; have z1 := HG3.out.z_.cell 1; have z2 := HG3.out.z_.cell 2; have z3 := HG3.out.z_.cell 3; have z4 := HG3.out.z_.cell 4
  have zf0 := HG3.out.z_.frozen 0; have zf1 := HG3.out.z_.frozen 1; have zf2 := HG3.out.z_.frozen 2; have zf3 := HG3.out.z_.frozen 3; have zf4 := HG3.out.z_.frozen 4
  simp only [List.getElem?_toArray, List.getElem?_cons_zero, List.getElem?_cons_succ] at z0 z1 z2 z3 z4
  go_wp2
  (try simp only [Exit.inBlock, Exit.then])
  refine bodyPost_ret (v := .agg #[.int .i64 m.op, .int .i64 m.d, .int .i64 m.a, .int .i64 m.b, .int .i64 m.imm]) ?_ rfl ⟨rfl, HG3.out.fin (mods5i W3 z (.int .i64 m.op) (.int .i64 m.d) (.int .i64 m.a) (.int .i64 m.b) (.int .i64 m.imm))⟩
  exact results_cell_row rfl _ _ z 30 #[.int .i64 m.op, .int .i64 m.d, .int .i64 m.a, .int .i64 m.b, .int .i64 m.imm] (0, 0) _ rfl (HG3.out.z_.put5i _ _ _ _ _) Try.underlying30 rfl (by kernel_rfl)

set_option maxRecDepth 100000 in
set_option maxHeartbeats 4000000 in
theorem mach_ce {w : World} {lo p : Nat} {l : List Nat} {A : Option Addr} {c : Nat} {s : Ip} (h : CE lo p l A c s w) (r n : Int) (hr : 0 ≤ r ∧ r ≤ 65535) (hn : 0 ≤ n ∧ n ≤ 65535) {m : Mi} {t : Ip} (hm : machE r n s = (m, t)) :
    Calls Try.prog 10 #[.pointer (some ⟨p, 0, none⟩), .int .i64 r, .int .i64 n] w fun e w' => e = .returned (.agg #[.int .i64 m.op, .int .i64 m.d, .int .i64 m.a, .int .i64 m.b, .int .i64 m.imm, .int .i64 m.dst, .int .i64 m.src]) ∧ Mods (Is p) w w' ∧ CE lo p l A c t w' := by
  have hmf : ∀ (fn : Fn) (first cap : Array Value) (w : World), (Instr.makeFunc fn first cap).run Try.prog w = .ok (.func fn first cap) w := fun _ _ _ _ => rfl
  have HG : Hid (GZ w lo p l A c s 34 #[.int .i64 0, .int .i64 0, .int .i64 0, .int .i64 0, .int .i64 0, .int .i64 0, .int .i64 0] w.heap.size (w.alloc (.cells #[.int .i64 0, .int .i64 0, .int .i64 0, .int .i64 0, .int .i64 0, .int .i64 0, .int .i64 0] 34))) := GZ.new h _ _
  have C1 := Lib.hid (first_mach HG.out.ce)
  have hv := firstE_rng (most := 18) (nt := 2) (why := 8) (s := s) (by decide)
  rw [machE_eq] at hm
  obtain ⟨⟨v, u⟩, hf⟩ : ∃ y, y = firstE 18 2 8 s := ⟨_, rfl⟩
  rw [← hf] at C1 hv hm
  clear hf h
  dsimp only at C1 hv hm
  by_cases h18 : v = 18
  · subst h18
    obtain ⟨tx, htx⟩ : ∃ y, locE r n u = y := ⟨_, rfl⟩
    obtain ⟨ty, hty⟩ : ∃ y, locE r n tx.2 = y := ⟨_, rfl⟩
    rw [readE_18 htx hty] at hm
    have hm1 : (if (twoE true tx.1 ty.1 ty.2).err ≠ 0 then Mi0 else ⟨18, 0, 0, 0, 0, tx.1, ty.1⟩) = m := congrArg Prod.fst hm
    have hm2 : twoE true tx.1 ty.1 ty.2 = t := congrArg Prod.snd hm
    have HE : Hid ((if t.err ≠ 0 then #[.int .i64 0, .int .i64 0, .int .i64 0, .int .i64 0, .int .i64 0, .int .i64 0, .int .i64 0] else #[.int .i64 18, .int .i64 0, .int .i64 0, .int .i64 0, .int .i64 0, .int .i64 tx.1, .int .i64 ty.1]) = (#[.int .i64 m.op, .int .i64 m.d, .int .i64 m.a, .int .i64 m.b, .int .i64 m.imm, .int .i64 m.dst, .int .i64 m.src] : Array Value)) := by
      show _ = _
      rw [← hm1, hm2]
      split <;> rfl
    have C2 := Lib.hid fun W (hc : CE lo p l A c u W) => getmove_any hc r n hr.2 hn.2 htx hty
    rw [hm2] at C2
    generalize tx.1 = vx at *
    generalize ty.1 = vy at *
    clear hm hm1 hm2 hr hn hv htx hty
    go_enter Try.func10, Try.ntmps10
    go_upto_region 1 with fail
    generalize (w.alloc (.cells #[.int .i64 0, .int .i64 0, .int .i64 0, .int .i64 0, .int .i64 0, .int .i64 0, .int .i64 0] 34)) = W0 at *
    generalize w.heap.size = z at *
    go_wp2_with fail
    refine C1.out.mono ?_
    rintro e W1 ⟨rfl, hm, hc⟩
    have HG1 := Lib.hid (HG.out.next hm hc)
    clear hm hc HG C1
    go_wp2_with fail
    refine (C2.out _ HG1.out.ce).mono ?_
    rintro e W2 ⟨rfl, hm, hc⟩
    have HG2 := Lib.hid (HG1.out.next hm hc)
    clear hm hc HG1 C2
    have C3 := Lib.hid (unl_mach HG2.out.ce 18 0 0 0 0 vx vy)
    rw [HE.out] at C3
    go_wp2_with fail
    refine C3.out.mono ?_
    rintro e W3 ⟨rfl, hb⟩
    have HG3 := Lib.hid (HG2.out.below hb)
    clear hb HG2 C3
    have z0 := HG3.out.z_.cell 0; have z1 := HG3.out.z_.cell 1; have z2 := HG3.out.z_.cell 2; have z3 := HG3.out.z_.cell 3; have z4 := HG3.out.z_.cell 4; have z5 := HG3.out.z_.cell 5; have z6 := HG3.out.z_.cell 6
    have zf0 := HG3.out.z_.frozen 0; have zf1 := HG3.out.z_.frozen 1; have zf2 := HG3.out.z_.frozen 2; have zf3 := HG3.out.z_.frozen 3; have zf4 := HG3.out.z_.frozen 4; have zf5 := HG3.out.z_.frozen 5; have zf6 := HG3.out.z_.frozen 6
    simp only [List.getElem?_toArray, List.getElem?_cons_zero, List.getElem?_cons_succ] at z0 z1 z2 z3 z4 z5 z6
    go_wp2
    (try simp only [Exit.inBlock, Exit.then])
    refine bodyPost_ret (v := .agg #[.int .i64 m.op, .int .i64 m.d, .int .i64 m.a, .int .i64 m.b, .int .i64 m.imm, .int .i64 m.dst, .int .i64 m.src]) ?_ rfl ⟨rfl, HG3.out.fin (mods7i W3 z (.int .i64 m.op) (.int .i64 m.d) (.int .i64 m.a) (.int .i64 m.b) (.int .i64 m.imm) (.int .i64 m.dst) (.int .i64 m.src))⟩
    exact results_cell_row rfl _ _ z 34 #[.int .i64 m.op, .int .i64 m.d, .int .i64 m.a, .int .i64 m.b, .int .i64 m.imm, .int .i64 m.dst, .int .i64 m.src] (0, 0) _ rfl (HG3.out.z_.put7i _ _ _ _ _ _ _) Try.underlying34 rfl (by kernel_rfl)
  · rw [readE_lt h18] at hm
    have d18 : (v == 18) = false := beq_eq_false_iff_ne.2 h18
    have hm1 : (if (iE v r u).2.err ≠ 0 then Mi0 else ⟨v, (dE v r u).1, (aE v r u).1, (bE v r u).1, (iE v r u).1, 0, 0⟩) = m := congrArg Prod.fst hm
    have hm2 : (iE v r u).2 = t := congrArg Prod.snd hm
    have HE : Hid ((if t.err ≠ 0 then #[.int .i64 0, .int .i64 0, .int .i64 0, .int .i64 0, .int .i64 0, .int .i64 0, .int .i64 0] else #[.int .i64 v, .int .i64 (dE v r u).1, .int .i64 (aE v r u).1, .int .i64 (bE v r u).1, .int .i64 (iE v r u).1, .int .i64 0, .int .i64 0]) = (#[.int .i64 m.op, .int .i64 m.d, .int .i64 m.a, .int .i64 m.b, .int .i64 m.imm, .int .i64 m.dst, .int .i64 m.src] : Array Value)) := by
      show _ = _
      rw [← hm1, hm2]
      split <;> rfl
    have C2 := Lib.hid fun W (hc : CE lo p l A c u W) => getfields_any hc v r hr
    rw [hm2] at C2
    generalize (dE v r u).1 = vd at *
    generalize (aE v r u).1 = va at *
    generalize (bE v r u).1 = vb at *
    generalize (iE v r u).1 = vi at *
    clear hm hm1 hm2 hr hn h18
    go_enter Try.func10, Try.ntmps10
    go_upto_region 1 with fail
    generalize (w.alloc (.cells #[.int .i64 0, .int .i64 0, .int .i64 0, .int .i64 0, .int .i64 0, .int .i64 0, .int .i64 0] 34)) = W0 at *
    generalize w.heap.size = z at *
    go_wp2_with fail
    refine C1.out.mono ?_
    rintro e W1 ⟨rfl, hm, hc⟩
    have HG1 := Lib.hid (HG.out.next hm hc)
    clear hm hc HG C1
    go_wp2_with fail
    refine (C2.out _ HG1.out.ce).mono ?_
    rintro e W2 ⟨rfl, hm, hc⟩
    have HG2 := Lib.hid (HG1.out.next hm hc)
    clear hm hc HG1 C2
    go_upto_region 5 with fail
    have HJ := Lib.hid (Row.new W2 30 #[.int .i64 v, .int .i64 vd, .int .i64 va, .int .i64 vb, .int .i64 vi])
    have HG3 := Lib.hid (HG2.out.below ((Below.refl W2.heap.size W2).alloc (Nat.le_refl _) (.cells #[.int .i64 v, .int .i64 vd, .int .i64 va, .int .i64 vb, .int .i64 vi] 30)))
    clear HG2
    generalize (W2.alloc (.cells #[.int .i64 v, .int .i64 vd, .int .i64 va, .int .i64 vb, .int .i64 vi] 30)) = W3 at *
    generalize W2.heap.size = j at *
    have j0 := HJ.out.cell 0; have j1 := HJ.out.cell 1; have j2 := HJ.out.cell 2; have j3 := HJ.out.cell 3; have j4 := HJ.out.cell 4
    simp only [List.getElem?_toArray, List.getElem?_cons_zero, List.getElem?_cons_succ] at j0 j1 j2 j3 j4
    have C3 := Lib.hid (unl_mach HG3.out.ce v vd va vb vi 0 0)
    rw [HE.out] at C3
    go_wp2_with fail
    refine C3.out.mono ?_
    rintro e W4 ⟨rfl, hb⟩
    have HG4 := Lib.hid (HG3.out.below hb)
    clear hb HG3 C3 j0 j1 j2 j3 j4
    have z0 := HG4.out.z_.cell 0; have z1 := HG4.out.z_.cell 1; have z2 := HG4.out.z_.cell 2; have z3 := HG4.out.z_.cell 3; have z4 := HG4.out.z_.cell 4; have z5 := HG4.out.z_.cell 5; have z6 := HG4.out.z_.cell 6
    have zf0 := HG4.out.z_.frozen 0; have zf1 := HG4.out.z_.frozen 1; have zf2 := HG4.out.z_.frozen 2; have zf3 := HG4.out.z_.frozen 3; have zf4 := HG4.out.z_.frozen 4; have zf5 := HG4.out.z_.frozen 5; have zf6 := HG4.out.z_.frozen 6
    simp only [List.getElem?_toArray, List.getElem?_cons_zero, List.getElem?_cons_succ] at z0 z1 z2 z3 z4 z5 z6
    go_wp2
    (try simp only [Exit.inBlock, Exit.then])
    refine bodyPost_ret (v := .agg #[.int .i64 m.op, .int .i64 m.d, .int .i64 m.a, .int .i64 m.b, .int .i64 m.imm, .int .i64 m.dst, .int .i64 m.src]) ?_ rfl ⟨rfl, HG4.out.fin (mods7i W4 z (.int .i64 m.op) (.int .i64 m.d) (.int .i64 m.a) (.int .i64 m.b) (.int .i64 m.imm) (.int .i64 m.dst) (.int .i64 m.src))⟩
    exact results_cell_row rfl _ _ z 34 #[.int .i64 m.op, .int .i64 m.d, .int .i64 m.a, .int .i64 m.b, .int .i64 m.imm, .int .i64 m.dst, .int .i64 m.src] (0, 0) _ rfl (HG4.out.z_.put7i _ _ _ _ _ _ _) Try.underlying34 rfl (by kernel_rfl)

end Go.Proofs.Ytacmgfndmolnfaa
