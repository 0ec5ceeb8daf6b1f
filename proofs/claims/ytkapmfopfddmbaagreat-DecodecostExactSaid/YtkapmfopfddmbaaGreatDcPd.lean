/-
  The program of layer 21: the blocks of a function.
-/
import Derived.Test.YtkapmfopfddmbaaGreatDcPc
namespace Go.Proofs.YtkapmfopfddmbaaGreat
open Go.RowKit
set_option linter.unusedVariables false
set_option linter.unusedSimpArgs false

/-- The functions that add to the cost in block q. -/
def ADD (q : Nat) : Array Value := #[.func (.func 26) #[] #[.pointer (some ⟨q, 0, none⟩)], .func (.func 27) #[] #[.pointer (some ⟨q, 0, none⟩)], .func (.func 28) #[] #[.pointer (some ⟨q, 0, none⟩)]]

def COS (b i p y : Int) : Array Value := #[.int .i64 b, .int .i64 i, .int .i64 p, .int .i64 y]

def SZS (a r n b : Int) : Array Value := #[.int .i64 a, .int .i64 r, .int .i64 n, .int .i64 b]

/-- A cursor and a cost that are carried from call to call. -/
structure KC (w : World) (lo p : Nat) (l : List Nat) (A : Option Addr) (c : Nat) (t : Ip) (q : Nat) (cs : Array Value) (W : World) : Prop where
  md : Mods (Two p q) w W
  ce : CE lo p l A c t W
  bx : Row W q 37 cs
  pw : p < w.heap.size
  qp : q < lo ∧ lo ≤ p

section
variable {w W W' : World} {lo p : Nat} {l : List Nat} {A : Option Addr} {c : Nat} {t t' : Ip} {q : Nat} {cs cs' : Array Value}

theorem CE.lop (h : CE lo p l A c t w) : lo ≤ p := let ⟨i, hc, _⟩ := h; hc.lop

theorem KC.start (h : CE lo p l A c t w) (hq : Row w q 37 cs) (hl : q < lo) : KC w lo p l A c t q cs w := ⟨Mods.refl _ _, h, hq, h.lt, hl, h.lop⟩

theorem KC.next (h : KC w lo p l A c t q cs W) (hm : Mods (Is p) W W') (hc : CE lo p l A c t' W') : KC w lo p l A c t' q cs W' :=
  ⟨h.md.trans hm.l2, hc, h.bx.mods hm (by have := h.qp; unfold Is; omega), h.pw, h.qp⟩

theorem KC.upd (h : KC w lo p l A c t q cs W) (hm : Mods (Two p q) W W') (hc : CE lo p l A c t' W') (hr : Row W' q 37 cs') : KC w lo p l A c t' q cs' W' :=
  ⟨h.md.trans hm, hc, hr, h.pw, h.qp⟩

theorem KC.below (h : KC w lo p l A c t q cs W) (hb : Below W.heap.size W W') : KC w lo p l A c t q cs W' :=
  ⟨h.md.trans (Mods.of_below hb), h.ce.mods (S := No) (Mods.of_below hb) fun _ hk => hk.elim, h.bx.below hb h.bx.lt, h.pw, h.qp⟩

theorem KC.alloc (h : KC w lo p l A c t q cs W) (o : Obj) : KC w lo p l A c t q cs (W.alloc o) := h.below ((Below.refl _ _).alloc (Nat.le_refl _) o)

theorem KC.row {x : Nat} {T : TypeId} {zs : Array Value} (h : KC w lo p l A c t q cs W) (hr : Row w x T zs) (h1 : x ≠ p) (h2 : x ≠ q) : Row W x T zs := hr.mods h.md fun hk => hk.elim h1 h2

theorem KC.sz (h : KC w lo p l A c t q cs W) : w.heap.size ≤ W.heap.size := h.md.size

theorem KC.q1 (h : KC w lo p l A c t q cs W) : q < w.heap.size := by have := h.qp; have := h.pw; omega

/-- From an older world. -/
theorem KC.after {w0 : World} (h : KC w lo p l A c t q cs W) (hm : Mods (Two p q) w0 w) (hp : p < w0.heap.size) : KC w0 lo p l A c t q cs W := ⟨hm.trans h.md, h.ce, h.bx, hp, h.qp⟩

end

set_option maxRecDepth 100000 in
set_option maxHeartbeats 8000000 in
theorem dblks_any {w : World} {lo p : Nat} {l : List Nat} {A : Option Addr} {c : Nat} {s : Ip} {q : Nat} {b0 i0 p0 y0 : Int} (h : KC w lo p l A c s q (COS b0 i0 p0 y0) w) (a r n b : Int) (hr : 0 ≤ r ∧ r ≤ 1048576) (hb : 0 ≤ b ∧ b ≤ 1048576)
    (K : FuncId) (caps : Array Value) (hK : ∀ args W, (callFunc K args).run Tryz.prog W = .ok (.enter K args) W) (g : Ip → Int × Ip)
    (HG : ∀ W t, Mods (Two p q) w W → CE lo p l A c t W → Calls Tryz.prog K caps W (RdG lo p l A c (g t) W))
    {s1 : Ip} (hs1 : (if decide (b = 0) = true then failE 14 s else s) = s1) (hi0 : 0 ≤ i0) (hit : i0 + bksI g r b b.toNat 0 s1 ≤ 1152921504606846976) :
    Calls Tryz.prog 69 #[.pointer (some ⟨p, 0, none⟩), .agg (SZS a r n b), .func (.func K) #[] caps, .agg (ADD q)] w
      fun e w' => e = .returned (.tuple #[]) ∧ KC w lo p l A c (bksT g r b b.toNat 0 s1) q (COS b0 (i0 + bksI g r b b.toNat 0 s1) p0 y0) w' := by
  have hKI : ∀ args W, (callFunc 27 args).run Tryz.prog W = .ok (.enter 27 args) W := fun args W => enters_of Tryz.func27 (by kernel_rfl) rfl args W
  have HH := Lib.hid h
  have HGG := Lib.hid HG
  have HKI := Lib.hid hKI
  have HK := Lib.hid hK
  obtain ⟨Tot, hTot⟩ : ∃ T, i0 + bksI g r b b.toNat 0 s1 = T := ⟨_, rfl⟩
  obtain ⟨F, hF⟩ : ∃ T, bksT g r b b.toNat 0 s1 = T := ⟨_, rfl⟩
  rw [hTot] at hit ⊢
  rw [hF]
  have HT := Lib.hid hTot
  have HF := Lib.hid hF
  have H0 := Lib.hid ((h.alloc (.cells (SZS a r n b) 97)).alloc (.cells (ADD q) 71))
  have R5 := Lib.hid ((Row.new w 97 (SZS a r n b)).alloc (.cells (ADD q) 71))
  have R7 := Lib.hid (Row.new (w.alloc (.cells (SZS a r n b) 97)) 71 (ADD q))
  rw [show (w.alloc (.cells (SZS a r n b) 97)).heap.size = w.heap.size + 1 by simp] at R7
  have hpw := h.pw
  have hqw := h.q1
  clear h HG hTot hF hKI hK
  go_enter Tryz.func69, Tryz.ntmps69
  go_upto_region 1 with fail
  obtain ⟨x5, hx5⟩ : ∃ x, w.heap.size = x := ⟨_, rfl⟩
  obtain ⟨x7, hx7⟩ : ∃ x, w.heap.size + 1 = x := ⟨_, rfl⟩
  have e1 : (w.alloc (.cells (SZS a r n b) 97)).heap.size = x7 := by simp; omega
  rw [hx5] at R5
  rw [hx7] at R7
  rw [hx7, hx5]
  have h57 : x5 < x7 := by omega
  have hp5 : p < x5 := by omega
  have hq5 : q < x5 := by omega
  generalize ((w.alloc (.cells (SZS a r n b) 97)).alloc (.cells (ADD q) 71)) = W1 at *
  have HM0 := Lib.hid H0.out.md
  have H1 : Hid (KC W1 lo p l A c s q (COS b0 i0 p0 y0) W1) := KC.start H0.out.ce H0.out.bx H0.out.qp.1
  have HG1 : Hid (∀ W t, Mods (Two p q) W1 W → CE lo p l A c t W → Calls Tryz.prog K caps W (RdG lo p l A c (g t) W)) := fun W t hm hc => HGG.out W t (HM0.out.trans hm) hc
  have c3 : W1.cell? ⟨x5, 3, none⟩ = some (.int .i64 b) := R5.out.cell 3
  have C0 := Lib.hid (dfail_ce H1.out.ce (decide (b = 0)) 14 (by decide))
  rw [hs1] at C0
  have hbe : (b == 0) = decide (b = 0) := by rw [Bool.eq_iff_iff]; simp
  clear H0 HH HGG hs1
  go_wp2_with fail
  refine C0.out.mono ?_
  rintro e W2 ⟨rfl, hm, hc⟩
  have H2 := Lib.hid (H1.out.next hm hc)
  clear hm hc C0 H1 c3 hbe
  have hbn : ((b.toNat : Nat) : Int) = b := by omega
  go_wp2
  go_loopg [8, 9] b.toNat (fun gk v8 v9 wr => ∃ (m : Nat) (tot i' : Int) (t : Ip), m + gk = b.toNat ∧ v8 = .int .i64 (1048576 - tot) ∧ v9 = .int .i64 m ∧ 0 ≤ tot ∧ tot ≤ 2097152 ∧ 0 ≤ i' ∧ Hid (t.err = 0 → tot ≤ 1048576) ∧ Hid (i' + bksI g r b gk tot t = Tot) ∧ Hid (bksT g r b gk tot t = F) ∧ Hid (KC W1 lo p l A c t q (COS b0 i' p0 y0) wr))
  case atStart => exact ⟨0, 0, i0, s1, by omega, rfl, rfl, by omega, by omega, hi0, (fun _ => by decide), HT.out, HF.out, H2.out⟩
  case round =>
    clear H2 HT HF
    obtain ⟨m, tot, i', t, hmk, rfl, rfl, ht0, ht1, hi', htl, HT, HF, HC⟩ := hrel
    have c3 : wr.cell? ⟨x5, 3, none⟩ = some (.int .i64 b) := (HC.out.row R5.out (by omega) (by omega)).cell 3
    cases gk with
    | zero =>
      have hlt : ¬ (m : Int) < b := by omega
      have HE : Hid (t = F) := HF.out
      have HE2 : Hid (i' = Tot) := by show i' = Tot; rw [← HT.out]; exact (Int.add_zero _).symm
      clear HT HF
      go_wp2
      go_end0
      exact ⟨rfl, by rw [← HE.out, ← HE2.out]; exact HC.out.after HM0.out hpw⟩
    | succ gk =>
      have hlt : (m : Int) < b := by omega
      have C1 := Lib.hid (err_ce HC.out.ce)
      by_cases he : t.err = 0
      case neg =>
        have d0 : (t.err == 0) = false := by simp [he]
        have HE : Hid (t = F) := by show t = F; rw [← HF.out, bksT_err he]
        have HE2 : Hid (i' = Tot) := by show i' = Tot; rw [← HT.out, bksI_err he]; exact (Int.add_zero _).symm
        clear HT HF he
        go_wp2_with fail
        refine C1.out.mono ?_
        rintro e W ⟨rfl, rfl⟩
        go_wp2
        go_end0
        exact ⟨rfl, by rw [← HE.out, ← HE2.out]; exact HC.out.after HM0.out hpw⟩
      have d0 : (t.err == 0) = true := by simp [he]
      have htm := htl.out he
      have hkr := cntE_rng (k := 2) (s := t)
      have HT2 : Hid (i' + ((cntE 2 t).1 + bksI g r b gk (tot + (cntE 2 t).1) (bkT g r b tot t)) = Tot) := by
        show _ = Tot
        rw [← HT.out]
        show _ = i' + (if t.err ≠ 0 then 0 else _)
        rw [if_neg (fun hh => hh he)]
      have HF2 : Hid (bksT g r b gk (tot + (cntE 2 t).1) (bkT g r b tot t) = F) := by
        show _ = F
        rw [← HF.out]
        show _ = (if t.err ≠ 0 then t else _)
        rw [if_neg (fun hh => hh he)]
      obtain ⟨u, hu⟩ : ∃ u, (icE tot t).2 = u := ⟨_, rfl⟩
      have HU : Hid ((if 1048576 < tot + (cntE 2 t).1 then failE 6 (cntE 2 t).2 else (cntE 2 t).2) = u) := by show _ = _; rw [← hu]; rfl
      have HBT : Hid (bkT g r b tot t = (termE r b (cdE g (cntE 2 t).1.toNat 0 u)).2) := by show _ = _; rw [← hu]; rfl
      have hle : i' + (cntE 2 t).1 ≤ Tot := by
        have := bksI_nn (g := g) (regs := r) (n := b) gk (tot + (cntE 2 t).1) (bkT g r b tot t)
        have := HT2.out
        omega
      have HA : ∀ W, Row W q 37 (COS b0 i' p0 y0) → Calls Tryz.prog 27 #[.int .i64 (cntE 2 t).1, .pointer (some ⟨q, 0, none⟩)] W fun e w' => e = .returned (.tuple #[]) ∧ Mods (Is q) W w' ∧ Row w' q 37 (COS b0 (i' + (cntE 2 t).1) p0 y0) := fun W hR => daddI_any hR (by omega) (by omega)
      have C2 := Lib.hid (dcount_any HC.out.ce 2 (by decide) (by decide) 27 HKI.out HC.out.bx (.inl HC.out.qp.1) HA)
      obtain ⟨⟨n2, s2⟩, hk⟩ : ∃ y, cntE 2 t = y := ⟨_, rfl⟩
      rw [hk] at hkr HT2 HF2 HU HBT C2 hle
      dsimp only at hkr HT2 HF2 HU HBT C2 hle
      obtain ⟨kk, rfl⟩ : ∃ kk : Nat, n2 = (kk : Int) := ⟨n2.toNat, by omega⟩
      have HEL : Hid (u.err = 0 → tot + kk ≤ 1048576) := fun h9 => by
        by_cases h8 : 1048576 < tot + (kk : Int)
        · have := HU.out
          rw [if_pos h8] at this
          rw [← this] at h9
          exact absurd h9 (failE_err (by decide))
        · omega
      clear HT HF he hk hu htl HA
      have d1 : wr.cell? ⟨x7, 1, none⟩ = some (.func (.func 27) #[] #[.pointer (some ⟨q, 0, none⟩)]) := (HC.out.row R7.out (by omega) (by omega)).cell 1
      go_wp2_with fail
      refine C1.out.mono ?_
      rintro e W ⟨rfl, rfl⟩
      clear C1
      go_wp2_with fail
      refine C2.out.mono ?_
      rintro e W3 ⟨rfl, hm, hc, hbx⟩
      have HC3 := Lib.hid (HC.out.upd hm hc hbx)
      clear hm hc hbx C2 HC c3 d1
      have C3 := Lib.hid (dfail_ce HC3.out.ce (decide (1048576 - tot < (kk : Int))) 6 (by decide))
      have hu3 : (if decide (1048576 - tot < (kk : Int)) = true then failE 6 s2 else s2) = u := by
        rw [← HU.out]
        by_cases h9 : 1048576 - tot < (kk : Int)
        · rw [if_pos (by simpa using h9), if_pos (by omega)]
        · rw [if_neg (by simpa using h9), if_neg (by omega)]
      rw [hu3] at C3
      clear hu3 HU
      go_wp2_with fail
      refine C3.out.mono ?_
      rintro e W4 ⟨rfl, hm, hc⟩
      have HC4 := Lib.hid (HC3.out.next hm hc)
      clear hm hc C3 HC3
      have C4 := Lib.hid (dcode_any HC4.out.ce kk (by omega) K caps HK.out g fun W t' hm hc => HG1.out W t' (HC4.out.md.trans hm.l2) hc)
      have e9 : ((kk : Int).toNat) = kk := by omega
      rw [e9] at HBT
      obtain ⟨u2, hu2⟩ : ∃ u2, cdE g kk 0 u = u2 := ⟨_, rfl⟩
      rw [hu2] at C4 HBT
      have HCE : Hid (u2.err = 0 → u.err = 0) := fun h9 => by
        by_cases h8 : u.err = 0
        · exact h8
        · rw [cdE_err h8] at hu2
          rw [← hu2] at h9
          exact absurd h9 h8
      clear hu2 e9
      go_wp2_with fail
      refine C4.out.mono ?_
      rintro e W5 ⟨rfl, hm, hc⟩
      have HC5 := Lib.hid (HC4.out.next hm hc)
      clear hm hc C4 HC4
      obtain ⟨⟨tm, u3⟩, hu3⟩ : ∃ y, termE r b u2 = y := ⟨_, rfl⟩
      have C5 := Lib.hid (term_ce HC5.out.ce r b ⟨hr.1, by omega⟩ ⟨hb.1, by omega⟩ hu3)
      have HTE : Hid (u3.err = 0 → u2.err = 0) := fun h9 => by
        by_cases h8 : u2.err = 0
        · exact h8
        · rw [termE_err h8] at hu3
          injection hu3 with _ hu3
          rw [← hu3] at h9
          exact absurd h9 h8
      have HBT2 : Hid (bkT g r b tot t = u3) := by show _ = _; rw [HBT.out, hu3]
      rw [HBT2.out] at HT2 HF2
      clear hu3 HBT HBT2
      have c1 : W5.cell? ⟨x5, 1, none⟩ = some (.int .i64 r) := (HC5.out.row R5.out (by omega) (by omega)).cell 1
      have c3 : W5.cell? ⟨x5, 3, none⟩ = some (.int .i64 b) := (HC5.out.row R5.out (by omega) (by omega)).cell 3
      go_wp2_with fail
      refine C5.out.mono ?_
      rintro e W6 ⟨rfl, hm, hc⟩
      have HC6 := Lib.hid (HC5.out.next hm hc)
      clear hm hc C5 HC5 c1 c3
      go_wp2
      go_roundg gk
      case measure => omega
      case rel => exact ⟨m + 1, tot + kk, i' + kk, u3, by omega, congrArg (Value.int .i64) (by omega), rfl, by omega, by omega, by omega, (fun h9 => HEL.out (HCE.out (HTE.out h9))), by show _ = _; rw [← HT2.out]; omega, HF2.out, HC6.out⟩

end Go.Proofs.YtkapmfopfddmbaaGreat
