/-
  What the statement on soundness carries through the two runs.
-/
import Derived.Test.YtabebkkicpcjcaaBcBf
import Derived.Test.YtabebkkicpcjcaaBcSet
import Derived.Test.YtabebkkicpcjcaaRunRs
import Derived.Test.YtabebkkicpcjcaaExRs
namespace Go.Proofs.Ytabebkkicpcjcaa
open Go.RowKit
set_option linter.unusedVariables false

/-- What lies below block B: the boxes, the functions, the result. -/
structure QX (B b0 : Nat) (bt mt : Tm) (A1 : Option Addr) (n1 c1 : Nat) (A2 : Option Addr) (n2 c2 : Nat) (fb gb rb nr ns : Nat) (BA : Option Addr) (cF : Nat) (MA : Option Addr) (cG : Nat) (bs : List Blk) (ms : List MBlk) (Ax : Option Addr) (cx : Nat) (RC : Rs) (W : World) : Prop where
  b : Row W b0 26 #[.slice A1 n1 c1, .int .i64 bt.kind, .int .i64 bt.a, .int .i64 bt.to, .int .i64 bt.el]
  m : Row W (b0 + 1) 29 #[.slice A2 n2 c2, .int .i64 mt.kind, .int .i64 mt.a, .int .i64 mt.to, .int .i64 mt.el]
  f : Row W fb 51 #[.int .i64 0, .int .i64 20, .slice BA 31 cF]
  g : Row W gb 54 #[.int .i64 0, .int .i64 (nr : Int), .int .i64 (ns : Int), .slice MA 31 cG]
  r : Row W rb 40 #[.slice Ax (RC).out.length cx, .int .i64 (RC).err, .int .i64 ((RC).at_ : Int), .int .i64 ((RC).steps : Int), .int .i64 ((RC).largest : Int)]
  bs : BlksAt W B BA bs
  ms : MBlksAt W B MA ms
  o : Sees W B Ax (prs RC.out)
  lb : b0 + 1 < B
  lf : fb < B
  lg : gb < B
  lr : rb < B
theorem QX.next {B b0 : Nat} {bt mt : Tm} {A1 : Option Addr} {n1 c1 : Nat} {A2 : Option Addr} {n2 c2 fb gb rb nr ns : Nat} {BA : Option Addr} {cF : Nat} {MA : Option Addr} {cG : Nat} {bs : List Blk} {ms : List MBlk} {Ax : Option Addr} {cx : Nat} {RC : Rs} {W W' : World}
    (h : QX B b0 bt mt A1 n1 c1 A2 n2 c2 fb gb rb nr ns BA cF MA cG bs ms Ax cx RC W) (hb : Below B W W') : QX B b0 bt mt A1 n1 c1 A2 n2 c2 fb gb rb nr ns BA cF MA cG bs ms Ax cx RC W' :=
  ⟨h.b.below hb (by have := h.lb; omega), h.m.below hb h.lb, h.f.below hb h.lf, h.g.below hb h.lg, h.r.below hb h.lr, h.bs.below hb, h.ms.below hb, h.o.below hb, h.lb, h.lf, h.lg, h.lr⟩

/-- The two runs, each at a block of its own; what lies below block B is as it was in W0. -/
structure O2 (B xq yq : Nat) (RA : Option Addr) (rc : Nat) (SA : Option Addr) (sc : Nat) (TA : Option Addr) (tc : Nat) (r : Rn) (RB : Option Addr) (rd : Nat) (SB : Option Addr) (sd : Nat) (TB : Option Addr) (td : Nat) (y : Xn) (W0 W : World) : Prop where
  blw : Below B W0 W
  xr : Row W xq 56 #[.int .i64 (r).st, .int .i64 ((r).blk : Int), .int .i64 ((r).pos : Int), .int .i64 (r).val, .slice RA (r).regs.length rc, .slice SA 0 sc, .slice TA (r).trace.length tc, .int .i64 ((r).steps : Int)]
  yr : Row W yq 56 #[.int .i64 (y).st, .int .i64 ((y).blk : Int), .int .i64 ((y).pos : Int), .int .i64 (y).val, .slice RB (y).regs.length rd, .slice SB (y).slots.length sd, .slice TB (y).trace.length td, .int .i64 ((y).steps : Int)]
  xv : RunV W B RA rc TA tc r
  yv : XV W B RB rd SB sd TB td y
  ne : ¬ xq = yq
  lx : B ≤ xq
  ly : B ≤ yq
section
variable {B xq yq : Nat} {RA : Option Addr} {rc : Nat} {SA : Option Addr} {sc : Nat} {TA : Option Addr} {tc : Nat} {r : Rn} {RB : Option Addr} {rd : Nat} {SB : Option Addr} {sd : Nat} {TB : Option Addr} {td : Nat} {y : Xn} {W0 W W' : World}
theorem O2.next (h : O2 B xq yq RA rc SA sc TA tc r RB rd SB sd TB td y W0 W) (hb : Below W.heap.size W W') : O2 B xq yq RA rc SA sc TA tc r RB rd SB sd TB td y W0 W' :=
  ⟨h.blw.trans (hb.mono (by have := h.xr.lt; have := h.lx; omega)), h.xr.below hb h.xr.lt, h.yr.below hb h.yr.lt, h.xv.below hb, h.yv.below hb, h.ne, h.lx, h.ly⟩
theorem runV_far {lo q : Nat} {T : TypeId} {cs : Array Value} (h : RunV W lo RA rc TA tc r) (hr : Row W q T cs) (hT : 2 ≠ T) (hm : Mods (Is q) W W') : RunV W' lo RA rc TA tc r :=
  ⟨hm.ownS h.regs fun k hk hs => own_row_ne h.regs hr hT k hk hs, hm.ownS h.trace fun k hk hs => own_row_ne h.trace hr hT k hk hs, h.ne⟩
theorem xV_far {lo q : Nat} {T : TypeId} {cs : Array Value} (h : XV W lo RB rd SB sd TB td y) (hr : Row W q T cs) (hT : 2 ≠ T) (hm : Mods (Is q) W W') : XV W' lo RB rd SB sd TB td y :=
  ⟨hm.ownS h.regs fun k hk hs => own_row_ne h.regs hr hT k hk hs, hm.ownS h.slots fun k hk hs => own_row_ne h.slots hr hT k hk hs, hm.ownS h.trace fun k hk hs => own_row_ne h.trace hr hT k hk hs, h.rs, h.rt, h.st⟩
theorem O2.putX {RA' : Option Addr} {rc' : Nat} {SA' : Option Addr} {sc' : Nat} {TA' : Option Addr} {tc' : Nat} {r' : Rn} (h : O2 B xq yq RA rc SA sc TA tc r RB rd SB sd TB td y W0 W) (hv : RunV W B RA' rc' TA' tc' r') :
    O2 B xq yq RA' rc' SA' sc' TA' tc' r' RB rd SB sd TB td y W0 (((((((((W.setCell ⟨xq, 0, none⟩ (.int .i64 r'.st)).setCell ⟨xq, 1, none⟩ (.int .i64 (r'.blk : Int))).setCell ⟨xq, 2, none⟩ (.int .i64 (r'.pos : Int))).setCell ⟨xq, 3, none⟩ (.int .i64 r'.val)).setCell ⟨xq, 4, none⟩ (.slice RA' r'.regs.length rc')).setCell ⟨xq, 5, none⟩ (.slice SA' 0 sc')).setCell ⟨xq, 6, none⟩ (.slice TA' r'.trace.length tc')).setCell ⟨xq, 7, none⟩ (.int .i64 (r'.steps : Int)))) := by
  have hm := mods8 W xq (.int .i64 r'.st) (.int .i64 (r'.blk : Int)) (.int .i64 (r'.pos : Int)) (.int .i64 r'.val) (.slice RA' r'.regs.length rc') (.slice SA' 0 sc') (.slice TA' r'.trace.length tc') (.int .i64 (r'.steps : Int))
  exact ⟨blw8 h.lx h.blw _ _ _ _ _ _ _ _, h.xr.put8 _ _ _ _ _ _ _ _, h.yr.mods hm (fun e => h.ne (Eq.symm e)), runV_far hv h.xr (by decide) hm, xV_far h.yv h.xr (by decide) hm, h.ne, h.lx, h.ly⟩
theorem O2.putY {RB' : Option Addr} {rd' : Nat} {SB' : Option Addr} {sd' : Nat} {TB' : Option Addr} {td' : Nat} {y' : Xn} (h : O2 B xq yq RA rc SA sc TA tc r RB rd SB sd TB td y W0 W) (hv : XV W B RB' rd' SB' sd' TB' td' y') :
    O2 B xq yq RA rc SA sc TA tc r RB' rd' SB' sd' TB' td' y' W0 (((((((((W.setCell ⟨yq, 0, none⟩ (.int .i64 y'.st)).setCell ⟨yq, 1, none⟩ (.int .i64 (y'.blk : Int))).setCell ⟨yq, 2, none⟩ (.int .i64 (y'.pos : Int))).setCell ⟨yq, 3, none⟩ (.int .i64 y'.val)).setCell ⟨yq, 4, none⟩ (.slice RB' y'.regs.length rd')).setCell ⟨yq, 5, none⟩ (.slice SB' y'.slots.length sd')).setCell ⟨yq, 6, none⟩ (.slice TB' y'.trace.length td')).setCell ⟨yq, 7, none⟩ (.int .i64 (y'.steps : Int)))) := by
  have hm := mods8 W yq (.int .i64 y'.st) (.int .i64 (y'.blk : Int)) (.int .i64 (y'.pos : Int)) (.int .i64 y'.val) (.slice RB' y'.regs.length rd') (.slice SB' y'.slots.length sd') (.slice TB' y'.trace.length td') (.int .i64 (y'.steps : Int))
  exact ⟨blw8 h.ly h.blw _ _ _ _ _ _ _ _, h.xr.mods hm h.ne, h.yr.put8 _ _ _ _ _ _ _ _, runV_far h.xv h.yr (by decide) hm, xV_far hv h.yr (by decide) hm, h.ne, h.lx, h.ly⟩
end

theorem codeN31 {code : List In} {t : Tm} (h : code.length ≤ 60) : codeN (⟨code, t⟩ :: List.replicate 30 ⟨[], zt⟩) ≤ 1000000 := by
  have hz : codeN (List.replicate 30 (⟨[], zt⟩ : Blk)) = 0 := by decide
  have hc : codeN (⟨code, t⟩ :: List.replicate 30 ⟨[], zt⟩) = code.length + codeN (List.replicate 30 (⟨[], zt⟩ : Blk)) := by simp [codeN]
  omega
theorem mcodeN31 {code : List Mi} {t : Tm} (h : code.length ≤ 200) : mcodeN (⟨code, t⟩ :: List.replicate 30 ⟨[], zt⟩) ≤ 1000000 := by
  have hz : mcodeN (List.replicate 30 (⟨[], zt⟩ : MBlk)) = 0 := by decide
  have hc : mcodeN (⟨code, t⟩ :: List.replicate 30 ⟨[], zt⟩) = code.length + mcodeN (List.replicate 30 (⟨[], zt⟩ : MBlk)) := by simp [mcodeN]
  omega
/-- A step of the reference's run over the 31 blocks. -/
theorem step31 {code : List In} {t : Tm} {r : Rn} {B c : Nat} {RA SA TA BA : Option Addr} {rc sc tc : Nat} {W : World} (hV : RunV W B RA rc TA tc r) (hs : BlksAt W B BA (⟨code, t⟩ :: List.replicate 30 ⟨[], zt⟩)) (hB : B ≤ W.heap.size) (hF : OkF 20 (⟨code, t⟩ :: List.replicate 30 ⟨[], zt⟩)) (hG : Good 20 (⟨code, t⟩ :: List.replicate 30 ⟨[], zt⟩) r) (hst : r.steps ≤ 1000000) (hn : code.length ≤ 60) :
    Calls Try.prog 15 #[.agg #[.int .i64 0, .int .i64 20, .slice BA 31 c], .agg #[.int .i64 (r).st, .int .i64 ((r).blk : Int), .int .i64 ((r).pos : Int), .int .i64 (r).val, .slice RA (r).regs.length rc, .slice SA 0 sc, .slice TA (r).trace.length tc, .int .i64 ((r).steps : Int)]] W (RunP W (stepR (⟨code, t⟩ :: List.replicate 30 ⟨[], zt⟩) r)) := by
  have hl := hG.len
  have h := rstepr_any (⟨code, t⟩ :: List.replicate 30 ⟨[], zt⟩) r B B 0 20 RA SA TA BA rc sc tc c W hV hs hB (by rw [hl]; exact hF) (by rw [hl]; exact hG) hst (by omega) (codeN31 hn) (by simp)
  rwa [show (⟨code, t⟩ :: List.replicate 30 (⟨[], zt⟩ : Blk)).length = 31 by simp] at h
theorem xstep31 {code : List Mi} {t : Tm} {r : Xn} {B n m c : Nat} {RA SA TA BA : Option Addr} {rc sc tc : Nat} {W : World} (hV : XV W B RA rc SA sc TA tc r) (hs : MBlksAt W B BA (⟨code, t⟩ :: List.replicate 30 ⟨[], zt⟩)) (hB : B ≤ W.heap.size) (hF : OkM n m (⟨code, t⟩ :: List.replicate 30 ⟨[], zt⟩)) (hG : GoodX n m (⟨code, t⟩ :: List.replicate 30 ⟨[], zt⟩) r) (hst : r.steps ≤ 1000000) (hn : code.length ≤ 200) (hn1 : n ≤ 1000) (hm1 : m ≤ 1000) :
    Calls Try.prog 16 #[.agg #[.int .i64 0, .int .i64 (n : Int), .int .i64 (m : Int), .slice BA 31 c], .agg #[.int .i64 (r).st, .int .i64 ((r).blk : Int), .int .i64 ((r).pos : Int), .int .i64 (r).val, .slice RA (r).regs.length rc, .slice SA (r).slots.length sc, .slice TA (r).trace.length tc, .int .i64 ((r).steps : Int)]] W (XP W (stepX (⟨code, t⟩ :: List.replicate 30 ⟨[], zt⟩) r)) := by
  have hl := hG.lenr
  have hl2 := hG.lens
  have h := xrstep_any (⟨code, t⟩ :: List.replicate 30 ⟨[], zt⟩) r B B 0 (n : Int) (m : Int) RA SA TA BA rc sc tc c W hV hs hB (by rw [hl, hl2]; exact hF) (by rw [hl, hl2]; exact hG) hst (by omega) (by omega) (mcodeN31 hn) (by simp)
  rwa [show (⟨code, t⟩ :: List.replicate 30 (⟨[], zt⟩ : MBlk)).length = 31 by simp] at h
theorem good31 {code : List In} {t : Tm} {x : List Int} (hl : x.length = 20) (hw : ∀ v ∈ x, InI v) : Good 20 (⟨code, t⟩ :: List.replicate 30 ⟨[], zt⟩) ⟨0, 0, 0, 0, x, [], 0⟩ :=
  ⟨by simp, Nat.zero_le _, hl, hw, Nat.le_refl _⟩
theorem xgood31 {code : List Mi} {t : Tm} {n m : Nat} {y z : List Int} (hl : y.length = n) (hm : z.length = m) (hw : ∀ v ∈ y, InI v) (hz : ∀ v ∈ z, InI v) : GoodX n m (⟨code, t⟩ :: List.replicate 30 ⟨[], zt⟩) ⟨0, 0, 0, 0, y, z, [], 0⟩ :=
  ⟨by simp, Nat.zero_le _, hl, hm, hw, hz, Nat.le_refl _⟩

set_option maxRecDepth 100000 in
set_option maxHeartbeats 1000000 in
theorem rread_gr (r : Xn) (l : Int) (lo : Nat) (RA SA TA : Option Addr) (rc sc tc : Nat) (w : World) (hV : XV w lo RA rc SA sc TA tc r) (hl : LocOk r.regs.length r.slots.length l) (hr : r.regs.length ≤ 1000000) (hs : r.slots.length ≤ 1000000) :
    Calls Try.prog 18 #[.agg #[.int .i64 (r).st, .int .i64 ((r).blk : Int), .int .i64 ((r).pos : Int), .int .i64 (r).val, .slice RA (r).regs.length rc, .slice SA (r).slots.length sc, .slice TA (r).trace.length tc, .int .i64 ((r).steps : Int)], .int .i64 l] w fun e w' => e = .returned (.int .i64 (rdX r l)) ∧ Grew w w' := by
  have hb := (Below.refl _ w).alloc (Nat.le_refl _) (.cells #[.int .i64 (r).st, .int .i64 ((r).blk : Int), .int .i64 ((r).pos : Int), .int .i64 (r).val, .slice RA (r).regs.length rc, .slice SA (r).slots.length sc, .slice TA (r).trace.length tc, .int .i64 ((r).steps : Int)] 56)
  have hV1 := hV.below hb
  have HG := Lib.hid ((Grew.refl w).alloc (.cells #[.int .i64 (r).st, .int .i64 ((r).blk : Int), .int .i64 ((r).pos : Int), .int .i64 (r).val, .slice RA (r).regs.length rc, .slice SA (r).slots.length sc, .slice TA (r).trace.length tc, .int .i64 ((r).steps : Int)] 56))
  obtain ⟨h0, ⟨h1, h2⟩ | ⟨h1, h2⟩⟩ := hl
  · obtain ⟨k, hk⟩ := Int.eq_ofNat_of_zero_le (show 0 ≤ l / 2 by omega)
    have hkn : k < r.slots.length := by omega
    obtain ⟨g, rfl, hc⟩ := regs_at hV.slots hkn
    have hlt := (ownS_lt hV.slots g rfl).2
    have hrd : rdX r l = rg r.slots (k : Int) := by rw [rdX, if_pos h1, hk]
    rw [hrd]
    obtain rfl : l = 2 * (k : Int) + 1 := by omega
    have e1 : (2 * (k : Int) + 1).tmod 2 = 1 := by rw [Int.tmod_eq_emod_of_nonneg (by omega)]; omega
    have e2 : (2 * (k : Int) + 1).tdiv 2 = k := by rw [Int.tdiv_eq_ediv_of_nonneg (by omega)]; omega
    have hk2 : (k : Int) < r.slots.length := by omega
    have hk3 : (k : Int) ≤ 1000000 := by omega
    clear h0 h1 h2 hk hkn hrd hb hV hV1 hr hs
    generalize rg r.slots (k : Int) = x at *
    go_enter Try.func18, Try.ntmps18
    go_wp2
    go_ret
    exact ⟨rfl, HG.out⟩
  · obtain ⟨k, hk⟩ := Int.eq_ofNat_of_zero_le (show 0 ≤ l / 2 by omega)
    have hkn : k < r.regs.length := by omega
    obtain ⟨g, rfl, hc⟩ := regs_at hV.regs hkn
    have hlt := (ownS_lt hV.regs g rfl).2
    have hrd : rdX r l = rg r.regs (k : Int) := by rw [rdX, if_neg (by omega), hk]
    rw [hrd]
    obtain rfl : l = 2 * (k : Int) := by omega
    have e1 : (2 * (k : Int)).tmod 2 = 0 := by rw [Int.tmod_eq_emod_of_nonneg (by omega)]; omega
    have e2 : (2 * (k : Int)).tdiv 2 = k := by rw [Int.tdiv_eq_ediv_of_nonneg (by omega)]; omega
    have hk2 : (k : Int) < r.regs.length := by omega
    have hk3 : (k : Int) ≤ 1000000 := by omega
    clear h0 h1 h2 hk hkn hrd hb hV hV1 hr hs
    generalize rg r.regs (k : Int) = x at *
    go_enter Try.func18, Try.ntmps18
    go_wp2
    go_ret
    exact ⟨rfl, HG.out⟩

end Go.Proofs.Ytabebkkicpcjcaa
