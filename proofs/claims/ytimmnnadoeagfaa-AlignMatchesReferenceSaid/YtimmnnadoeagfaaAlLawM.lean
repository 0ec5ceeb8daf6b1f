/-
  The walk of the statement on the reference.
-/
import Derived.Test.YtimmnnadoeagfaaAlAwake
import Derived.Test.YtimmnnadoeagfaaAlIn
namespace Go.Proofs.Ytimmnnadoeagfaa
open Go.RowKit
set_option linter.unusedVariables false

theorem al_len (code : List In) (mach : List Mi) : ∀ (a b : List Nat) (i k : Nat) (acc : List Rw), (al code mach a b i k acc).1.length ≤ acc.length + a.length + 1
  | [], [], _, _, _ => by simp [al]
  | _ :: _, [], _, _, _ => by simp [al]
  | [], _ :: _, _, _, _ => by simp [al]
  | x :: a, y :: b, i, k, acc => by
    rw [al]
    split
    · have := al_len code mach a b (x + 1) (y + 1) (acc ++ [⟨i, x, k, y, x, y⟩])
      simp at this ⊢
      omega
    · simp
theorem alC_len (code : List In) (mach : List Mi) : (alC code mach).1.length ≤ code.length + 1 := by
  have h1 := al_len code mach (idx isC code 0) (idx isM mach 0) 0 0 []
  have h2 := idx_le isC code 0
  unfold alC
  simp at h1
  omega

/-- What the walk carries: four boxes, two lists of rows. -/
structure KM (w : World) (i : In) (m : Mi) (a b : Tm) (Ar As : Option Addr) (n cr cs : Nat) (l : List Rw) (W : World) : Prop where
  blw : Below w.heap.size w W
  i : Row W w.heap.size 25 #[.int .i64 i.op, .int .i64 i.d, .int .i64 i.a, .int .i64 i.b, .int .i64 i.imm]
  m : Row W (w.heap.size + 1) 28 #[.int .i64 m.op, .int .i64 m.d, .int .i64 m.a, .int .i64 m.b, .int .i64 m.imm, .int .i64 m.dst, .int .i64 m.src]
  a : Row W (w.heap.size + 1 + 1) 30 #[.int .i64 a.kind, .int .i64 a.a, .int .i64 a.to, .int .i64 a.el]
  b : Row W (w.heap.size + 1 + 1 + 1) 30 #[.int .i64 b.kind, .int .i64 b.a, .int .i64 b.to, .int .i64 b.el]
  r : RS W Ar n cr l
  s : RS W As n cs l
theorem KM.below {w : World} {i : In} {m : Mi} {a b : Tm} {Ar As : Option Addr} {n cr cs : Nat} {l : List Rw} {W W' : World} (h : KM w i m a b Ar As n cr cs l W) (hb : Below W.heap.size W W') : KM w i m a b Ar As n cr cs l W' :=
  ⟨h.blw.trans (hb.mono h.blw.size), h.i.below hb h.i.lt, h.m.below hb h.m.lt, h.a.below hb h.a.lt, h.b.below hb h.b.lt, h.r.below hb, h.s.below hb⟩

/-- The boxes alone. -/
structure KB (w : World) (i : In) (m : Mi) (a b : Tm) (W : World) : Prop where
  blw : Below w.heap.size w W
  i : Row W w.heap.size 25 #[.int .i64 i.op, .int .i64 i.d, .int .i64 i.a, .int .i64 i.b, .int .i64 i.imm]
  m : Row W (w.heap.size + 1) 28 #[.int .i64 m.op, .int .i64 m.d, .int .i64 m.a, .int .i64 m.b, .int .i64 m.imm, .int .i64 m.dst, .int .i64 m.src]
  a : Row W (w.heap.size + 1 + 1) 30 #[.int .i64 a.kind, .int .i64 a.a, .int .i64 a.to, .int .i64 a.el]
  b : Row W (w.heap.size + 1 + 1 + 1) 30 #[.int .i64 b.kind, .int .i64 b.a, .int .i64 b.to, .int .i64 b.el]
theorem KB.below {w : World} {i : In} {m : Mi} {a b : Tm} {W W' : World} (h : KB w i m a b W) (hb : Below W.heap.size W W') : KB w i m a b W' :=
  ⟨h.blw.trans (hb.mono h.blw.size), h.i.below hb h.i.lt, h.m.below hb h.m.lt, h.a.below hb h.a.lt, h.b.below hb h.b.lt⟩
/-- The boxes, made one after another. -/
abbrev boxes (w : World) (i : In) (m : Mi) (a b : Tm) : World := (((w.alloc (.cells #[.int .i64 i.op, .int .i64 i.d, .int .i64 i.a, .int .i64 i.b, .int .i64 i.imm] 25)).alloc (.cells #[.int .i64 m.op, .int .i64 m.d, .int .i64 m.a, .int .i64 m.b, .int .i64 m.imm, .int .i64 m.dst, .int .i64 m.src] 28)).alloc (.cells #[.int .i64 a.kind, .int .i64 a.a, .int .i64 a.to, .int .i64 a.el] 30)).alloc (.cells #[.int .i64 b.kind, .int .i64 b.a, .int .i64 b.to, .int .i64 b.el] 30)
theorem KB.new (w : World) (i : In) (m : Mi) (a b : Tm) : KB w i m a b (boxes w i m a b) := by
  have s1 : (w.alloc (.cells #[.int .i64 i.op, .int .i64 i.d, .int .i64 i.a, .int .i64 i.b, .int .i64 i.imm] 25)).heap.size = w.heap.size + 1 := by simp
  have s2 : ((w.alloc (.cells #[.int .i64 i.op, .int .i64 i.d, .int .i64 i.a, .int .i64 i.b, .int .i64 i.imm] 25)).alloc (.cells #[.int .i64 m.op, .int .i64 m.d, .int .i64 m.a, .int .i64 m.b, .int .i64 m.imm, .int .i64 m.dst, .int .i64 m.src] 28)).heap.size = w.heap.size + 1 + 1 := by simp
  have s3 : (((w.alloc (.cells #[.int .i64 i.op, .int .i64 i.d, .int .i64 i.a, .int .i64 i.b, .int .i64 i.imm] 25)).alloc (.cells #[.int .i64 m.op, .int .i64 m.d, .int .i64 m.a, .int .i64 m.b, .int .i64 m.imm, .int .i64 m.dst, .int .i64 m.src] 28)).alloc (.cells #[.int .i64 a.kind, .int .i64 a.a, .int .i64 a.to, .int .i64 a.el] 30)).heap.size = w.heap.size + 1 + 1 + 1 := by simp
  have h1 := Row.new w 25 #[.int .i64 i.op, .int .i64 i.d, .int .i64 i.a, .int .i64 i.b, .int .i64 i.imm]
  have h2 := Row.new (w.alloc (.cells #[.int .i64 i.op, .int .i64 i.d, .int .i64 i.a, .int .i64 i.b, .int .i64 i.imm] 25)) 28 #[.int .i64 m.op, .int .i64 m.d, .int .i64 m.a, .int .i64 m.b, .int .i64 m.imm, .int .i64 m.dst, .int .i64 m.src]
  have h3 := Row.new ((w.alloc (.cells #[.int .i64 i.op, .int .i64 i.d, .int .i64 i.a, .int .i64 i.b, .int .i64 i.imm] 25)).alloc (.cells #[.int .i64 m.op, .int .i64 m.d, .int .i64 m.a, .int .i64 m.b, .int .i64 m.imm, .int .i64 m.dst, .int .i64 m.src] 28)) 30 #[.int .i64 a.kind, .int .i64 a.a, .int .i64 a.to, .int .i64 a.el]
  have h4 := Row.new (((w.alloc (.cells #[.int .i64 i.op, .int .i64 i.d, .int .i64 i.a, .int .i64 i.b, .int .i64 i.imm] 25)).alloc (.cells #[.int .i64 m.op, .int .i64 m.d, .int .i64 m.a, .int .i64 m.b, .int .i64 m.imm, .int .i64 m.dst, .int .i64 m.src] 28)).alloc (.cells #[.int .i64 a.kind, .int .i64 a.a, .int .i64 a.to, .int .i64 a.el] 30)) 30 #[.int .i64 b.kind, .int .i64 b.a, .int .i64 b.to, .int .i64 b.el]
  rw [s1] at h2
  rw [s2] at h3
  rw [s3] at h4
  exact ⟨((((Below.refl w.heap.size w).alloc (Nat.le_refl _) _).alloc (by omega) _).alloc (by omega) _).alloc (by omega) _, ((h1.alloc _).alloc _).alloc _, (h2.alloc _).alloc _, h3.alloc _, h4⟩

set_option maxRecDepth 100000 in
set_option maxHeartbeats 4000000 in
theorem alM_big (A0 A1 : Option Addr) (n0 c0 n1 c1 : Nat) (i : In) (m : Mi) (a b : Tm) (w : World) (h : 300 < n0 ∨ 300 < n1) :
    Calls Try.prog 3 #[.slice A0 n0 c0, .slice A1 n1 c1, .agg #[.int .i64 i.op, .int .i64 i.d, .int .i64 i.a, .int .i64 i.b, .int .i64 i.imm], .agg #[.int .i64 m.op, .int .i64 m.d, .int .i64 m.a, .int .i64 m.b, .int .i64 m.imm, .int .i64 m.dst, .int .i64 m.src], .agg #[.int .i64 a.kind, .int .i64 a.a, .int .i64 a.to, .int .i64 a.el], .agg #[.int .i64 b.kind, .int .i64 b.a, .int .i64 b.to, .int .i64 b.el]] w fun e w' => e = .returned (.bool true) ∧ Below w.heap.size w w' := by
  have AW := Lib.hid fun W => awake_any W
  have HB0 := Lib.hid (KB.new w i m a b).blw
  go_enter Try.func3, Try.ntmps3
  by_cases h0 : 300 < n0
  · have z0 : (300 : Int) < (n0 : Int) := by omega
    clear h
    go_wp2_with fail
    refine (AW.out _).mono ?_
    rintro e W1 ⟨rfl, hb⟩
    have HB := Lib.hid (HB0.out.trans (hb.mono HB0.out.size))
    clear hb
    go_wp2_with fail
    refine (AW.out _).mono ?_
    rintro e W2 ⟨rfl, hb⟩
    have HB2 := Lib.hid (HB.out.trans (hb.mono HB.out.size))
    clear hb
    go_wp2
    go_ret
    exact ⟨rfl, HB2.out⟩
  · have z0 : ¬ (300 : Int) < (n0 : Int) := by omega
    have z1 : (300 : Int) < (n1 : Int) := by omega
    clear h
    go_wp2_with fail
    refine (AW.out _).mono ?_
    rintro e W1 ⟨rfl, hb⟩
    have HB := Lib.hid (HB0.out.trans (hb.mono HB0.out.size))
    clear hb
    go_wp2_with fail
    refine (AW.out _).mono ?_
    rintro e W2 ⟨rfl, hb⟩
    have HB2 := Lib.hid (HB.out.trans (hb.mono HB.out.size))
    clear hb
    go_wp2
    go_ret
    exact ⟨rfl, HB2.out⟩

set_option maxRecDepth 100000 in
set_option maxHeartbeats 16000000 in
theorem AlignMatchesReference_walk (a0 : Option Addr) (len0 cap0 : Nat) (a1 : Option Addr) (len1 cap1 : Nat) (a2 a3 a4 a5 : Array Value) (w : World) (w0 : IsIns w a0 len0 cap0) (w1 : IsMis w a1 len1 cap1) (w2 : IsIn w a2) (w3 : IsMi w a3) (w4 : IsTm w a4) (w5 : IsTm w a5) :
    Calls Try.prog 3 #[.slice a0 len0 cap0, .slice a1 len1 cap1, .agg a2, .agg a3, .agg a4, .agg a5] w fun e w' => e = .returned (.bool true) ∧ Below w.heap.size w w' := by
  obtain ⟨code, _, hc⟩ := w0
  obtain ⟨mach, _, hm⟩ := w1
  obtain ⟨i, rfl, _⟩ := w2
  obtain ⟨m, rfl, _⟩ := w3
  obtain ⟨a, rfl, _⟩ := w4
  obtain ⟨b, rfl, _⟩ := w5
  by_cases hbig : 300 < len0 ∨ 300 < len1
  · exact alM_big _ _ _ _ _ _ i m a b w hbig
  · have z0 : ¬ (300 : Int) < (len0 : Int) := by omega
    have z1 : ¬ (300 : Int) < (len1 : Int) := by omega
    have n0 : len0 ≤ 300 := by omega
    have n1 : len1 ≤ 300 := by omega
    have mixed : Try.prog.follows .mixedOrders = true := by kernel_rfl
    have AW := Lib.hid fun W => awake_any W
    have HK0 := Lib.hid (KB.new w i m a b)
    have HC0 := Lib.hid (hc.below HK0.out.blw)
    have HM0 := Lib.hid (hm.below HK0.out.blw)
    have hl := alC_len code mach
    rw [hc.len] at hl
    obtain ⟨R1, R2, R3, HR⟩ : ∃ x y z, Hid (alC code mach = (x, y, z)) := ⟨_, _, _, rfl⟩
    rw [HR.out] at hl
    dsimp only at hl
    clear hc hm hbig
    go_enter Try.func3, Try.ntmps3
    go_upto_region 1 with fail
    dsimp only [boxes] at HK0 HC0 HM0
    generalize ((((w.alloc (.cells #[.int .i64 i.op, .int .i64 i.d, .int .i64 i.a, .int .i64 i.b, .int .i64 i.imm] 25)).alloc (.cells #[.int .i64 m.op, .int .i64 m.d, .int .i64 m.a, .int .i64 m.b, .int .i64 m.imm, .int .i64 m.dst, .int .i64 m.src] 28)).alloc (.cells #[.int .i64 a.kind, .int .i64 a.a, .int .i64 a.to, .int .i64 a.el] 30)).alloc (.cells #[.int .i64 b.kind, .int .i64 b.a, .int .i64 b.to, .int .i64 b.el] 30)) = W0 at *
    go_wp2_with fail
    refine (AW.out _).mono ?_
    rintro e W1 ⟨rfl, hb⟩
    have HK1 := Lib.hid (HK0.out.below hb)
    have HC1 := Lib.hid (HC0.out.below hb)
    have HM1 := Lib.hid (HM0.out.below hb)
    have C := Lib.hid (alcode_at HC1.out HM1.out (by omega) (by omega) HR.out)
    clear hb HK0 HC0 HM0 AW
    go_wp2_with fail
    refine C.out.mono ?_
    rintro e W2 ⟨Ar, cr, rfl, hP⟩
    have HK2 := Lib.hid (HK1.out.below hP.blw)
    have HR2 := Lib.hid hP.rs
    have C := Lib.hid (ralcode_at (HC1.out.below hP.blw) (HM1.out.below hP.blw) (by omega) (by omega) HR.out)
    clear hP HK1 HC1 HM1 HR
    go_wp2_with fail
    refine C.out.mono ?_
    rintro e W3 ⟨As, cs, rfl, hP⟩
    have HK : Hid (KM w i m a b Ar As R1.length cr cs R1 W3) := ⟨(HK2.out.below hP.blw).blw, (HK2.out.below hP.blw).i, (HK2.out.below hP.blw).m, (HK2.out.below hP.blw).a, (HK2.out.below hP.blw).b, HR2.out.below hP.blw, hP.rs⟩
    clear hP HK2 HR2 C
    go_upto_region 5 with fail
    obtain ⟨bs, hbs⟩ : ∃ z, z = smP i m := ⟨_, rfl⟩
    obtain ⟨bt, hbt⟩ : ∃ z, z = tmP a b := ⟨_, rfl⟩
    have KS : Hid (∀ V, Below W3.heap.size W3 V → KM w i m a b Ar As R1.length cr cs R1 V) := fun V h => HK.out.below h
    have C3 : Hid (∀ V, Below W3.heap.size W3 V → Calls Try.prog 13 #[.agg #[.int .i64 i.op, .int .i64 i.d, .int .i64 i.a, .int .i64 i.b, .int .i64 i.imm], .agg #[.int .i64 m.op, .int .i64 m.d, .int .i64 m.a, .int .i64 m.b, .int .i64 m.imm, .int .i64 m.dst, .int .i64 m.src]] V fun e w' => e = .returned (.bool bs) ∧ Below W3.heap.size W3 w') := fun V h => by
      rw [hbs]; exact (alsame_any i m V).mono fun e w' ⟨he, hg⟩ => ⟨he, h.trans (hg.below.mono h.size)⟩
    have C4 : Hid (∀ V, Below W3.heap.size W3 V → Calls Try.prog 14 #[.agg #[.int .i64 i.op, .int .i64 i.d, .int .i64 i.a, .int .i64 i.b, .int .i64 i.imm], .agg #[.int .i64 m.op, .int .i64 m.d, .int .i64 m.a, .int .i64 m.b, .int .i64 m.imm, .int .i64 m.dst, .int .i64 m.src]] V fun e w' => e = .returned (.bool bs) ∧ Below W3.heap.size W3 w') := fun V h => by
      rw [hbs]; exact (ralsame_any i m V).mono fun e w' ⟨he, hg⟩ => ⟨he, h.trans (hg.below.mono h.size)⟩
    have C5x : Hid (∀ V, Below W3.heap.size W3 V → Calls Try.prog 15 #[.agg #[.int .i64 a.kind, .int .i64 a.a, .int .i64 a.to, .int .i64 a.el], .agg #[.int .i64 b.kind, .int .i64 b.a, .int .i64 b.to, .int .i64 b.el]] V fun e w' => e = .returned (.bool bt) ∧ Below W3.heap.size W3 w') := fun V h => by
      rw [hbt]; exact (terms_any a b V).mono fun e w' ⟨he, hg⟩ => ⟨he, h.trans (hg.below.mono h.size)⟩
    have C6 : Hid (∀ V, Below W3.heap.size W3 V → Calls Try.prog 16 #[.agg #[.int .i64 a.kind, .int .i64 a.a, .int .i64 a.to, .int .i64 a.el], .agg #[.int .i64 b.kind, .int .i64 b.a, .int .i64 b.to, .int .i64 b.el]] V fun e w' => e = .returned (.bool bt) ∧ Below W3.heap.size W3 w') := fun V h => by
      rw [hbt]; exact (rterms_any a b V).mono fun e w' ⟨he, hg⟩ => ⟨he, h.trans (hg.below.mono h.size)⟩
    have C1 : Hid (∀ V, Below W3.heap.size W3 V → Calls Try.prog 12 #[.slice Ar R1.length cr] V fun e w' => ∃ A c, e = .returned (.slice A R1.length c) ∧ RS w' A R1.length c R1 ∧ Below W3.heap.size W3 w' ∧ Below V.heap.size V w') := fun V h =>
      (rows_any (KS.out V h).r (by omega)).mono fun e w' ⟨v, he, hP⟩ => by
        obtain ⟨A, c, rfl, _⟩ := hP.slice
        exact ⟨A, c, he, hP.rs, h.trans (hP.blw.mono h.size), hP.blw⟩
    have CS : Hid (∀ V, Below W3.heap.size W3 V → ∀ A c, RS V A R1.length c R1 → Calls Try.prog 11 #[.slice A R1.length c, .slice As R1.length cs] V fun e w' => e = .returned (.bool true) ∧ Below W3.heap.size W3 w') := fun V h A c hA =>
      (rowsSame_any hA (KS.out V h).s (by omega)).mono fun e w' ⟨he, hg⟩ => ⟨he, h.trans (hg.below.mono h.size)⟩
    have hbs2 : (bs == bs) = true := by simp
    have hbt2 : (bt == bt) = true := by simp
    have hr2 : ((R2 : Int) == (R2 : Int)) = true := by simp
    have hr3 : (R3 == R3) = true := by simp
    clear hbs hbt
    obtain ⟨i0, i1, i2, i3, i4⟩ := i
    obtain ⟨m0, m1, m2, m3, m4, m5, m6⟩ := m
    obtain ⟨a0, a1, a2, a3⟩ := a
    obtain ⟨b0, b1, b2, b3⟩ := b
    dsimp only at C3 C4 C5x C6 ⊢
    have HS : Hid (∀ w', Below W3.heap.size W3 w' → (w'.cell? ⟨w.heap.size, 0, none⟩ = some (.int .i64 i0) ∧ w'.cell? ⟨w.heap.size, 1, none⟩ = some (.int .i64 i1) ∧ w'.cell? ⟨w.heap.size, 2, none⟩ = some (.int .i64 i2) ∧ w'.cell? ⟨w.heap.size, 3, none⟩ = some (.int .i64 i3) ∧ w'.cell? ⟨w.heap.size, 4, none⟩ = some (.int .i64 i4)) ∧ (w'.cell? ⟨w.heap.size + 1, 0, none⟩ = some (.int .i64 m0) ∧ w'.cell? ⟨w.heap.size + 1, 1, none⟩ = some (.int .i64 m1) ∧ w'.cell? ⟨w.heap.size + 1, 2, none⟩ = some (.int .i64 m2) ∧ w'.cell? ⟨w.heap.size + 1, 3, none⟩ = some (.int .i64 m3) ∧ w'.cell? ⟨w.heap.size + 1, 4, none⟩ = some (.int .i64 m4)) ∧ (w'.cell? ⟨w.heap.size + 1, 5, none⟩ = some (.int .i64 m5) ∧ w'.cell? ⟨w.heap.size + 1, 6, none⟩ = some (.int .i64 m6)) ∧ (w'.cell? ⟨w.heap.size + 1 + 1, 0, none⟩ = some (.int .i64 a0) ∧ w'.cell? ⟨w.heap.size + 1 + 1, 1, none⟩ = some (.int .i64 a1) ∧ w'.cell? ⟨w.heap.size + 1 + 1, 2, none⟩ = some (.int .i64 a2) ∧ w'.cell? ⟨w.heap.size + 1 + 1, 3, none⟩ = some (.int .i64 a3)) ∧ w'.cell? ⟨w.heap.size + 1 + 1 + 1, 0, none⟩ = some (.int .i64 b0) ∧ w'.cell? ⟨w.heap.size + 1 + 1 + 1, 1, none⟩ = some (.int .i64 b1) ∧ w'.cell? ⟨w.heap.size + 1 + 1 + 1, 2, none⟩ = some (.int .i64 b2) ∧ w'.cell? ⟨w.heap.size + 1 + 1 + 1, 3, none⟩ = some (.int .i64 b3)) := fun V h =>
      have k := KS.out V h
      ⟨⟨k.i.cell 0, k.i.cell 1, k.i.cell 2, k.i.cell 3, k.i.cell 4⟩, ⟨k.m.cell 0, k.m.cell 1, k.m.cell 2, k.m.cell 3, k.m.cell 4⟩, ⟨k.m.cell 5, k.m.cell 6⟩, ⟨k.a.cell 0, k.a.cell 1, k.a.cell 2, k.a.cell 3⟩, k.b.cell 0, k.b.cell 1, k.b.cell 2, k.b.cell 3⟩
    have hG := Below.refl W3.heap.size W3
    go_wp2_with fail
    go_region_held3 (fun w' => (w'.cell? ⟨w.heap.size, 0, none⟩ = some (.int .i64 i0) ∧ w'.cell? ⟨w.heap.size, 1, none⟩ = some (.int .i64 i1) ∧ w'.cell? ⟨w.heap.size, 2, none⟩ = some (.int .i64 i2) ∧ w'.cell? ⟨w.heap.size, 3, none⟩ = some (.int .i64 i3) ∧ w'.cell? ⟨w.heap.size, 4, none⟩ = some (.int .i64 i4)) ∧ (w'.cell? ⟨w.heap.size + 1, 0, none⟩ = some (.int .i64 m0) ∧ w'.cell? ⟨w.heap.size + 1, 1, none⟩ = some (.int .i64 m1) ∧ w'.cell? ⟨w.heap.size + 1, 2, none⟩ = some (.int .i64 m2) ∧ w'.cell? ⟨w.heap.size + 1, 3, none⟩ = some (.int .i64 m3) ∧ w'.cell? ⟨w.heap.size + 1, 4, none⟩ = some (.int .i64 m4)) ∧ (w'.cell? ⟨w.heap.size + 1, 5, none⟩ = some (.int .i64 m5) ∧ w'.cell? ⟨w.heap.size + 1, 6, none⟩ = some (.int .i64 m6)) ∧ (w'.cell? ⟨w.heap.size + 1 + 1, 0, none⟩ = some (.int .i64 a0) ∧ w'.cell? ⟨w.heap.size + 1 + 1, 1, none⟩ = some (.int .i64 a1) ∧ w'.cell? ⟨w.heap.size + 1 + 1, 2, none⟩ = some (.int .i64 a2) ∧ w'.cell? ⟨w.heap.size + 1 + 1, 3, none⟩ = some (.int .i64 a3)) ∧ w'.cell? ⟨w.heap.size + 1 + 1 + 1, 0, none⟩ = some (.int .i64 b0) ∧ w'.cell? ⟨w.heap.size + 1 + 1 + 1, 1, none⟩ = some (.int .i64 b1) ∧ w'.cell? ⟨w.heap.size + 1 + 1 + 1, 2, none⟩ = some (.int .i64 b2) ∧ w'.cell? ⟨w.heap.size + 1 + 1 + 1, 3, none⟩ = some (.int .i64 b3)) (first | exact HS.out _ hG | exact HS.out _ hG.drew | exact HS.out _ (blw_drewN hG _)) (first
      | (go_at_call 12; go_must ((with_reducible refine (C1.out _ (by first | exact hG | exact hG.drew | exact blw_drewN hG _ | exact (blw_drewN hG _).drew)).mono ?_); rintro e V ⟨A1, c1, rfl, hL1, hG, hV⟩))
      | (go_at_call 11; go_must ((refine (CS.out _ (by first | exact hG | exact hG.drew | exact blw_drewN hG _ | exact (blw_drewN hG _).drew) A1 c1 (by first | exact hL1 | exact hL1.below (Below.refl _ _).drew | exact hL1.below (blw_drewN (Below.refl _ _) _) | exact hL1.below (blw_drewN (Below.refl _ _) _).drew)).mono ?_); rintro e V ⟨rfl, hG⟩))
      | (go_at_call 13; go_must ((with_reducible refine (C3.out _ (by first | exact hG | exact hG.drew | exact blw_drewN hG _ | exact (blw_drewN hG _).drew)).mono ?_); rintro e V ⟨rfl, hG⟩))
      | (go_at_call 14; go_must ((with_reducible refine (C4.out _ (by first | exact hG | exact hG.drew | exact blw_drewN hG _ | exact (blw_drewN hG _).drew)).mono ?_); rintro e V ⟨rfl, hG⟩))
      | (go_at_call 15; go_must ((with_reducible refine (C5x.out _ (by first | exact hG | exact hG.drew | exact blw_drewN hG _ | exact (blw_drewN hG _).drew)).mono ?_); rintro e V ⟨rfl, hG⟩))
      | (go_at_call 16; go_must ((with_reducible refine (C6.out _ (by first | exact hG | exact hG.drew | exact blw_drewN hG _ | exact (blw_drewN hG _).drew)).mono ?_); rintro e V ⟨rfl, hG⟩))
      )
    go_wp2
    go_ret
    exact ⟨rfl, HK.out.blw.trans (hG.mono HK.out.blw.size)⟩

end Go.Proofs.Ytimmnnadoeagfaa
