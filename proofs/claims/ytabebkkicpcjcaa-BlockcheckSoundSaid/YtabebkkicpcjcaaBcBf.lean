/-
  Functions of 31 blocks that are appended one after another.
-/
import Derived.Test.YtabebkkicpcjcaaPk7
import Derived.Test.YtabebkkicpcjcaaPk6
namespace Go.Proofs.Ytabebkkicpcjcaa
open Go.RowKit
set_option linter.unusedVariables false

/-- A block's five cells. -/
structure Z5 where
  c : Value
  k : Int
  a : Int
  t : Int
  e : Int
def Z5.cells (x : Z5) : List Value := [x.c, .int .i64 x.k, .int .i64 x.a, .int .i64 x.t, .int .i64 x.e]
def z5 : Z5 := ⟨.slice none 0 0, 3, 0, 0, 0⟩
theorem z5_len (x : Z5) : x.cells.length = 5 := rfl
theorem z5_one : ∀ u ∈ z5.cells, u.oneCell' = true := fun u hu => by
  simp only [Z5.cells, z5, List.mem_cons, List.not_mem_nil, or_false] at hu
  rcases hu with rfl | rfl | rfl | rfl | rfl <;> rfl
theorem rl_put5 {T : TypeId} {w wr : World} {g n c : Nat} {x : Z5} {r : List Z5} (h : RL Z5.cells 5 T w (.slice (some ⟨g, 0, none⟩) n c) (x :: r) wr) (y : Z5) :
    RL Z5.cells 5 T w (.slice (some ⟨g, 0, none⟩) n c) (y :: r) (((((wr.setCell ⟨g, 0, none⟩ y.c).setCell ⟨g, 1, none⟩ (.int .i64 y.k)).setCell ⟨g, 2, none⟩ (.int .i64 y.a)).setCell ⟨g, 3, none⟩ (.int .i64 y.t)).setCell ⟨g, 4, none⟩ (.int .i64 y.e)) := by
  have h0 := h.put (k := 0) (j := 0) (y := { x with c := y.c }) (u := y.c) z5_len (by simp) (by decide) rfl
  have h1 := h0.put (k := 0) (j := 1) (y := { x with c := y.c, k := y.k }) (u := .int .i64 y.k) z5_len (by simp) (by decide) rfl
  have h2 := h1.put (k := 0) (j := 2) (y := { x with c := y.c, k := y.k, a := y.a }) (u := .int .i64 y.a) z5_len (by simp) (by decide) rfl
  have h3 := h2.put (k := 0) (j := 3) (y := { x with c := y.c, k := y.k, a := y.a, t := y.t }) (u := .int .i64 y.t) z5_len (by simp) (by decide) rfl
  have h4 := h3.put (k := 0) (j := 4) (y := y) (u := .int .i64 y.e) z5_len (by simp) (by decide) rfl
  exact h4
theorem rl_cell5 {T : TypeId} {w wr : World} {A : Option Addr} {n c : Nat} {x : Z5} {r : List Z5} (h : RL Z5.cells 5 T w (.slice A n c) (x :: r) wr) :
    ∃ g, A = some ⟨g, 0, none⟩ ∧ w.heap.size ≤ g ∧ wr.cell? ⟨g, 0, none⟩ = some x.c ∧ wr.cell? ⟨g, 1, none⟩ = some (.int .i64 x.k) ∧ wr.cell? ⟨g, 2, none⟩ = some (.int .i64 x.a) ∧ wr.cell? ⟨g, 3, none⟩ = some (.int .i64 x.t) ∧ wr.cell? ⟨g, 4, none⟩ = some (.int .i64 x.e) := by
  obtain ⟨A', c', e, _⟩ := h.slice
  injection e with e1 e2 e3
  obtain ⟨g, rfl⟩ := h.some_ (by rw [e2]; simp)
  have hl := (ownS_lt h.own g rfl).1
  obtain ⟨b, o, e', _, hc⟩ := h.sees (by simp [Z5.cells])
  injection e' with e'
  injection e' with e4 e5
  subst e4 e5
  simp only [Nat.zero_add] at hc
  exact ⟨g, rfl, hl, hc 0 _ (by simp [Z5.cells]), hc 1 _ (by simp [Z5.cells]), hc 2 _ (by simp [Z5.cells]), hc 3 _ (by simp [Z5.cells]), hc 4 _ (by simp [Z5.cells])⟩
theorem rl_blks {w W : World} {A A1 : Option Addr} {n c n1 c1 : Nat} {code : List In} {t : Tm} (h : RL Z5.cells 5 26 w (.slice A n c) (⟨.slice A1 n1 c1, t.kind, t.a, t.to, t.el⟩ :: List.replicate 30 z5) W) (hC : CS W A1 n1 c1 code) :
    BlksAt W W.heap.size A (⟨code, t⟩ :: List.replicate 30 ⟨[], zt⟩) := fun _ => by
  obtain ⟨b, o, e, hb, hc⟩ := h.sees (by simp [Z5.cells])
  refine ⟨b, o, e, hb, fun i x hx => ?_⟩
  have g : ∀ y : Z5, ((⟨.slice A1 n1 c1, t.kind, t.a, t.to, t.el⟩ : Z5) :: List.replicate 30 z5)[i]? = some y → ∀ j u, y.cells[j]? = some u → W.cell? ⟨b, o + i * 5 + j, none⟩ = some u := fun y hy j u hu => by
    rw [Nat.add_assoc]
    exact hc _ _ (flat_get Z5.cells 5 z5_len _ i y hy j u hu)
  rcases at_rest hx with ⟨rfl, rfl⟩ | ⟨hi1, hi2, rfl⟩
  · have g := g _ rfl
    exact ⟨⟨A1, c1, by rw [hC.len]; exact g 0 _ rfl, by rw [hC.len]; exact hC.cap, hC.cmx, hC.see⟩, g 1 _ rfl, g 2 _ rfl, g 3 _ rfl, g 4 _ rfl⟩
  · have g := g z5 (by
      obtain ⟨i, rfl⟩ : ∃ j, i = j + 1 := ⟨i - 1, by omega⟩
      rw [List.getElem?_cons_succ, List.getElem?_replicate, if_pos (by omega)])
    exact ⟨⟨none, 0, g 0 _ rfl, Nat.le_refl _, Nat.zero_le _, fun hn => absurd rfl hn⟩, g 1 _ rfl, g 2 _ rfl, g 3 _ rfl, g 4 _ rfl⟩
theorem rl_mblks {w W : World} {A A1 : Option Addr} {n c n1 c1 : Nat} {code : List Mi} {t : Tm} (h : RL Z5.cells 5 29 w (.slice A n c) (⟨.slice A1 n1 c1, t.kind, t.a, t.to, t.el⟩ :: List.replicate 30 z5) W) (hC : MS W A1 n1 c1 code) :
    MBlksAt W W.heap.size A (⟨code, t⟩ :: List.replicate 30 ⟨[], zt⟩) := fun _ => by
  obtain ⟨b, o, e, hb, hc⟩ := h.sees (by simp [Z5.cells])
  refine ⟨b, o, e, hb, fun i x hx => ?_⟩
  have g : ∀ y : Z5, ((⟨.slice A1 n1 c1, t.kind, t.a, t.to, t.el⟩ : Z5) :: List.replicate 30 z5)[i]? = some y → ∀ j u, y.cells[j]? = some u → W.cell? ⟨b, o + i * 5 + j, none⟩ = some u := fun y hy j u hu => by
    rw [Nat.add_assoc]
    exact hc _ _ (flat_get Z5.cells 5 z5_len _ i y hy j u hu)
  rcases at_rest hx with ⟨rfl, rfl⟩ | ⟨hi1, hi2, rfl⟩
  · have g := g _ rfl
    exact ⟨⟨A1, c1, by rw [hC.len]; exact g 0 _ rfl, by rw [hC.len]; exact hC.cap, hC.cmx, hC.see⟩, g 1 _ rfl, g 2 _ rfl, g 3 _ rfl, g 4 _ rfl⟩
  · have g := g z5 (by
      obtain ⟨i, rfl⟩ : ∃ j, i = j + 1 := ⟨i - 1, by omega⟩
      rw [List.getElem?_cons_succ, List.getElem?_replicate, if_pos (by omega)])
    exact ⟨⟨none, 0, g 0 _ rfl, Nat.le_refl _, Nat.zero_le _, fun hn => absurd rfl hn⟩, g 1 _ rfl, g 2 _ rfl, g 3 _ rfl, g 4 _ rfl⟩

/-- The two functions under way: a terminator, the boxes of the functions, their blocks so far; new to the world w. -/
structure BF (w : World) (nr ns : Nat) (kf : Nat) (AF : Option Addr) (cF : Nat) (lf : List Z5) (kg : Nat) (AG : Option Addr) (cG : Nat) (lg : List Z5) (W : World) : Prop where
  e : Row W w.heap.size 24 #[.int .i64 3, .int .i64 0, .int .i64 0, .int .i64 0]
  f : Row W (w.heap.size + 1) 51 #[.int .i64 0, .int .i64 20, .slice AF kf cF]
  g : Row W (w.heap.size + 1 + 1) 54 #[.int .i64 0, .int .i64 (nr : Int), .int .i64 (ns : Int), .slice AG kg cG]
  rf : RL Z5.cells 5 26 w (.slice AF kf cF) lf W
  rg : RL Z5.cells 5 29 w (.slice AG kg cG) lg W
section
variable {w : World} {nr ns kf : Nat} {AF : Option Addr} {cF : Nat} {lf : List Z5} {kg : Nat} {AG : Option Addr} {cG : Nat} {lg : List Z5} {W W' : World}
theorem BF.next (h : BF w nr ns kf AF cF lf kg AG cG lg W) (hb : Below W.heap.size W W') : BF w nr ns kf AF cF lf kg AG cG lg W' :=
  ⟨h.e.below hb h.e.lt, h.f.below hb h.f.lt, h.g.below hb h.g.lt, h.rf.next hb, h.rg.next hb⟩
theorem BF.pushF (h : BF w nr ns kf AF cF lf kg AG cG lg W) (hn : lf.length = kf) (y : Z5) {o : Obj} {v' : Value} (ho : W'.ownsRow w.heap.size 26 5 v' (kf + 1) (lf.flatMap Z5.cells ++ y.cells)) (hg : (W.alloc o).grownBy W' (Value.slice AF kf cF).ownBlock) :
    ∃ A' c', v' = .slice A' (kf + 1) c' ∧ Row W' (w.heap.size + 1) 51 #[.int .i64 0, .int .i64 20, .slice AF kf cF] ∧ BF w nr ns (kf + 1) A' c' (lf ++ [y]) kg AG cG lg (W'.setCell ⟨w.heap.size + 1, 2, none⟩ (.slice A' (kf + 1) c')) := by
  have hm : Mods (fun k => (Value.slice AF kf cF).ownBlock = some k) W W' := ((Mods.refl _ W).alloc o).grown hg fun k hk => .inl hk
  have hr : RL Z5.cells 5 26 w v' (lf ++ [y]) W' := h.rf.push y hn ho hg
  obtain ⟨A', c', rfl, _⟩ := hr.sliceN (n := kf + 1) (by simp [hn])
  have he := h.e.mods hm fun hs => own_row_neS h.rf.own h.e (by decide) _ hs rfl
  have hf := h.f.mods hm fun hs => own_row_neS h.rf.own h.f (by decide) _ hs rfl
  have hgg := h.g.mods hm fun hs => own_row_neS h.rf.own h.g (by decide) _ hs rfl
  have hrg : RL Z5.cells 5 29 w (.slice AG kg cG) lg W' := ⟨hm.ownS h.rg.own fun k hk hs => ownS_ne h.rf.own h.rg.own (by decide) k hs hk, hr.blw⟩
  have hs : Mods (Is (w.heap.size + 1)) W' (W'.setCell ⟨w.heap.size + 1, 2, none⟩ (.slice A' (kf + 1) c')) := (Mods.refl _ W').put 2 _
  exact ⟨A', c', rfl, hf, he.mods hs (by unfold Is; omega), hf.put 2 _, hgg.mods hs (by unfold Is; omega), hr.modsB hf (by decide) (by omega) hs, hrg.modsB hf (by decide) (by omega) hs⟩
theorem BF.pushG (h : BF w nr ns kf AF cF lf kg AG cG lg W) (hn : lg.length = kg) (y : Z5) {o : Obj} {v' : Value} (ho : W'.ownsRow w.heap.size 29 5 v' (kg + 1) (lg.flatMap Z5.cells ++ y.cells)) (hg : (W.alloc o).grownBy W' (Value.slice AG kg cG).ownBlock) :
    ∃ A' c', v' = .slice A' (kg + 1) c' ∧ Row W' (w.heap.size + 1 + 1) 54 #[.int .i64 0, .int .i64 (nr : Int), .int .i64 (ns : Int), .slice AG kg cG] ∧ BF w nr ns kf AF cF lf (kg + 1) A' c' (lg ++ [y]) (W'.setCell ⟨w.heap.size + 1 + 1, 3, none⟩ (.slice A' (kg + 1) c')) := by
  have hm : Mods (fun k => (Value.slice AG kg cG).ownBlock = some k) W W' := ((Mods.refl _ W).alloc o).grown hg fun k hk => .inl hk
  have hr : RL Z5.cells 5 29 w v' (lg ++ [y]) W' := h.rg.push y hn ho hg
  obtain ⟨A', c', rfl, _⟩ := hr.sliceN (n := kg + 1) (by simp [hn])
  have he := h.e.mods hm fun hs => own_row_neS h.rg.own h.e (by decide) _ hs rfl
  have hf := h.f.mods hm fun hs => own_row_neS h.rg.own h.f (by decide) _ hs rfl
  have hgg := h.g.mods hm fun hs => own_row_neS h.rg.own h.g (by decide) _ hs rfl
  have hrf : RL Z5.cells 5 26 w (.slice AF kf cF) lf W' := ⟨hm.ownS h.rf.own fun k hk hs => ownS_ne h.rg.own h.rf.own (by decide) k hs hk, hr.blw⟩
  have hs : Mods (Is (w.heap.size + 1 + 1)) W' (W'.setCell ⟨w.heap.size + 1 + 1, 3, none⟩ (.slice A' (kg + 1) c')) := (Mods.refl _ W').put 3 _
  exact ⟨A', c', rfl, hgg, he.mods hs (by unfold Is; omega), hf.mods hs (by unfold Is; omega), hgg.put 3 _, hrf.modsB hgg (by decide) (by omega) hs, hr.modsB hgg (by decide) (by omega) hs⟩
theorem BF.setF {x : Z5} {r : List Z5} {g : Nat} (h : BF w nr ns kf (some ⟨g, 0, none⟩) cF (x :: r) kg AG cG lg W) (y : Z5) :
    BF w nr ns kf (some ⟨g, 0, none⟩) cF (y :: r) kg AG cG lg (((((W.setCell ⟨g, 0, none⟩ y.c).setCell ⟨g, 1, none⟩ (.int .i64 y.k)).setCell ⟨g, 2, none⟩ (.int .i64 y.a)).setCell ⟨g, 3, none⟩ (.int .i64 y.t)).setCell ⟨g, 4, none⟩ (.int .i64 y.e)) := by
  have hm := mods5 W g y.c (.int .i64 y.k) (.int .i64 y.a) (.int .i64 y.t) (.int .i64 y.e)
  have hr := rl_put5 h.rf y
  exact ⟨h.e.mods hm (fun e => own_row_neS h.rf.own h.e (by decide) g rfl (Eq.symm e)), h.f.mods hm (fun e => own_row_neS h.rf.own h.f (by decide) g rfl (Eq.symm e)), h.g.mods hm (fun e => own_row_neS h.rf.own h.g (by decide) g rfl (Eq.symm e)), hr,
    ⟨hm.ownS h.rg.own fun k hk hs => ownS_ne h.rf.own h.rg.own (by decide) g rfl (by rw [show g = k from (show k = g from hs).symm]; exact hk), hr.blw⟩⟩
theorem BF.setG {x : Z5} {r : List Z5} {g : Nat} (h : BF w nr ns kf AF cF lf kg (some ⟨g, 0, none⟩) cG (x :: r) W) (y : Z5) :
    BF w nr ns kf AF cF lf kg (some ⟨g, 0, none⟩) cG (y :: r) (((((W.setCell ⟨g, 0, none⟩ y.c).setCell ⟨g, 1, none⟩ (.int .i64 y.k)).setCell ⟨g, 2, none⟩ (.int .i64 y.a)).setCell ⟨g, 3, none⟩ (.int .i64 y.t)).setCell ⟨g, 4, none⟩ (.int .i64 y.e)) := by
  have hm := mods5 W g y.c (.int .i64 y.k) (.int .i64 y.a) (.int .i64 y.t) (.int .i64 y.e)
  have hr := rl_put5 h.rg y
  exact ⟨h.e.mods hm (fun e => own_row_neS h.rg.own h.e (by decide) g rfl (Eq.symm e)), h.f.mods hm (fun e => own_row_neS h.rg.own h.f (by decide) g rfl (Eq.symm e)), h.g.mods hm (fun e => own_row_neS h.rg.own h.g (by decide) g rfl (Eq.symm e)),
    ⟨hm.ownS h.rf.own fun k hk hs => ownS_ne h.rg.own h.rf.own (by decide) g rfl (by rw [show g = k from (show k = g from hs).symm]; exact hk), hr.blw⟩, hr⟩
end
theorem info_block : ∃ i : TypeInfo, Try.prog.info? 26 = some i ∧ i.zero = some (.agg #[.slice none 0 0, .int .i64 0, .int .i64 0, .int .i64 0, .int .i64 0]) ∧ i.size = 5 ∧ i.bytes = 56 :=
  info_parts (show (Try.prog.info? 26).map (fun i => (i.zero, i.size, i.bytes)) = some (some (.agg #[.slice none 0 0, .int .i64 0, .int .i64 0, .int .i64 0, .int .i64 0]), 5, 56) from by kernel_rfl)
theorem info_mblock : ∃ i : TypeInfo, Try.prog.info? 29 = some i ∧ i.zero = some (.agg #[.slice none 0 0, .int .i64 0, .int .i64 0, .int .i64 0, .int .i64 0]) ∧ i.size = 5 ∧ i.bytes = 56 :=
  info_parts (show (Try.prog.info? 29).map (fun i => (i.zero, i.size, i.bytes)) = some (some (.agg #[.slice none 0 0, .int .i64 0, .int .i64 0, .int .i64 0, .int .i64 0]), 5, 56) from by kernel_rfl)

end Go.Proofs.Ytabebkkicpcjcaa
