/-
  The fixed examples that every statement of layer 4 checks first: they come out true.
-/
import Derived.Test.YtkaildgbjokmnaaDoorLocParse2
namespace Go.Proofs.YtkaildgbjokmnaaDoor
open Go.RowKit
open Go.Lib (decDigits)

/-- What a walk carries from call to call: only new blocks since the start, and the library's table as it was. -/
structure St (w0 w : World) : Prop where
  below : Below w0.heap.size w0 w
  tab : Tab w
theorem St.start {w : World} (h : Tab w) : St w w := ⟨Below.refl _ _, h⟩
theorem St.next {w0 w w' : World} (h : St w0 w) (hb : Below w.heap.size w w') : St w0 w' :=
  ⟨h.below.trans (hb.mono h.below.size), h.tab.on hb⟩

theorem reg_at (n r : Nat) (w : World) (h : n < 1099511627776) (hr : 2 * n = r) :
    Calls Tryd.prog 16 #[.int .i64 n] w fun e w' => e = .returned (.int .i64 r) ∧ w = w' := by subst hr; exact reg_any n w h
theorem slot_at (n r : Nat) (w : World) (h : n < 1099511627776) (hr : 2 * n + 1 = r) :
    Calls Tryd.prog 17 #[.int .i64 n] w fun e w' => e = .returned (.int .i64 r) ∧ w = w' := by subst hr; exact slot_any n w h
theorem index_at (l n : Nat) (w : World) (h : l < 9223372036854775808) (hn : l / 2 = n) :
    Calls Tryd.prog 11 #[.int .i64 l] w fun e w' => e = .returned (.int .i64 n) ∧ w = w' := by subst hn; exact index_any l w h
theorem text_at (x : Nat) (l : List UInt8) (w : World) (hx : x < 2199023255552) (hl : tx x = l) (ht : Tab w) :
    Calls Tryd.prog 12 #[.int .i64 x] w fun e w' => e = .returned (.string ⟨l.toArray⟩) ∧ Below w.heap.size w w' := by subst hl; exact text_any x w hx ht
theorem parse_at (l : List UInt8) (n : Nat) (b : Bool) (w : World) (hs : l.length ≤ 9223372036854775807) (hn : pv l = n) (hb : pk l = b) :
    Calls Tryd.prog 8 #[.string ⟨l.toArray⟩] w fun e w' => e = .returned (.tuple #[.int .i64 n, .bool b]) ∧ Below w.heap.size w w' := by
  subst hn; subst hb
  exact parse_any ⟨l.toArray⟩ w (by unfold maxLen; exact hs)

theorem num2 : Num [50] := by
  have := dec_num (n := 2) (by decide)
  rwa [Lib.decDigits_one (by decide)] at this
theorem nv2 : nv [50] = 2 := by rw [nv_yes num2]; rfl
theorem tx4 : tx 4 = [114, 50] := by rw [tx, if_pos (by decide), Lib.decDigits_one (by decide)]; rfl
theorem tx5 : tx 5 = [115, 50] := by rw [tx, if_neg (by decide), Lib.decDigits_one (by decide)]; rfl
theorem ex1 : pv [115, 50] = 5 ∧ pk [115, 50] = true := ⟨by rw [pv_s num2, nv2], pk_s num2⟩
theorem ex2 : pk [114, 48, 50] = false := pk_no fun h => h.2.2.1 (by decide) rfl
theorem ex3 : pk [120, 49] = false := pk_no' (by decide) (by decide)

set_option maxRecDepth 100000 in
set_option maxHeartbeats 1000000 in
theorem awake_any (w : World) (ht : Tab w) : Calls Tryd.prog 7 #[] w fun e w' => e = .returned (.bool true) ∧ St w w' := by
  have hst := St.start ht
  go_enter Tryd.func7, Tryd.ntmps7
  go_wp2_with fail
  refine (parse_at [115, 50] 5 true _ (by decide) ex1.1 ex1.2).mono ?_
  rintro e w1 ⟨rfl, hb⟩
  replace hst := hst.next hb; clear hb
  go_wp2_with fail
  refine (parse_at [114, 48, 50] 0 false _ (by decide) (pv_no ex2) ex2).mono ?_
  rintro e w2 ⟨rfl, hb⟩
  replace hst := hst.next hb; clear hb
  go_wp2_with fail
  refine (parse_at [120, 49] 0 false _ (by decide) (pv_no ex3) ex3).mono ?_
  rintro e w3 ⟨rfl, hb⟩
  replace hst := hst.next hb; clear hb
  go_wp2_with fail
  refine (reg_at 2 4 _ (by decide) rfl).mono ?_
  rintro e w4 ⟨rfl, rfl⟩
  go_wp2_with fail
  refine (slot_at 2 5 _ (by decide) rfl).mono ?_
  rintro e w4 ⟨rfl, rfl⟩
  go_wp2_with fail
  refine (text_at 4 [114, 50] _ (by decide) tx4 hst.tab).mono ?_
  rintro e w4 ⟨rfl, hb⟩
  replace hst := hst.next hb; clear hb
  go_wp2_with fail
  refine (text_at 5 [115, 50] _ (by decide) tx5 hst.tab).mono ?_
  rintro e w5 ⟨rfl, hb⟩
  replace hst := hst.next hb; clear hb
  go_wp2_with fail
  refine (isslot_any 5 true _ (by decide) rfl).mono ?_
  rintro e w6 ⟨rfl, rfl⟩
  go_wp2_with fail
  refine (isslot_any 4 false _ (by decide) rfl).mono ?_
  rintro e w6 ⟨rfl, rfl⟩
  go_wp2_with fail
  refine (index_at 5 2 _ (by decide) rfl).mono ?_
  rintro e w6 ⟨rfl, rfl⟩
  go_wp2_with fail
  go_ret
  exact ⟨rfl, hst⟩

end Go.Proofs.YtkaildgbjokmnaaDoor
