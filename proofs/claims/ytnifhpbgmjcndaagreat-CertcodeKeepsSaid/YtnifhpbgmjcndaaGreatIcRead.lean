/- The reference of layer 17: read, an instruction behind its opcode (its text is made by wip/lab/genicread.py). -/
import Derived.Test.YtnifhpbgmjcndaaGreatPk4
import Derived.Test.YtnifhpbgmjcndaaGreatPk3
set_option linter.unusedVariables false
set_option linter.unusedSimpArgs false
set_option linter.unusedSectionVars false
set_option maxRecDepth 100000
set_option maxHeartbeats 16000000
namespace Go.Proofs.YtnifhpbgmjcndaaGreat
open Go.RowKit
theorem ze8{bd why:Int}{s:Ip}(hb:0<bd):0≤(jh bd why s).1∧(jh bd why s).1<bd:=by
 unfold jh
 split
 ·exact ⟨Int.le_refl _,hb⟩
 ·split
  ·exact ⟨Int.le_refl _,hb⟩
  ·split
   ·exact ⟨Int.le_refl _,hb⟩
   ·exact ⟨by dsimp only;omega,by dsimp only;omega⟩
theorem YC{r n:Int}{s:Ip}:0≤(Jr r n s).1∧(Jr r n s).1<4611686018427387904:=by
 unfold Jr
 split
 ·exact ⟨by decide,by decide⟩
 ·exact ze8 (by decide)
theorem zaU{r n:Int}{s:Ip}(h:s.err≠0):Jr r n s=(0,s):=by
 unfold Jr
 rw [jS h,if_neg fun hh=>h hh.1]
theorem UQ{r n:Int}{s:Ip}:jL true r n s=Jr r n s:=by
 unfold jL
 by_cases h:s.err=0
 ·rw [if_pos ⟨rfl,h⟩]
 ·rw [if_neg fun hh=>h hh.2,zaU h]
theorem zgj{op r n:Int}{s x:Ip}(h:(iE op r s).2=x)(hx:x.err≠0):jk op r n s=(Mi0,x):=by
 have h5:xE op r n s=(0,x):=by unfold xE;rw [h,jM hx]
 have h6:yE op r n s=(0,x):=by unfold yE;rw [h5];exact jM hx
 have h7:zE op r n s=x:=by unfold zE;rw [h6];exact zau hx
 unfold jk
 rw [h7,if_pos hx]
theorem Row.put7i{W:World}{p:Nat}{T:TypeId}{z0 z1 z2 z3 z4 z5 z6:Value}(h:Row W p T #[z0,z1,z2,z3,z4,z5,z6])(a0 a1 a2 a3 a4 a5 a6:Value):
  Row (((((((W.setCell ⟨p,0,none⟩ a0).setCell ⟨p,1,none⟩ a1).setCell ⟨p,2,none⟩ a2).setCell ⟨p,3,none⟩ a3).setCell ⟨p,4,none⟩ a4).setCell ⟨p,5,none⟩ a5).setCell ⟨p,6,none⟩ a6) p T #[a0,a1,a2,a3,a4,a5,a6]:=by
 have q0:Row _ p T #[a0,z1,z2,z3,z4,z5,z6]:=h.put 0 a0
 have q1:Row _ p T #[a0,a1,z2,z3,z4,z5,z6]:=q0.put 1 a1
 have q2:Row _ p T #[a0,a1,a2,z3,z4,z5,z6]:=q1.put 2 a2
 have q3:Row _ p T #[a0,a1,a2,a3,z4,z5,z6]:=q2.put 3 a3
 have q4:Row _ p T #[a0,a1,a2,a3,a4,z5,z6]:=q3.put 4 a4
 have q5:Row _ p T #[a0,a1,a2,a3,a4,a5,z6]:=q4.put 5 a5
 exact q5.put 6 a6
theorem JX(W:World)(p:Nat)(a0 a1 a2 a3 a4 a5 a6:Value):Mods (Is p) W (((((((W.setCell ⟨p,0,none⟩ a0).setCell ⟨p,1,none⟩ a1).setCell ⟨p,2,none⟩ a2).setCell ⟨p,3,none⟩ a3).setCell ⟨p,4,none⟩ a4).setCell ⟨p,5,none⟩ a5).setCell ⟨p,6,none⟩ a6):=
 (((((((Mods.refl _ W).put 0 a0).put 1 a1).put 2 a2).put 3 a3).put 4 a4).put 5 a5).put 6 a6
end Go.Proofs.YtnifhpbgmjcndaaGreat
