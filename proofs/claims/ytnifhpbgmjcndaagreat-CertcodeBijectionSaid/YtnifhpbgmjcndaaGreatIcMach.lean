/- The reference of layer 17: Mach, Instr (texts made by wip/lab/genicmach.py). -/
import Derived.Test.YtnifhpbgmjcndaaGreatIcRead
set_option linter.unusedVariables false
set_option linter.unusedSimpArgs false
set_option maxRecDepth 100000
set_option maxHeartbeats 8000000
namespace Go.Proofs.YtnifhpbgmjcndaaGreat
open Go.RowKit
theorem Row.put5i{W:World}{p:Nat}{T:TypeId}{z0 z1 z2 z3 z4:Value}(h:Row W p T #[z0,z1,z2,z3,z4])(a0 a1 a2 a3 a4:Value):
  Row (((((W.setCell ⟨p,0,none⟩ a0).setCell ⟨p,1,none⟩ a1).setCell ⟨p,2,none⟩ a2).setCell ⟨p,3,none⟩ a3).setCell ⟨p,4,none⟩ a4) p T #[a0,a1,a2,a3,a4]:=by
 have q0:Row _ p T #[a0,z1,z2,z3,z4]:=h.put 0 a0
 have q1:Row _ p T #[a0,a1,z2,z3,z4]:=q0.put 1 a1
 have q2:Row _ p T #[a0,a1,a2,z3,z4]:=q1.put 2 a2
 have q3:Row _ p T #[a0,a1,a2,a3,z4]:=q2.put 3 a3
 exact q3.put 4 a4
theorem Yg(W:World)(p:Nat)(a0 a1 a2 a3 a4:Value):Mods (Is p) W (((((W.setCell ⟨p,0,none⟩ a0).setCell ⟨p,1,none⟩ a1).setCell ⟨p,2,none⟩ a2).setCell ⟨p,3,none⟩ a3).setCell ⟨p,4,none⟩ a4):=
 (((((Mods.refl _ W).put 0 a0).put 1 a1).put 2 a2).put 3 a3).put 4 a4
end Go.Proofs.YtnifhpbgmjcndaaGreat
