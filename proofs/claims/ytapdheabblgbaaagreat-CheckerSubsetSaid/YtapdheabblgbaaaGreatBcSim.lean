/-
  An accepted block simulates its source block.
-/
import Derived.Test.YtapdheabblgbaaaGreatPk5
import Derived.Test.YtapdheabblgbaaaGreatPk1
namespace Go.Proofs.YtapdheabblgbaaaGreat
open Go.RowKit
set_option linter.unusedVariables false

section
variable {n m : Nat} {S : List Pr} {x yr ys : List Int}
/-- The values with another one at a location. -/
def put2 (yr ys : List Int) (l v : Int) : List Int × List Int := if l % 2 = 1 then (yr, ys.set (l / 2).toNat v) else (yr.set (l / 2).toNat v, ys)
end

section
variable {N n m q : Nat} {code : List In} {mach : List Mi} {bt mt : Tm} {bs : List Blk} {ms : List MBlk} {most : Int}
end

end Go.Proofs.YtapdheabblgbaaaGreat
