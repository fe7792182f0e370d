import Derived.Test.YtdbebbbceeopaaaGreatN12
import Derived.Test.YtdbebbbceeopaaaGreatN11
import Derived.Deep.AppendLies
import Derived.Deep.RegionLaw
set_option linter.unusedSimpArgs false
namespace Go.Proofs.YtdbebbbceeopaaaGreat
open Go.RowKit

def marks (n : Nat) (m : Int) : List Value := List.replicate n (.int .i64 m)

/-- The list behind k rounds of the loop that writes the marks. -/
def mk (xs : List Value) (m : Int) (k : Nat) : List Value := marks k m ++ xs.drop k

end Go.Proofs.YtdbebbbceeopaaaGreat

set_option linter.unusedSimpArgs false
namespace Go.Proofs.YtdbebbbceeopaaaGreat
open Go.RowKit

end Go.Proofs.YtdbebbbceeopaaaGreat
