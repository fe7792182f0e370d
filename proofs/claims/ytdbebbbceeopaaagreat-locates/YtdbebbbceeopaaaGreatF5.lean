import Derived.Test.YtdbebbbceeopaaaGreatF4
import Derived.Test.YtdbebbbceeopaaaGreatF3
import Derived.Deep.QuietTactic
import Derived.BigQuiet
namespace Go.Proofs.YtdbebbbceeopaaaGreat
open Go.RowKit Go.Sort
open Flt (Is)

end Go.Proofs.YtdbebbbceeopaaaGreat
