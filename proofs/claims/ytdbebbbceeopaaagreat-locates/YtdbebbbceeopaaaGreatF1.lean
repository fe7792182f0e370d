
namespace Go.Proofs.YtdbebbbceeopaaaGreat

/-- How three points turn. -/
def tw (ax ay bx bya cx cy : Int) : Int := (bx - ax) * (cy - ay) - (bya - ay) * (cx - ax)

end Go.Proofs.YtdbebbbceeopaaaGreat

set_option linter.unusedSimpArgs false
namespace Go.Proofs.YtdbebbbceeopaaaGreat.Geo

variable {Pos : Int → Int → Prop} {px py : Nat → Int}

end Go.Proofs.YtdbebbbceeopaaaGreat.Geo

set_option linter.unusedSimpArgs false
namespace Go.Proofs.YtdbebbbceeopaaaGreat.Geo
variable {Pos : Int → Int → Prop} {px py : Nat → Int}

end Go.Proofs.YtdbebbbceeopaaaGreat.Geo

set_option linter.unusedSimpArgs false
namespace Go.Proofs.YtdbebbbceeopaaaGreat.Geo
variable {px py : Nat → Int}

end Go.Proofs.YtdbebbbceeopaaaGreat.Geo
