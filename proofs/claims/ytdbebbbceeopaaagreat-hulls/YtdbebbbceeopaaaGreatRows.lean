/-
  No cell of these rows narrows 'for every input' (looked for: loops, veiled, ifaces, maps, wideKeys, modest, calm, conditions, laid).
  DERIVED. THE GIVEN ROWS OF THIS SEAT. 10 by the template 'for every input the law returns true; each argument reads behind the call as it read before'; 0 by the template 'total and deterministic' (their statements: YtdbebbbceeopaaaGreatTotals.lean).
  GIVEN WITH THE SEED: the statements are not yours to turn. If you find one false, say at which input.
  Laid BY PROGRAM, IN A SANDBOX (cutbox-rows.mjs): the forced cells as the released guide's own fill.sh prints them over the translation ce1e132b17e728cf… (all of the seat's roots in one cut). By AI agents, Wed Nov 11 2026. No macro, syntax, notation, axiom, sorry.
-/
import Derived.Test.YtdbebbbceeopaaaGreatChecked
import GoSem.Claim
import GoSem.ClaimJoined
import GoSem.ClaimMapViews
import Derived.JoinedTies
import Derived.KernelRfl
namespace Go.Proofs.YtdbebbbceeopaaaGreat
/- THE CELL 'sum', in the pinned program and in every row, IS THE sha256 OF THE DUMP (.gsa) THAT YtdbebbbceeopaaaGreatProg.lean LOADS. Nothing in Lean hashes anything: it is a label: what it is worth is what the hold of that sum in a sandbox is worth. -/
noncomputable def Tryz.pinned : Pinned := { name := "ytdbebbbceeopaaagreat", sum := "ce1e132b17e728cf3b94b8b77e618732e44c5d6103a62eb8c4c3896f614e4a20", checked := Tryz.checked }
namespace Rows
def none {H : Type} : Left H := { results := [], args := [] }

/-- 'triskellaw.Hulls': WHATEVER THE INPUT: true; the input reads as it did. -/
def hullsSpec : ChangeSpec := { name := "hulls", fn := fun _ => fun
  | [d] => { results := [.lit (.bool true)], args := [d] }
  | _ => none }
def hullsRow : OpenClaim := { program := "ytdbebbbceeopaaagreat", sum := "ce1e132b17e728cf3b94b8b77e618732e44c5d6103a62eb8c4c3896f614e4a20", func := "triskel/triskellaw.Hulls", spec := "hulls", inPlace := ["math.Float64bits", "math.Float64frombits"], unfollowed := true, recurses := true, plainKeys := false, apart := false }
def HullsSaid : Prop := hullsRow.holds Tryz.pinned (OpenSpec.ofChange hullsSpec)

/-- ITS FALSE NEIGHBOUR: 'it returns false'. Refute it at one input. -/
def hullsWrong : ChangeSpec := { name := "hulls", fn := fun _ => fun
  | [d] => { results := [.lit (.bool false)], args := [d] }
  | _ => none }
def HullsWrongFalsely : Prop := hullsRow.holds Tryz.pinned (OpenSpec.ofChange hullsWrong)

/-- 'triskellaw.Meshes': WHATEVER THE INPUT: true; the input reads as it did. -/
def meshesSpec : ChangeSpec := { name := "meshes", fn := fun _ => fun
  | [d] => { results := [.lit (.bool true)], args := [d] }
  | _ => none }
def meshesRow : OpenClaim := { program := "ytdbebbbceeopaaagreat", sum := "ce1e132b17e728cf3b94b8b77e618732e44c5d6103a62eb8c4c3896f614e4a20", func := "triskel/triskellaw.Meshes", spec := "meshes", inPlace := ["math.Float64bits", "math.Float64frombits"], unfollowed := true, recurses := true, plainKeys := false, apart := false }
def MeshesSaid : Prop := meshesRow.holds Tryz.pinned (OpenSpec.ofChange meshesSpec)

/-- ITS FALSE NEIGHBOUR: 'it returns false'. Refute it at one input. -/
def meshesWrong : ChangeSpec := { name := "meshes", fn := fun _ => fun
  | [d] => { results := [.lit (.bool false)], args := [d] }
  | _ => none }
def MeshesWrongFalsely : Prop := meshesRow.holds Tryz.pinned (OpenSpec.ofChange meshesWrong)

/-- 'triskelkeep.Near': WHATEVER THE INPUT: true; the input reads as it did. -/
def nearSpec : ChangeSpec := { name := "near", fn := fun _ => fun
  | [d1, d2] => { results := [.lit (.bool true)], args := [d1, d2] }
  | _ => none }
def nearRow : OpenClaim := { program := "ytdbebbbceeopaaagreat", sum := "ce1e132b17e728cf3b94b8b77e618732e44c5d6103a62eb8c4c3896f614e4a20", func := "triskel/triskelkeep.Near", spec := "near", inPlace := ["math.Float64bits", "math.Float64frombits"], unfollowed := true, recurses := true, plainKeys := false, apart := false }
def NearSaid : Prop := nearRow.holds Tryz.pinned (OpenSpec.ofChange nearSpec)

/-- ITS FALSE NEIGHBOUR: 'it returns false'. Refute it at one input. -/
def nearWrong : ChangeSpec := { name := "near", fn := fun _ => fun
  | [d1, d2] => { results := [.lit (.bool false)], args := [d1, d2] }
  | _ => none }
def NearWrongFalsely : Prop := nearRow.holds Tryz.pinned (OpenSpec.ofChange nearWrong)

/-- 'triskelkeep.Moved': WHATEVER THE INPUT: true; the input reads as it did. -/
def movedSpec : ChangeSpec := { name := "moved", fn := fun _ => fun
  | [d1, d2, d3, d4] => { results := [.lit (.bool true)], args := [d1, d2, d3, d4] }
  | _ => none }
def movedRow : OpenClaim := { program := "ytdbebbbceeopaaagreat", sum := "ce1e132b17e728cf3b94b8b77e618732e44c5d6103a62eb8c4c3896f614e4a20", func := "triskel/triskelkeep.Moved", spec := "moved", inPlace := ["math.Float64bits", "math.Float64frombits"], unfollowed := true, recurses := true, plainKeys := false, apart := false }
def MovedSaid : Prop := movedRow.holds Tryz.pinned (OpenSpec.ofChange movedSpec)

/-- ITS FALSE NEIGHBOUR: 'it returns false'. Refute it at one input. -/
def movedWrong : ChangeSpec := { name := "moved", fn := fun _ => fun
  | [d1, d2, d3, d4] => { results := [.lit (.bool false)], args := [d1, d2, d3, d4] }
  | _ => none }
def MovedWrongFalsely : Prop := movedRow.holds Tryz.pinned (OpenSpec.ofChange movedWrong)

/-- 'triskellaw.Locates': WHATEVER THE INPUT: true; the input reads as it did. -/
def locatesSpec : ChangeSpec := { name := "locates", fn := fun _ => fun
  | [d] => { results := [.lit (.bool true)], args := [d] }
  | _ => none }
def locatesRow : OpenClaim := { program := "ytdbebbbceeopaaagreat", sum := "ce1e132b17e728cf3b94b8b77e618732e44c5d6103a62eb8c4c3896f614e4a20", func := "triskel/triskellaw.Locates", spec := "locates", inPlace := ["math.Float64bits", "math.Float64frombits"], unfollowed := true, recurses := true, plainKeys := false, apart := false }
def LocatesSaid : Prop := locatesRow.holds Tryz.pinned (OpenSpec.ofChange locatesSpec)

/-- ITS FALSE NEIGHBOUR: 'it returns false'. Refute it at one input. -/
def locatesWrong : ChangeSpec := { name := "locates", fn := fun _ => fun
  | [d] => { results := [.lit (.bool false)], args := [d] }
  | _ => none }
def LocatesWrongFalsely : Prop := locatesRow.holds Tryz.pinned (OpenSpec.ofChange locatesWrong)

/-- 'triskelkeep.Found': WHATEVER THE INPUT: true; the input reads as it did. -/
def foundSpec : ChangeSpec := { name := "found", fn := fun _ => fun
  | [d1, d2, d3, d4] => { results := [.lit (.bool true)], args := [d1, d2, d3, d4] }
  | _ => none }
def foundRow : OpenClaim := { program := "ytdbebbbceeopaaagreat", sum := "ce1e132b17e728cf3b94b8b77e618732e44c5d6103a62eb8c4c3896f614e4a20", func := "triskel/triskelkeep.Found", spec := "found", inPlace := ["math.Float64bits", "math.Float64frombits"], unfollowed := true, recurses := true, plainKeys := false, apart := false }
def FoundSaid : Prop := foundRow.holds Tryz.pinned (OpenSpec.ofChange foundSpec)

/-- ITS FALSE NEIGHBOUR: 'it returns false'. Refute it at one input. -/
def foundWrong : ChangeSpec := { name := "found", fn := fun _ => fun
  | [d1, d2, d3, d4] => { results := [.lit (.bool false)], args := [d1, d2, d3, d4] }
  | _ => none }
def FoundWrongFalsely : Prop := foundRow.holds Tryz.pinned (OpenSpec.ofChange foundWrong)

/-- 'triskellaw.Bounds': WHATEVER THE INPUT: true; the input reads as it did. -/
def boundsSpec : ChangeSpec := { name := "bounds", fn := fun _ => fun
  | [d] => { results := [.lit (.bool true)], args := [d] }
  | _ => none }
def boundsRow : OpenClaim := { program := "ytdbebbbceeopaaagreat", sum := "ce1e132b17e728cf3b94b8b77e618732e44c5d6103a62eb8c4c3896f614e4a20", func := "triskel/triskellaw.Bounds", spec := "bounds", inPlace := ["math.Float64bits", "math.Float64frombits"], unfollowed := true, recurses := true, plainKeys := false, apart := false }
def BoundsSaid : Prop := boundsRow.holds Tryz.pinned (OpenSpec.ofChange boundsSpec)

/-- ITS FALSE NEIGHBOUR: 'it returns false'. Refute it at one input. -/
def boundsWrong : ChangeSpec := { name := "bounds", fn := fun _ => fun
  | [d] => { results := [.lit (.bool false)], args := [d] }
  | _ => none }
def BoundsWrongFalsely : Prop := boundsRow.holds Tryz.pinned (OpenSpec.ofChange boundsWrong)

/-- 'triskelkeep.Counted': WHATEVER THE INPUT: true; the input reads as it did. -/
def countedSpec : ChangeSpec := { name := "counted", fn := fun _ => fun
  | [d1, d2, d3] => { results := [.lit (.bool true)], args := [d1, d2, d3] }
  | _ => none }
def countedRow : OpenClaim := { program := "ytdbebbbceeopaaagreat", sum := "ce1e132b17e728cf3b94b8b77e618732e44c5d6103a62eb8c4c3896f614e4a20", func := "triskel/triskelkeep.Counted", spec := "counted", inPlace := ["math.Float64bits", "math.Float64frombits"], unfollowed := true, recurses := true, plainKeys := false, apart := false }
def CountedSaid : Prop := countedRow.holds Tryz.pinned (OpenSpec.ofChange countedSpec)

/-- ITS FALSE NEIGHBOUR: 'it returns false'. Refute it at one input. -/
def countedWrong : ChangeSpec := { name := "counted", fn := fun _ => fun
  | [d1, d2, d3] => { results := [.lit (.bool false)], args := [d1, d2, d3] }
  | _ => none }
def CountedWrongFalsely : Prop := countedRow.holds Tryz.pinned (OpenSpec.ofChange countedWrong)

/-- 'triskelkeep.Lined': WHATEVER THE INPUT: true; the input reads as it did. -/
def linedSpec : ChangeSpec := { name := "lined", fn := fun _ => fun
  | [d1, d2, d3] => { results := [.lit (.bool true)], args := [d1, d2, d3] }
  | _ => none }
def linedRow : OpenClaim := { program := "ytdbebbbceeopaaagreat", sum := "ce1e132b17e728cf3b94b8b77e618732e44c5d6103a62eb8c4c3896f614e4a20", func := "triskel/triskelkeep.Lined", spec := "lined", inPlace := ["math.Float64bits", "math.Float64frombits"], unfollowed := true, recurses := true, plainKeys := false, apart := false }
def LinedSaid : Prop := linedRow.holds Tryz.pinned (OpenSpec.ofChange linedSpec)

/-- ITS FALSE NEIGHBOUR: 'it returns false'. Refute it at one input. -/
def linedWrong : ChangeSpec := { name := "lined", fn := fun _ => fun
  | [d1, d2, d3] => { results := [.lit (.bool false)], args := [d1, d2, d3] }
  | _ => none }
def LinedWrongFalsely : Prop := linedRow.holds Tryz.pinned (OpenSpec.ofChange linedWrong)

/-- 'triskellaw.All': WHATEVER THE INPUT: true; the input reads as it did. -/
def allSpec : ChangeSpec := { name := "all", fn := fun _ => fun
  | [d] => { results := [.lit (.bool true)], args := [d] }
  | _ => none }
def allRow : OpenClaim := { program := "ytdbebbbceeopaaagreat", sum := "ce1e132b17e728cf3b94b8b77e618732e44c5d6103a62eb8c4c3896f614e4a20", func := "triskel/triskellaw.All", spec := "all", inPlace := ["math.Float64bits", "math.Float64frombits"], unfollowed := true, recurses := true, plainKeys := false, apart := false }
def AllSaid : Prop := allRow.holds Tryz.pinned (OpenSpec.ofChange allSpec)

/-- ITS FALSE NEIGHBOUR: 'it returns false'. Refute it at one input. -/
def allWrong : ChangeSpec := { name := "all", fn := fun _ => fun
  | [d] => { results := [.lit (.bool false)], args := [d] }
  | _ => none }
def AllWrongFalsely : Prop := allRow.holds Tryz.pinned (OpenSpec.ofChange allWrong)

/- THE SECOND FORM. 'bulk': how many values and letters a reading holds, each counted each time it is reached (what is shared counts as often as it is met; a slice's spare places count too). A statement '..UptoSaid' is the law's where the arguments, and the package variables that the reading takes, are together of bulk at most 1048576: NARROWER than '..Said'. Prove '..Said' where nothing that the law and all that it calls make is longer than what came in: it says more and counts as full. Else prove '..UptoSaid'. A law counts once. -/
mutual
def uptoBulk {H : Type} : DataW H → Nat
  | .lit (.string bytes) => bytes.length + 1
  | .lit _ => 1
  | .nil => 1
  | .ptr d => uptoBulk d + 1
  | .slice elems spare => uptoBulkAll elems + uptoBulkAll spare + 1
  | .agg parts => uptoBulkAll parts + 1
  | .iface _ d => uptoBulk d + 1
  | .map entries => uptoBulkEntries entries + 1
  | .held _ => 1
def uptoBulkAll {H : Type} : List (DataW H) → Nat
  | [] => 0
  | d :: r => uptoBulk d + uptoBulkAll r
def uptoBulkEntries {H : Type} : List (Lit × DataW H) → Nat
  | [] => 0
  | x :: r => uptoBulkEntry x + uptoBulkEntries r
def uptoBulkEntry {H : Type} : Lit × DataW H → Nat
  | (.string bytes, d) => bytes.length + uptoBulk d + 1
  | (_, d) => uptoBulk d + 1
 end
def uptoSmall : (H : Type) → List (DataW H) → Bool := fun _ ds => decide (uptoBulkAll ds ≤ 1048576)
def OpenSpec.upto (s : _root_.Go.ChangeSpec) : _root_.Go.OpenSpec := { _root_.Go.OpenSpec.ofChange s with cond := some uptoSmall }

/-- 'triskellaw.Hulls', WHERE WHAT IT READS IS OF BULK AT MOST 1048576: true; the input reads as it did. -/
def hullsUptoRow : OpenClaim := { program := "ytdbebbbceeopaaagreat", sum := "ce1e132b17e728cf3b94b8b77e618732e44c5d6103a62eb8c4c3896f614e4a20", func := "triskel/triskellaw.Hulls", spec := "hulls", inPlace := ["math.Float64bits", "math.Float64frombits"], unfollowed := true, recurses := true, plainKeys := false, apart := false, narrowed := true }
def HullsUptoSaid : Prop := hullsUptoRow.holds Tryz.pinned (OpenSpec.upto hullsSpec)

/-- 'triskellaw.Meshes', WHERE WHAT IT READS IS OF BULK AT MOST 1048576: true; the input reads as it did. -/
def meshesUptoRow : OpenClaim := { program := "ytdbebbbceeopaaagreat", sum := "ce1e132b17e728cf3b94b8b77e618732e44c5d6103a62eb8c4c3896f614e4a20", func := "triskel/triskellaw.Meshes", spec := "meshes", inPlace := ["math.Float64bits", "math.Float64frombits"], unfollowed := true, recurses := true, plainKeys := false, apart := false, narrowed := true }
def MeshesUptoSaid : Prop := meshesUptoRow.holds Tryz.pinned (OpenSpec.upto meshesSpec)

/-- 'triskelkeep.Near', WHERE WHAT IT READS IS OF BULK AT MOST 1048576: true; the input reads as it did. -/
def nearUptoRow : OpenClaim := { program := "ytdbebbbceeopaaagreat", sum := "ce1e132b17e728cf3b94b8b77e618732e44c5d6103a62eb8c4c3896f614e4a20", func := "triskel/triskelkeep.Near", spec := "near", inPlace := ["math.Float64bits", "math.Float64frombits"], unfollowed := true, recurses := true, plainKeys := false, apart := false, narrowed := true }
def NearUptoSaid : Prop := nearUptoRow.holds Tryz.pinned (OpenSpec.upto nearSpec)

/-- 'triskelkeep.Moved', WHERE WHAT IT READS IS OF BULK AT MOST 1048576: true; the input reads as it did. -/
def movedUptoRow : OpenClaim := { program := "ytdbebbbceeopaaagreat", sum := "ce1e132b17e728cf3b94b8b77e618732e44c5d6103a62eb8c4c3896f614e4a20", func := "triskel/triskelkeep.Moved", spec := "moved", inPlace := ["math.Float64bits", "math.Float64frombits"], unfollowed := true, recurses := true, plainKeys := false, apart := false, narrowed := true }
def MovedUptoSaid : Prop := movedUptoRow.holds Tryz.pinned (OpenSpec.upto movedSpec)

/-- 'triskellaw.Locates', WHERE WHAT IT READS IS OF BULK AT MOST 1048576: true; the input reads as it did. -/
def locatesUptoRow : OpenClaim := { program := "ytdbebbbceeopaaagreat", sum := "ce1e132b17e728cf3b94b8b77e618732e44c5d6103a62eb8c4c3896f614e4a20", func := "triskel/triskellaw.Locates", spec := "locates", inPlace := ["math.Float64bits", "math.Float64frombits"], unfollowed := true, recurses := true, plainKeys := false, apart := false, narrowed := true }
def LocatesUptoSaid : Prop := locatesUptoRow.holds Tryz.pinned (OpenSpec.upto locatesSpec)

/-- 'triskelkeep.Found', WHERE WHAT IT READS IS OF BULK AT MOST 1048576: true; the input reads as it did. -/
def foundUptoRow : OpenClaim := { program := "ytdbebbbceeopaaagreat", sum := "ce1e132b17e728cf3b94b8b77e618732e44c5d6103a62eb8c4c3896f614e4a20", func := "triskel/triskelkeep.Found", spec := "found", inPlace := ["math.Float64bits", "math.Float64frombits"], unfollowed := true, recurses := true, plainKeys := false, apart := false, narrowed := true }
def FoundUptoSaid : Prop := foundUptoRow.holds Tryz.pinned (OpenSpec.upto foundSpec)

/-- 'triskellaw.Bounds', WHERE WHAT IT READS IS OF BULK AT MOST 1048576: true; the input reads as it did. -/
def boundsUptoRow : OpenClaim := { program := "ytdbebbbceeopaaagreat", sum := "ce1e132b17e728cf3b94b8b77e618732e44c5d6103a62eb8c4c3896f614e4a20", func := "triskel/triskellaw.Bounds", spec := "bounds", inPlace := ["math.Float64bits", "math.Float64frombits"], unfollowed := true, recurses := true, plainKeys := false, apart := false, narrowed := true }
def BoundsUptoSaid : Prop := boundsUptoRow.holds Tryz.pinned (OpenSpec.upto boundsSpec)

/-- 'triskelkeep.Counted', WHERE WHAT IT READS IS OF BULK AT MOST 1048576: true; the input reads as it did. -/
def countedUptoRow : OpenClaim := { program := "ytdbebbbceeopaaagreat", sum := "ce1e132b17e728cf3b94b8b77e618732e44c5d6103a62eb8c4c3896f614e4a20", func := "triskel/triskelkeep.Counted", spec := "counted", inPlace := ["math.Float64bits", "math.Float64frombits"], unfollowed := true, recurses := true, plainKeys := false, apart := false, narrowed := true }
def CountedUptoSaid : Prop := countedUptoRow.holds Tryz.pinned (OpenSpec.upto countedSpec)

/-- 'triskelkeep.Lined', WHERE WHAT IT READS IS OF BULK AT MOST 1048576: true; the input reads as it did. -/
def linedUptoRow : OpenClaim := { program := "ytdbebbbceeopaaagreat", sum := "ce1e132b17e728cf3b94b8b77e618732e44c5d6103a62eb8c4c3896f614e4a20", func := "triskel/triskelkeep.Lined", spec := "lined", inPlace := ["math.Float64bits", "math.Float64frombits"], unfollowed := true, recurses := true, plainKeys := false, apart := false, narrowed := true }
def LinedUptoSaid : Prop := linedUptoRow.holds Tryz.pinned (OpenSpec.upto linedSpec)

/-- 'triskellaw.All', WHERE WHAT IT READS IS OF BULK AT MOST 1048576: true; the input reads as it did. -/
def allUptoRow : OpenClaim := { program := "ytdbebbbceeopaaagreat", sum := "ce1e132b17e728cf3b94b8b77e618732e44c5d6103a62eb8c4c3896f614e4a20", func := "triskel/triskellaw.All", spec := "all", inPlace := ["math.Float64bits", "math.Float64frombits"], unfollowed := true, recurses := true, plainKeys := false, apart := false, narrowed := true }
def AllUptoSaid : Prop := allUptoRow.holds Tryz.pinned (OpenSpec.upto allSpec)

end Rows
end Go.Proofs.YtdbebbbceeopaaaGreat
