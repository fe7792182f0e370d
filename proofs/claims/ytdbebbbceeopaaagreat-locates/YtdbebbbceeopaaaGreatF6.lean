import Derived.Test.YtdbebbbceeopaaaGreatF5
import Derived.Lib.OwnBridge
import Derived.Lib.AppendIntMem
import Derived.WalkSmall
import Derived.Test.YtdbebbbceeopaaaGreatF4
import Derived.Laws.StructEq
import Derived.Deep.RegionWith
import Derived.Test.YtdbebbbceeopaaaGreatF1
namespace Go.Proofs.YtdbebbbceeopaaaGreat
open Go.RowKit
open Go.Sort (grow Holds putRow SWO PermIn SortedIn alloc_eq_grow cell?_grow cell?_putRow_other)
open Flt (Is)

theorem Tryz.info35 : (Tryz.prog.info? 35).map (fun i => (i.zero, i.size, i.bytes)) = some (some (.agg #[.int .i64 0, .int .i64 0]), 2, 16) := by kernel_rfl

end Go.Proofs.YtdbebbbceeopaaaGreat

namespace Go.Proofs.YtdbebbbceeopaaaGreat
open Go.RowKit
open Go.Sort (grow Holds putRow SWO PermIn SortedIn alloc_eq_grow cell?_grow cell?_putRow_other)
open Flt (Is)

theorem is_zero : Is 0 0 := Flt.Is.ofInt (n := 0) (by decide) (by decide)

theorem gtr_zero {r : Nat} {v : Int} (h : Is r v) : (FloatKind.f64.format.order r 0 == some Ordering.gt) = decide (0 < v) := by
  rw [h.order is_zero]
  by_cases h1 : 0 < v
  · simp [Int.compare_eq_gt.2 h1, h1]
  · by_cases h2 : v < 0
    · simp [Int.compare_eq_lt.2 h2, h1]
    · have : v = 0 := by omega
      subst this; simp

end Go.Proofs.YtdbebbbceeopaaaGreat

namespace Go.Proofs.YtdbebbbceeopaaaGreat
open Go.RowKit
open Flt (Is)

/-- A row of points: block qb, from qo on, n of them, two cells each. -/
structure Pts (w : World) (qb qo n : Nat) (px py : Nat → Int) : Prop where
  lt : qb < w.heap.size
  x : ∀ i, i < n → w.cell? ⟨qb, qo + i * 2, none⟩ = some (.int .i64 (px i))
  y : ∀ i, i < n → w.cell? ⟨qb, qo + i * 2 + 1, none⟩ = some (.int .i64 (py i))

theorem Pts.below {w w' : World} {B qb qo n : Nat} {px py : Nat → Int} (h : Pts w qb qo n px py) (hb : Below B w w') (hB : qb < B) : Pts w' qb qo n px py :=
  ⟨Nat.lt_of_lt_of_le h.lt hb.size, fun i hi => by rw [hb.cell (by exact hB)]; exact h.x i hi, fun i hi => by rw [hb.cell (by exact hB)]; exact h.y i hi⟩

def cx (x y : Int) : Value := .complex .f64 (floatOfInt .f64 x) (floatOfInt .f64 y)

end Go.Proofs.YtdbebbbceeopaaaGreat

namespace Go.Proofs.YtdbebbbceeopaaaGreat
open Go.RowKit Go.Shelf Go.Lib
open Flt (Is)

def encPt (x : Int × Int) : List Value := [.int .i64 x.1, .int .i64 x.2]

theorem eqPt : EqlAt Tryz.prog 35 (fun x => .agg (encPt x).toArray) (fun x y => x.1 == y.1 && x.2 == y.2) := by
  refine ⟨fun x y w => ?_, GuardAt.agg _ (by kernel_rfl)⟩
  have u3 := Tryz.underlying3
  have a3 := Tryz.isAgg3
  have z3 := Tryz.sizeOf3
  have hS : Tryz.prog.underlying 35 = some (.struct (Tryz.prog.fieldsOf 35)) := by kernel_rfl
  have hp : Tryz.prog.stoodInHeld 35 = false := by kernel_rfl
  simp only [encPt]
  rw [run_eql_struct, show (10000 : Nat) = 9999 + 1 from rfl, run_equalIn_agg w 9999 35 _ _ hS hp]
  simp only [Program.fieldsOf, Tryz.underlying35]
  go_simp
  by_cases h1 : x.fst = y.fst <;> by_cases h2 : x.snd = y.snd <;> simp [h1, h2]

end Go.Proofs.YtdbebbbceeopaaaGreat

set_option linter.unusedSimpArgs false
namespace Go.Proofs.YtdbebbbceeopaaaGreat
open Go.RowKit

/-- A script's step, as a value. -/
def opV (kd : Int) (l ls t : Value) (x y : Int) : Value := .agg #[.int .i64 kd, l, ls, t, .int .i64 x, .int .i64 y]

end Go.Proofs.YtdbebbbceeopaaaGreat

namespace Go.Proofs.YtdbebbbceeopaaaGreat
open Go.RowKit Go.Shelf
open Go.Sort (grow Holds putRow SWO PermIn SortedIn alloc_eq_grow cell?_grow cell?_putRow_other)
open Flt (Is)

end Go.Proofs.YtdbebbbceeopaaaGreat

namespace Go.Proofs.YtdbebbbceeopaaaGreat
open Go.RowKit
open Flt (Is)

end Go.Proofs.YtdbebbbceeopaaaGreat

namespace Go.Proofs.YtdbebbbceeopaaaGreat
open Go.RowKit
open Go.Sort (SortedIn)
open Flt (Is)

end Go.Proofs.YtdbebbbceeopaaaGreat

set_option linter.unusedSimpArgs false
namespace Go.Proofs.YtdbebbbceeopaaaGreat
open Go.RowKit

/-- A slice all of whose cells hold the mark m. -/
def Full (w : World) (v : Value) (m : Int) : Prop :=
  (∃ c, v = .slice none 0 c) ∨ ∃ g n c, v = .slice (some ⟨g, 0, none⟩) n c ∧ n ≤ 1000000 ∧ g < w.heap.size ∧ ∀ j, j < n → w.cell? ⟨g, j, none⟩ = some (.int .i64 m)

set_option maxHeartbeats 1000000 in
theorem fullInts_any (v : Value) (m : Int) (w : World) (h : Full w v m) :
    Calls Tryz.prog 56 #[v, .int .i64 m] w fun e w' => e = .returned (.bool true) ∧ w' = w := by
  rcases h with ⟨c, rfl⟩ | ⟨g, n, c, rfl, hn, hg, hc⟩
  · go_enter Tryz.func56, Tryz.ntmps56
    go_wp2
    refine wp_loop_rounds 1 ?_
    rw [rounds_succ]
    go_wp2
    go_ret
    exact ⟨rfl, rfl⟩
  · have HC := hid hc
    have dm : (m != m) = false := by simp
    clear hc
    go_enter Tryz.func56, Tryz.ntmps56
    go_wp2
    go_loop [5] (fun i => ∃ k : Nat, k ≤ n ∧ i = .int .i64 k) (fun i => n - (intOf i).toNat)
    case atStart => exact ⟨0, Nat.zero_le _, rfl⟩
    case round =>
      obtain ⟨k, hk, rfl⟩ := hrel
      by_cases hkn : k < n
      · have hck := HC.out k hkn
        have hkn' : (k : Int) < n := by omega
        go_wp2
        go_round
        case rel => exact ⟨k + 1, by omega, by go_num⟩
        case measure => simp [intOf]; omega
      · have : k = n := by omega
        subst this
        go_wp2
        go_ret
        exact ⟨rfl, rfl⟩
end Go.Proofs.YtdbebbbceeopaaaGreat

namespace Go.Proofs.YtdbebbbceeopaaaGreat
open Go.RowKit
open Go.Sort (SortedIn)
open Geo

end Go.Proofs.YtdbebbbceeopaaaGreat

namespace Go.Proofs.YtdbebbbceeopaaaGreat
open Go.RowKit

end Go.Proofs.YtdbebbbceeopaaaGreat
