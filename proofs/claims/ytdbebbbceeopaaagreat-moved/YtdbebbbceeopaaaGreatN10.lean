import Derived.Test.YtdbebbbceeopaaaGreatN9
import Derived.Test.YtdbebbbceeopaaaGreatN7
import Derived.Deep.QuietTactic
import Derived.BigQuiet
namespace Go.Proofs.YtdbebbbceeopaaaGreat
open Go.RowKit Go.Sort
open Flt (Is)

def orI (a b : Int) : Int := if a ≠ 0 then a else b

set_option maxHeartbeats 400000 in
theorem or_any (b : Nat) (x y : Int) (w : World) (h0 : w.cell? ⟨b, 0, none⟩ = some (.int .i64 x)) (h1 : w.cell? ⟨b, 1, none⟩ = some (.int .i64 y)) :
    Calls Tryz.prog 80 #[.slice (some ⟨b, 0, none⟩) 2 2] w fun e w' => e = .returned (.int .i64 (orI x y)) ∧ w' = w := by
  unfold orI
  by_cases hx : x = 0
  · subst hx
    by_cases hy : y = 0
    · subst hy
      go_enter Tryz.func80, Tryz.ntmps80
      go_wp2
      refine wp_loop_rounds 3 ?_
      rw [rounds_succ]
      go_wp2
      rw [rounds_succ]
      go_wp2
      rw [rounds_succ]
      go_wp2
      go_ret
      exact ⟨rfl, rfl⟩
    · have hy' : (y != 0) = true := by simpa using hy
      go_enter Tryz.func80, Tryz.ntmps80
      go_wp2
      refine wp_loop_rounds 2 ?_
      rw [rounds_succ]
      go_wp2
      rw [rounds_succ]
      go_wp2
      go_ret
      exact ⟨rfl, rfl⟩
  · have hx' : (x != 0) = true := by simpa using hx
    rw [if_pos hx]
    go_enter Tryz.func80, Tryz.ntmps80
    go_wp2
    refine wp_loop_rounds 1 ?_
    rw [rounds_succ]
    go_wp2
    go_ret
    exact ⟨rfl, rfl⟩

set_option maxHeartbeats 1000000 in
theorem closure_any (bx pb po n cap i j : Nat) (ri ii rj ij : Nat) (xi yi xj yj : Int) (hi : i < n) (hj : j < n) (w : World)
    (hbox : w.cell? ⟨bx, 0, none⟩ = some (.slice (some ⟨pb, po, none⟩) n cap))
    (h1 : w.cell? ⟨pb, po + i, none⟩ = some (.complex .f64 ri ii)) (h2 : w.cell? ⟨pb, po + j, none⟩ = some (.complex .f64 rj ij))
    (a1 : Is ri xi) (a2 : Is ii yi) (a3 : Is rj xj) (a4 : Is ij yj) :
    Calls Tryz.prog 93 #[.int .i64 i, .int .i64 j, .pointer (some ⟨bx, 0, none⟩)] w fun e w' => e = .returned (.int .i64 (orI (cmpI xi xj) (cmpI yi yj))) ∧ ∃ q os', w' = grow (w.drewN q) os' := by
  have c1 := compare_any ri rj xi xj a1 a3
  have c2 := compare_any ii ij yi yj a2 a4
  have hi' : (i : Int) < n := by omega
  have hj' : (j : Int) < n := by omega
  clear a1 a2 a3 a4
  generalize cmpI xi xj = c at *
  generalize cmpI yi yj = d at *
  have C1 : Hid (∀ w, _) := c1
  have C2 : Hid (∀ w, _) := c2
  clear c1 c2
  go_enter Tryz.func93, Tryz.ntmps93
  go_wp2
  go_quiet (fail)
  go_wp2_with fail
  refine (C1.out _).mono ?_
  rintro e w' ⟨rfl, rfl⟩
  go_wp2_with fail
  refine (C2.out _).mono ?_
  rintro e w' ⟨rfl, rfl⟩
  go_wp2_with fail
  refine (or_any _ c d _ ?g1 ?g2).mono ?_
  case g1 => exact World.cell?_alloc_at _ _ _ _ rfl
  case g2 => exact World.cell?_alloc_at _ _ _ _ rfl
  rintro e w' ⟨rfl, rfl⟩
  go_wp2_with fail
  go_ret
  refine ⟨rfl, ?_⟩
  exact ⟨nq, _, alloc_eq_grow _ _⟩

end Go.Proofs.YtdbebbbceeopaaaGreat
