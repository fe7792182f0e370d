import Derived.Test.YtdbebbbceeopaaaGreatI
set_option linter.unusedSimpArgs false
namespace Go.Proofs.YtdbebbbceeopaaaGreat
open Go.RowKit

/-- A script's step, as a value. -/
def opV (kd : Int) (l ls t : Value) (x y : Int) : Value := .agg #[.int .i64 kd, l, ls, t, .int .i64 x, .int .i64 y]

set_option maxRecDepth 100000 in
set_option maxHeartbeats 1000000 in
theorem corners_law (w : World) :
    Calls Tryz.prog 30 #[.int .i64 1] w fun e w' => Below w.heap.size w w' ∧ w.heap.size + 2 < w'.heap.size ∧
      e = .returned (.agg #[.int .i64 1, .slice (some ⟨w.heap.size + 1, 0, none⟩) 3 3, .slice none 0 0, .slice (some ⟨w.heap.size + 2, 0, none⟩) 1 1, .int .i64 1, .int .i64 1]) ∧
      (∀ j, w'.cell? ⟨w.heap.size + 1, j, none⟩ = #[.int .i64 0, .int .i64 0, .int .i64 0, .int .i64 4, .int .i64 4, .int .i64 0][j]?) ∧ (∀ j, w'.cell? ⟨w.heap.size + 2, j, none⟩ = #[.int .i64 0, .int .i64 2, .int .i64 1][j]?) := by
  go_enter Tryz.func30, Tryz.ntmps30
  go_wp2
  refine bodyPost_ret (v := .agg #[.int .i64 1, .slice (some ⟨w.heap.size + 1, 0, none⟩) 3 3, .slice none 0 0, .slice (some ⟨w.heap.size + 2, 0, none⟩) 1 1, .int .i64 1, .int .i64 1]) ?r rfl ?q
  case r => simp [results, Tryz.results30, go_sem]
  case q =>
    refine ⟨(((Below.refl _ _).alloc (Nat.le_refl _) _).alloc (by simp) _).alloc (by simp; omega) _, by simp, rfl, fun j => ?_, fun j => ?_⟩
    · rw [World.cell?_alloc_past _ _ _ (by simp), World.cell?_alloc_at _ _ _ _ (by simp)]
    · rw [World.cell?_alloc_at _ _ _ _ (by simp)]
end Go.Proofs.YtdbebbbceeopaaaGreat
