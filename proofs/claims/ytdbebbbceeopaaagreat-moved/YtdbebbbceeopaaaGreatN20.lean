import Derived.Test.YtdbebbbceeopaaaGreatN13
import Derived.Test.YtdbebbbceeopaaaGreatN18
import Derived.Test.YtdbebbbceeopaaaGreatN12
import Derived.Test.YtdbebbbceeopaaaGreatN14
set_option linter.unusedSimpArgs false
namespace Go.Proofs.YtdbebbbceeopaaaGreat
open Go.RowKit

/-! The law's book, of lists of triangles: as of lists of numbers, three cells each. -/

end Go.Proofs.YtdbebbbceeopaaaGreat

set_option linter.unusedSimpArgs false
namespace Go.Proofs.YtdbebbbceeopaaaGreat
open Go.RowKit

end Go.Proofs.YtdbebbbceeopaaaGreat

set_option linter.unusedSimpArgs false
namespace Go.Proofs.YtdbebbbceeopaaaGreat
open Go.RowKit

end Go.Proofs.YtdbebbbceeopaaaGreat

set_option linter.unusedSimpArgs false
namespace Go.Proofs.YtdbebbbceeopaaaGreat
open Go.RowKit

end Go.Proofs.YtdbebbbceeopaaaGreat

set_option linter.unusedSimpArgs false
namespace Go.Proofs.YtdbebbbceeopaaaGreat
open Go.RowKit

theorem refI_ne {px py : Nat → Int} {n : Nat} (h : refI px py n = 0) : ∀ i j, i < n → j < n → i ≠ j → ¬ (px i = px j ∧ py i = py j) := by
  have ht : twB px py n = false := by
    cases h' : twB px py n with
    | false => rfl
    | true => simp [refI, h'] at h; split at h <;> simp_all
  intro i j hi hj hne ⟨e1, e2⟩
  have key : ∀ a b, a < n → b < a → px a = px b → py a = py b → False := by
    intro a b ha hb h1 h2
    have : twB px py n = true := (twB_iff px py n).2 ⟨a, ha, (twiceAt_iff px py a).2 ⟨b, hb, h1, h2⟩⟩
    rw [ht] at this
    cases this
  rcases Nat.lt_or_ge i j with h | h
  · exact key j i hj h e1.symm e2.symm
  · exact key i j hi (by omega) e1 e2

theorem refI_wide {px py : Nat → Int} {n : Nat} (h3 : 3 ≤ n) (h : refI px py n = 0) : ∃ i, i < n ∧ T px py 0 1 i ≠ 0 := by
  have hf : flatB px py (n - 2) = false := by
    cases h' : flatB px py (n - 2) with
    | false => rfl
    | true => simp [refI, h'] at h; split at h <;> (try split at h) <;> simp_all
  rcases Classical.em (∃ i, i < n ∧ T px py 0 1 i ≠ 0) with h1 | h1
  · exact h1
  · have : flatB px py (n - 2) = true := (flatB_iff px py (n - 2)).2 fun i hi => by
      rcases Classical.em (T px py 0 1 (i + 2) = 0) with h2 | h2
      · exact h2
      · exact absurd ⟨i + 2, by omega, h2⟩ h1
    rw [hf] at this
    cases this

end Go.Proofs.YtdbebbbceeopaaaGreat
