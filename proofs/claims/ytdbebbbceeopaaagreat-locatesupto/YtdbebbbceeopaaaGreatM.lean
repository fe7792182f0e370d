import Derived.Test.YtdbebbbceeopaaaGreatG
namespace Go.Proofs.YtdbebbbceeopaaaGreat
open Go.RowKit

theorem drew_more' {W wq : World} (h : ∃ q', wq = W.drewN q') (n : Nat) : ∃ q, wq.drewN n = W.drewN q := by
  obtain ⟨q', rfl⟩ := h
  exact ⟨_, drewN_drewN _ _ _⟩
end Go.Proofs.YtdbebbbceeopaaaGreat
