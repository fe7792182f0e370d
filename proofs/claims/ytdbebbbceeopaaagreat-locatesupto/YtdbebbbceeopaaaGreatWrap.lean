import Derived.Test.YtdbebbbceeopaaaGreatHul
set_option linter.unusedSimpArgs false
namespace Go.Proofs.YtdbebbbceeopaaaGreat.Geo
variable {px py : Nat → Int}

/-- On the way from a to b, and neither: as the document's answer asks it. -/
def Btw (px py : Nat → Int) (a b c : Nat) : Prop :=
  T px py a b c = 0 ∧ ¬ (px c = px a ∧ py c = py a) ∧ ¬ (px c = px b ∧ py c = py b) ∧ (px c - px a) * (px c - px b) ≤ 0 ∧ (py c - py a) * (py c - py b) ≤ 0

theorem sq_nonneg (x : Int) : 0 ≤ x * x := by
  rcases Int.le_total 0 x with h | h
  · exact Int.mul_nonneg h h
  · have := Int.mul_nonneg (a := -x) (b := -x) (by omega) (by omega)
    rwa [Int.neg_mul_neg] at this

theorem sign_of (α β u v : Int) (hα : 0 < α) (hβ : 0 ≤ β) (hle : β ≤ α) (h : α * v = β * u) : v * (v - u) ≤ 0 ∧ 0 ≤ u * (u - v) := by
  have e1 : α * (α * (v * (v - u))) = -(β * (α - β) * (u * u)) := by
    have : α * (α * (v * (v - u))) = (α * v) * (α * v) - α * ((α * v) * u) := by
      simp only [Int.mul_sub]
      simp only [Int.mul_assoc, Int.mul_comm, Int.mul_left_comm]
    rw [this, h]
    simp only [Int.mul_sub, Int.sub_mul]
    simp only [Int.mul_assoc, Int.mul_comm, Int.mul_left_comm]
    omega
  have e2 : α * (u * (u - v)) = (α - β) * (u * u) := by
    have : α * (u * (u - v)) = α * (u * u) - (α * v) * u := by
      simp only [Int.mul_sub]
      simp only [Int.mul_assoc, Int.mul_comm, Int.mul_left_comm]
    rw [this, h]
    simp only [Int.mul_sub, Int.sub_mul]
    simp only [Int.mul_assoc, Int.mul_comm, Int.mul_left_comm]
  have s := sq_nonneg u
  have p1 : 0 ≤ β * (α - β) * (u * u) := Int.mul_nonneg (Int.mul_nonneg hβ (by omega)) s
  have p2 : 0 ≤ (α - β) * (u * u) := Int.mul_nonneg (by omega) s
  constructor
  · by_cases hc : v * (v - u) ≤ 0
    · exact hc
    · have := Int.mul_pos hα (Int.mul_pos hα (show 0 < v * (v - u) by omega))
      omega
  · by_cases hc : 0 ≤ u * (u - v)
    · exact hc
    · have := Int.mul_pos hα (show 0 < -(u * (u - v)) by omega)
      rw [Int.mul_neg] at this
      omega

/-- What one step of the reference's walk around the hull sees: from corner a to corner b, the corner behind it c. -/
theorem step_near {n a b c d : Nat} (hb : b < n) (hd : d < n) (hside : ∀ p, p < n → 0 ≤ T px py a b p) (hside2 : ∀ p, p < n → 0 ≤ T px py b c p) (hc : c < n) (ht : 0 < T px py a b c)
    (hne : ∀ i j, i < n → j < n → i ≠ j → ¬ (px i = px j ∧ py i = py j)) (ha : a < n) (hda : d ≠ a) (hdb : d ≠ b) (hbord : ∀ p, p < n → 0 ≤ T px py a d p) :
    Btw px py a b d ∧ ¬ Btw px py a d b := by
  obtain ⟨ux, hux⟩ : ∃ x, x = px b - px a := ⟨_, rfl⟩
  obtain ⟨uy, huy⟩ : ∃ x, x = py b - py a := ⟨_, rfl⟩
  obtain ⟨vx, hvx⟩ : ∃ x, x = px d - px a := ⟨_, rfl⟩
  obtain ⟨vy, hvy⟩ : ∃ x, x = py d - py a := ⟨_, rfl⟩
  obtain ⟨wx, hwx⟩ : ∃ x, x = px c - px a := ⟨_, rfl⟩
  obtain ⟨wy, hwy⟩ : ∃ x, x = py c - py a := ⟨_, rfl⟩
  have t1 : T px py a b d = cr ux uy vx vy := by rw [T_cr, hux, huy, hvx, hvy]
  have t2 : T px py a d b = cr vx vy ux uy := by rw [T_cr, hux, huy, hvx, hvy]
  have t3 : T px py a b c = cr ux uy wx wy := by rw [T_cr, hux, huy, hwx, hwy]
  have t4 : T px py a d c = cr vx vy wx wy := by rw [T_cr, hvx, hvy, hwx, hwy]
  have z0 : cr ux uy vx vy = 0 := by
    have a1 := hside d hd
    have a2 := hbord b hb
    rw [t1] at a1
    rw [t2, cr_anti] at a2
    omega
  obtain ⟨α, hα⟩ : ∃ x, x = cr ux uy wx wy := ⟨_, rfl⟩
  obtain ⟨β, hβ⟩ : ∃ x, x = cr vx vy wx wy := ⟨_, rfl⟩
  have α0 : 0 < α := by rw [hα, ← t3]; exact ht
  have β0 : 0 ≤ β := by rw [hβ, ← t4]; exact hbord c hc
  have i1 := cr_id1 ux uy vx vy wx wy
  have i2 := cr_id2 ux uy vx vy wx wy
  rw [z0, ← hα, ← hβ] at i1 i2
  simp only [Int.zero_mul, Int.zero_add] at i1 i2
  have hle : β ≤ α := by
    have a1 := hside2 d hd
    have e : T px py b c d = α - β := by
      have e1 : T px py b c d = cr (wx - ux) (wy - uy) (vx - ux) (vy - uy) := by
        rw [T_cr, hux, huy, hvx, hvy, hwx, hwy]
        rw [show px c - px a - (px b - px a) = px c - px b by omega, show py c - py a - (py b - py a) = py c - py b by omega, show px d - px a - (px b - px a) = px d - px b by omega, show py d - py a - (py b - py a) = py d - py b by omega]
      rw [e1, hα, hβ]
      unfold cr at *
      simp only [Int.sub_mul, Int.mul_sub] at *
      simp only [Int.mul_comm] at *
      omega
    omega
  have sx := sign_of α β ux vx α0 β0 hle i1
  have sy := sign_of α β uy vy α0 β0 hle i2
  have nd := hne d a hd ha hda
  have nb := hne d b hd hb hdb
  have ex : px d - px b = vx - ux := by rw [hvx, hux]; omega
  have ey : py d - py b = vy - uy := by rw [hvy, huy]; omega
  refine ⟨⟨by rw [t1]; exact z0, nd, nb, by rw [ex, ← hvx]; exact sx.1, by rw [ey, ← hvy]; exact sy.1⟩, ?_⟩
  rintro ⟨_, k1, k2, k3, k4⟩
  rw [show px b - px d = ux - vx by omega, ← hux] at k3
  rw [show py b - py d = uy - vy by omega, ← huy] at k4
  have q1 : ux * (ux - vx) = 0 := by have := sx.2; omega
  have q2 : uy * (uy - vy) = 0 := by have := sy.2; omega
  -- then b is a, or d is b
  rcases Int.mul_eq_zero.1 q1 with e1 | e1
  · rcases Int.mul_eq_zero.1 q2 with e2 | e2
    · exact k1 ⟨by omega, by omega⟩
    · -- ux = 0, uy = vy, and uy not 0: then α = β, so vx = ux
      have : uy ≠ 0 := fun h => k1 ⟨by omega, by omega⟩
      rw [e1, Int.mul_zero] at i1
      rcases Int.mul_eq_zero.1 i1 with e3 | e3
      · omega
      · exact nb ⟨by omega, by omega⟩
  · rcases Int.mul_eq_zero.1 q2 with e2 | e2
    · have : ux ≠ 0 := fun h => k1 ⟨by omega, by omega⟩
      rw [e2, Int.mul_zero] at i2
      rcases Int.mul_eq_zero.1 i2 with e3 | e3
      · omega
      · exact nb ⟨by omega, by omega⟩
    · exact nb ⟨by omega, by omega⟩

end Go.Proofs.YtdbebbbceeopaaaGreat.Geo
