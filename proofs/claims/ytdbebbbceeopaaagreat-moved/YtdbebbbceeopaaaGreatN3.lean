import Derived.Test.YtdbebbbceeopaaaGreatN2
set_option linter.unusedSimpArgs false
namespace Go.Proofs.YtdbebbbceeopaaaGreat.Geo
variable {px py : Nat → Int} {n : Nat} {M : Nat → Nat → Option Nat}

/-- Above 0: d lies below the plane through a, b, c, each place lifted to its height. -/
def Wg (px py h : Nat → Int) (a b c d : Nat) : Int := (h a - h d) * T px py d b c + (h b - h d) * T px py d c a + (h c - h d) * T px py d a b

theorem Wg_lift (a b c d : Nat) : Wg px py (lift px py) a b c d = Wn px py a b c d := by unfold Wg Wn lift T tw sq; grind
theorem Wg_swap (h : Nat → Int) (a b c d : Nat) : Wg px py h b a d c = Wg px py h a b c d := by unfold Wg T tw; grind
theorem Wg_flip (h : Nat → Int) (a b c d : Nat) : Wg px py h c d b a = - Wg px py h a b c d := by unfold Wg T tw; grind
theorem Wg_flip' (h : Nat → Int) (a b c d : Nat) : Wg px py h d c a b = - Wg px py h a b c d := by unfold Wg T tw; grind

/-- Heights that a bowl has. -/
def Bowl (px py h : Nat → Int) : Prop := ∀ (a b c d : Nat) (P Q R : Int), 0 < P → 0 ≤ Q → 0 ≤ R → Q + R ≤ P → P * (px a - px d) = Q * (px b - px d) + R * (px c - px d) → P * (py a - py d) = Q * (py b - py d) + R * (py c - py d) →
  P * (h a - h d) ≤ Q * (h b - h d) + R * (h c - h d)

theorem bowl_lift : Bowl px py (lift px py) := by
  intro a b c d P Q R hP hQ hR hs e1 e2
  have := sq_conv P Q R (px a - px d) (py a - py d) (px b - px d) (py b - py d) (px c - px d) (py c - py d) hP hQ hR hs e1 e2
  have k : ∀ u, lift px py u - lift px py d = sq (px u - px d) (py u - py d) + 2 * (px d * (px u - px d) + py d * (py u - py d)) := fun u => by unfold lift sq; grind
  rw [k a, k b, k c]
  have l : P * (2 * (px d * (px a - px d) + py d * (py a - py d))) = Q * (2 * (px d * (px b - px d) + py d * (py b - py d))) + R * (2 * (px d * (px c - px d) + py d * (py c - py d))) := by
    have f1 : P * (2 * (px d * (px a - px d) + py d * (py a - py d))) = 2 * (px d * (P * (px a - px d)) + py d * (P * (py a - py d))) := by grind
    rw [f1, e1, e2]; grind
  simp only [Int.mul_add] at l ⊢
  omega

theorem flip_convexG1 {h : Nat → Int} (hb : Bowl px py h) {a b c d : Nat} (h1 : 0 < T px py a b c) (h2 : 0 < T px py b a d) (hw : 0 < Wg px py h a b c d) : 0 < T px py a d c := by
  rcases Int.lt_or_le 0 (T px py a d c) with g | g
  · exact g
  · exfalso
    have e1 := T_sum (px := px) (py := py) a b c d
    have e2 : T px py d a b = - T px py b a d := by rw [← T_cyc2 a b d, ← T_swap]
    have e3 : T px py d c a = T px py a d c := by rw [T_cyc a d c]
    have bx := T_bary_x (px := px) (py := py) a b c d
    have bya := T_bary_y (px := px) (py := py) a b c d
    have hP : 0 < T px py d b c := by omega
    have := hb a b c d (T px py d b c) (- T px py d c a) (- T px py d a b) hP (by omega) (by omega) (by omega)
      (by rw [Int.neg_mul, Int.neg_mul]; omega) (by rw [Int.neg_mul, Int.neg_mul]; omega)
    unfold Wg at hw
    rw [Int.neg_mul, Int.neg_mul] at this
    rw [Int.mul_comm (h a - h d) _, Int.mul_comm (h b - h d) _, Int.mul_comm (h c - h d) _] at hw
    omega

theorem flip_convexG2 {h : Nat → Int} (hb : Bowl px py h) {a b c d : Nat} (h1 : 0 < T px py a b c) (h2 : 0 < T px py b a d) (hw : 0 < Wg px py h a b c d) : 0 < T px py d b c := by
  have := flip_convexG1 (px := px) (py := py) hb h2 h1 (by rw [Wg_swap]; exact hw)
  rw [T_cyc d b c]
  exact this

theorem Mesh.quadG (hm : Mesh px py n M) {h : Nat → Int} (hb : Bowl px py h) {a b c d : Nat} (e1 : M a b = some c) (e2 : M b a = some d) (hw : 0 < Wg px py h a b c d) : Quad px py M a b c d :=
  hm.quadT e1 e2 (flip_convexG1 hb (hm.pos _ _ _ e1) (hm.pos _ _ _ e2) hw) (flip_convexG2 hb (hm.pos _ _ _ e1) (hm.pos _ _ _ e2) hw)

/-- Three times what is beneath the triangles. -/
def VolG (px py h : Nat → Int) (n : Nat) (M : Nat → Nat → Option Nat) : Int := Sd n M fun u v w => T px py u v w * h w

theorem volG_nonneg (hm : Mesh px py n M) {h : Nat → Int} (hh : ∀ i, 0 ≤ h i) : 0 ≤ VolG px py h n M := sm2_nonneg fun u v _ _ => by
  cases hv : M u v with
  | none => exact Int.le_refl _
  | some w => exact Int.mul_nonneg (Int.le_of_lt (hm.pos _ _ _ hv)) (hh w)

theorem flip_volG (h : Nat → Int) (a b c d : Nat) :
    T px py a b c * (h a + h b + h c) + T px py b a d * (h a + h b + h d) =
      T px py a d c * (h a + h d + h c) + T px py d b c * (h d + h b + h c) + Wg px py h a b c d := by
  unfold Wg T tw; grind

theorem flip_VolG (hm : Mesh px py n M) (h : Nat → Int) {a b c d : Nat} (q : Quad px py M a b c d) : VolG px py h n (flipM M a b c d) = VolG px py h n M - Wg px py h a b c d := by
  have := flip_sum hm q fun u v w => T px py u v w * h w
  have v := flip_volG (px := px) (py := py) h a b c d
  unfold VolG
  rw [T_cyc b c a, T_cyc c a b, T_cyc a d b, T_cyc d b a] at this
  rw [T_cyc d c a, T_cyc c a d, T_cyc b c d, T_cyc c d b] at this
  simp only [Int.mul_add] at v
  have c1 : T px py b a d = T px py a d b := T_cyc _ _ _
  have c2 : T px py a d b = T px py d b a := T_cyc _ _ _
  have c3 : T px py a b c = T px py b c a := T_cyc _ _ _
  have c4 : T px py b c a = T px py c a b := T_cyc _ _ _
  have c5 : T px py a d c = T px py d c a := T_cyc _ _ _
  have c6 : T px py d c a = T px py c a d := T_cyc _ _ _
  have c7 : T px py d b c = T px py b c d := T_cyc _ _ _
  have c8 : T px py b c d = T px py c d b := T_cyc _ _ _
  grind

/-- Is a side wrong: it may be turned over (ok), and its two triangles are folded upward? -/
def bad (px py : Nat → Int) (ok : Nat → Nat → Bool) (h : Nat → Int) (M : Nat → Nat → Option Nat) (u v : Nat) : Bool :=
  ok u v && match M u v, M v u with
  | some c, some d => decide (0 < Wg px py h u v c d)
  | _, _ => false

theorem bad_inv {ok : Nat → Nat → Bool} {h : Nat → Int} {u v : Nat} (hb : bad px py ok h M u v = true) : ok u v = true ∧ ∃ c d, M u v = some c ∧ M v u = some d ∧ 0 < Wg px py h u v c d := by
  unfold bad at hb
  rw [Bool.and_eq_true] at hb
  refine ⟨hb.1, ?_⟩
  have h2 := hb.2
  split at h2
  · rename_i c d e1 e2
    exact ⟨c, d, e1, e2, of_decide_eq_true h2⟩
  · cases h2

theorem bad_of {ok : Nat → Nat → Bool} {h : Nat → Int} {u v c d : Nat} (k : ok u v = true) (e1 : M u v = some c) (e2 : M v u = some d) (hw : 0 < Wg px py h u v c d) : bad px py ok h M u v = true := by
  unfold bad
  rw [e1, e2, k]
  simp [hw]

theorem bad_back {ok : Nat → Nat → Bool} (hs : ∀ u v, ok u v = ok v u) {h : Nat → Int} (u v : Nat) : bad px py ok h M u v = bad px py ok h M v u := by
  unfold bad
  rw [hs u v]
  cases M u v <;> cases M v u <;> simp [Wg_swap]

theorem bad_congr {ok : Nat → Nat → Bool} {h : Nat → Int} {M' : Nat → Nat → Option Nat} {u v : Nat} (e1 : M' u v = M u v) (e2 : M' v u = M v u) : bad px py ok h M' u v = bad px py ok h M u v := by
  unfold bad; rw [e1, e2]

/-- All wrong sides wait. -/
def Waits (px py : Nat → Int) (ok : Nat → Nat → Bool) (h : Nat → Int) (M : Nat → Nat → Option Nat) (l : List (Nat × Nat)) : Prop := ∀ u v, u < v → bad px py ok h M u v = true → (u, v) ∈ l

theorem flip_other {a b c d u v : Nat} (k : ¬ ((u = a ∧ v = b) ∨ (u = b ∧ v = a) ∨ (u = b ∧ v = c) ∨ (u = c ∧ v = a) ∨ (u = a ∧ v = d) ∨ (u = d ∧ v = b) ∨ (u = c ∧ v = d) ∨ (u = d ∧ v = c))) : flipM M a b c d u v = M u v := by
  unfold flipM
  rw [if_neg (by omega), if_neg (by omega), if_neg (by omega), if_neg (by omega), if_neg (by omega), if_neg (by omega), if_neg (by omega)]

def up (u v : Nat) : Nat × Nat := (min u v, max u v)

theorem Waits.flip {ok : Nat → Nat → Bool} {h : Nat → Int} {l l' : List (Nat × Nat)} {a b c d : Nat} (hW : Waits px py ok h M l) (q : Quad px py M a b c d) (hw : 0 < Wg px py h a b c d)
    (hl : ∀ x ∈ l, x = up a b ∨ x ∈ l') (h1 : up a d ∈ l') (h2 : up d b ∈ l') (h3 : up b c ∈ l') (h4 : up c a ∈ l') : Waits px py ok h (flipM M a b c d) l' := by
  intro u v huv hbad
  have e : up u v = (u, v) := by unfold up; rw [Nat.min_eq_left (by omega), Nat.max_eq_right (by omega)]
  have es : ∀ x y, up x y = up y x := fun x y => by unfold up; rw [Nat.min_comm, Nat.max_comm]
  have e' : up v u = (u, v) := by rw [es]; exact e
  obtain ⟨q1, q2, q3, q4, q5, q6, q7, q8, n1, n2, n3, n4, n5, n6, _, _⟩ := q
  by_cases k1 : (u = a ∧ v = d) ∨ (u = d ∧ v = a)
  · rcases k1 with ⟨rfl, rfl⟩ | ⟨rfl, rfl⟩
    · rw [← e]; exact h1
    · rw [← e']; exact h1
  by_cases k2 : (u = d ∧ v = b) ∨ (u = b ∧ v = d)
  · rcases k2 with ⟨rfl, rfl⟩ | ⟨rfl, rfl⟩
    · rw [← e]; exact h2
    · rw [← e']; exact h2
  by_cases k3 : (u = b ∧ v = c) ∨ (u = c ∧ v = b)
  · rcases k3 with ⟨rfl, rfl⟩ | ⟨rfl, rfl⟩
    · rw [← e]; exact h3
    · rw [← e']; exact h3
  by_cases k4 : (u = c ∧ v = a) ∨ (u = a ∧ v = c)
  · rcases k4 with ⟨rfl, rfl⟩ | ⟨rfl, rfl⟩
    · rw [← e]; exact h4
    · rw [← e']; exact h4
  obtain ⟨_, c', d', f1, f2, f3⟩ := bad_inv hbad
  by_cases k5 : (u = a ∧ v = b) ∨ (u = b ∧ v = a)
  · rcases k5 with ⟨rfl, rfl⟩ | ⟨rfl, rfl⟩
    · unfold flipM at f1; simp at f1
    · unfold flipM at f1; simp at f1
  by_cases k6 : u = c ∧ v = d
  · obtain ⟨rfl, rfl⟩ := k6
    have g1 : flipM M a b u v u v = some b := by unfold flipM; simp [*, Ne.symm n1, Ne.symm n2, Ne.symm n3, Ne.symm n4, Ne.symm n5, Ne.symm n6]
    have g2 : flipM M a b u v v u = some a := by unfold flipM; simp [*, Ne.symm n1, Ne.symm n2, Ne.symm n3, Ne.symm n4, Ne.symm n5, Ne.symm n6]
    rw [g1] at f1
    rw [g2] at f2
    cases f1; cases f2
    rw [Wg_flip] at f3
    omega
  by_cases k7 : u = d ∧ v = c
  · obtain ⟨rfl, rfl⟩ := k7
    have g1 : flipM M a b v u v u = some b := by unfold flipM; simp [*, Ne.symm n1, Ne.symm n2, Ne.symm n3, Ne.symm n4, Ne.symm n5, Ne.symm n6]
    have g2 : flipM M a b v u u v = some a := by unfold flipM; simp [*, Ne.symm n1, Ne.symm n2, Ne.symm n3, Ne.symm n4, Ne.symm n5, Ne.symm n6]
    rw [g2] at f1
    rw [g1] at f2
    cases f1; cases f2
    rw [Wg_flip'] at f3
    omega
  have m1 : flipM M a b c d u v = M u v := flip_other (by rintro (g | g | g | g | g | g | g | g) <;> first | exact k5 (.inl g) | exact k5 (.inr g) | exact k3 (.inl g) | exact k4 (.inl g) | exact k1 (.inl g) | exact k2 (.inl g) | exact k6 g | exact k7 g)
  have m2 : flipM M a b c d v u = M v u := flip_other (by rintro (g | g | g | g | g | g | g | g) <;> first | exact k5 (.inr ⟨g.2, g.1⟩) | exact k5 (.inl ⟨g.2, g.1⟩) | exact k3 (.inr ⟨g.2, g.1⟩) | exact k4 (.inr ⟨g.2, g.1⟩) | exact k1 (.inr ⟨g.2, g.1⟩) | exact k2 (.inr ⟨g.2, g.1⟩) | exact k7 ⟨g.2, g.1⟩ | exact k6 ⟨g.2, g.1⟩)
  have hin := hW u v huv (by rw [← bad_congr m1 m2]; exact hbad)
  rcases hl _ hin with k | k
  · exfalso
    unfold up at k
    simp only [Prod.mk.injEq] at k
    rcases Nat.le_total a b with g | g
    · rw [Nat.min_eq_left g, Nat.max_eq_right g] at k; exact k5 (.inl k)
    · rw [Nat.min_eq_right g, Nat.max_eq_left g] at k; exact k5 (.inr k)
  · exact k

/-- Where nothing waits, no side is wrong. -/
theorem Waits.done {ok : Nat → Nat → Bool} (hs : ∀ u v, ok u v = ok v u) {h : Nat → Int} (hm : Mesh px py n M) (hW : Waits px py ok h M []) : ∀ u v, bad px py ok h M u v = false := by
  intro u v
  cases hb : bad px py ok h M u v with
  | false => rfl
  | true =>
    obtain ⟨_, c, d, e1, _, _⟩ := bad_inv hb
    have := T_ne12 (hm.pos _ _ _ e1)
    rcases Nat.lt_or_ge u v with k | k
    · cases hW u v k hb
    · rw [bad_back hs] at hb
      cases hW v u (by omega) hb
end Go.Proofs.YtdbebbbceeopaaaGreat.Geo

set_option linter.unusedSimpArgs false
namespace Go.Proofs.YtdbebbbceeopaaaGreat.Geo
variable {px py : Nat → Int} {n : Nat} {M : Nat → Nat → Option Nat} {X Y W : Int}

theorem Wg_step (hgt : Nat → Int) (a b c d p : Nat) : Wg px py hgt b a d p * T px py a b c = Wg px py hgt a b c p * T px py b a d - Wg px py hgt a b c d * T px py b a p := by
  unfold Wg T tw; grind

theorem Wg_self {hgt : Nat → Int} (a b p : Nat) : Wg px py hgt a b p p = 0 := by unfold Wg T tw; grind
theorem Wg_cyc {hgt : Nat → Int} (a b c d : Nat) : Wg px py hgt a b c d = Wg px py hgt b c a d := by unfold Wg; omega

/-- The way leaves a triangle over this side. -/
structure StG (px py hgt : Nat → Int) (M : Nat → Nat → Option Nat) (X Y W : Int) (p : Nat) (N0 D0 : Int) (a b : Nat) : Prop where
  tri : ∃ c, M a b = some c ∧ N0 * T px py a b c ≤ Wg px py hgt a b c p * D0
  q : 0 < TQ px py X Y W a b
  r : T px py a b p < 0
  sa : TQ px py X Y W p a < 0
  sb : 0 < TQ px py X Y W p b

theorem st_stepG {hgt : Nat → Int} (h : Mesh px py n M) (hi : Inj px py n) (hc : Cor n M) (hW : 0 < W) {p : Nat} (hp : p < n) {N0 D0 : Int} (hD : 0 < D0) (hN : 0 < N0)
    {a b : Nat} (s : StG px py hgt M X Y W p N0 D0 a b) (hl : ∀ c d, M a b = some c → M b a = some d → Wg px py hgt a b c d ≤ 0) (hg : ∀ d, M b a = some d → d ≠ p → TQ px py X Y W p d ≠ 0) :
    ∃ a' b', StG px py hgt M X Y W p N0 D0 a' b' ∧ TQ px py X Y W a b * (TQ px py X Y W p b' - TQ px py X Y W p a') < TQ px py X Y W a' b' * (TQ px py X Y W p b - TQ px py X Y W p a) := by
  obtain ⟨⟨c, e, hf⟩, q, r, sa, sb⟩ := s
  cases hm : M b a with
  | none => have := h.bor _ _ _ e hm p hp; omega
  | some d =>
    have t1 := h.pos _ _ _ e
    have t2 := h.pos _ _ _ hm
    have r' : 0 < T px py b a p := by rw [T_swap]; omega
    have hw := hl c d e hm
    have st := Wg_step (px := px) (py := py) hgt a b c d p
    have hw2 : Wg px py hgt a b c d * T px py b a p ≤ 0 := Int.mul_nonpos_of_nonpos_of_nonneg hw (by omega)
    by_cases hd : d = p
    · exfalso
      subst hd
      rw [Wg_self] at st
      have z : Wg px py hgt a b c d * T px py b a d ≤ 0 := by omega
      have : Wg px py hgt a b c d ≤ 0 := hw
      have g1 : Wg px py hgt a b c d * D0 ≤ 0 := Int.mul_nonpos_of_nonpos_of_nonneg hw (by omega)
      have g2 := Int.mul_pos hN t1
      omega
    · have gd := hg d hm hd
      have ad := h.cyc _ _ _ hm
      have db := h.cyc _ _ _ ad
      -- f grows
      have hf' : N0 * T px py b a d ≤ Wg px py hgt b a d p * D0 := by
        have g1 : Wg px py hgt a b c p * T px py b a d ≤ Wg px py hgt b a d p * T px py a b c := by omega
        exact frac_tr hD t1 t2 hf g1
      have sum := TQ_sum (px := px) (py := py) (X := X) (Y := Y) (W := W) b a d
      have plu := TQ_plu (px := px) (py := py) (X := X) (Y := Y) (W := W) p a b d
      have hWT := Int.mul_pos hW t2
      have sw1 := TQ_swap (px := px) (py := py) (X := X) (Y := Y) (W := W) a b
      have sw2 := TQ_swap (px := px) (py := py) (X := X) (Y := Y) (W := W) b d
      have sw3 := TQ_swap (px := px) (py := py) (X := X) (Y := Y) (W := W) a d
      have pab := TQ_p (px := px) (py := py) (X := X) (Y := Y) (W := W) a b p
      have pad := TQ_p (px := px) (py := py) (X := X) (Y := Y) (W := W) a d p
      have pdb := TQ_p (px := px) (py := py) (X := X) (Y := Y) (W := W) d b p
      have rr : W * T px py a b p < 0 := Int.mul_neg_of_pos_of_neg hW r
      have emp := h.empty hi hc hm hp (by omega)
      have ne1 : p ≠ a := fun e => by subst e; rw [T_two] at r'; omega
      have ne2 : p ≠ b := fun e => by subst e; rw [T_one] at r'; omega
      rcases Int.lt_or_gt_of_ne gd with g | g
      · -- over the side from d to b
        have q' : 0 < TQ px py X Y W d b := by
          rcases Int.lt_or_le 0 (TQ px py X Y W d b) with k | k
          · exact k
          · exfalso
            -- then a d turns left as seen from the place, and more than that
            have k1 : 0 < TQ px py X Y W a d := by omega
            have m1 : TQ px py X Y W p a * TQ px py X Y W b d ≤ 0 := Int.mul_nonpos_of_nonpos_of_nonneg (by omega) (by omega)
            have m2 : TQ px py X Y W p b * TQ px py X Y W d a < 0 := Int.mul_neg_of_pos_of_neg sb (by omega)
            have m3 : TQ px py X Y W p d * TQ px py X Y W a b < 0 := Int.mul_neg_of_neg_of_pos g q
            omega
        have rn : T px py d b p < 0 := by
          rcases Int.lt_or_le (T px py d b p) 0 with k | k
          · exact k
          · exfalso
            have k' : 0 ≤ W * T px py d b p := Int.mul_nonneg (by omega) k
            -- then p lies in the triangle
            have ka : 0 ≤ T px py a d p := by
              refine nonneg_of_mul hW ?_
              rcases Int.lt_or_le (TQ px py X Y W p a) (TQ px py X Y W p d) with m | m
              · have pp := TQ_plu (px := px) (py := py) (X := W * px p) (Y := W * py p) (W := W) p a b d
                -- the turns as seen from p
                have u1 : T px py a b p * TQ px py X Y W p d + T px py b d p * TQ px py X Y W p a + T px py d a p * TQ px py X Y W p b = 0 := by unfold TQ T tw; grind
                have v1 : T px py b d p = - T px py d b p := T_swap _ _ _
                have v2 : T px py d a p = - T px py a d p := T_swap _ _ _
                rw [v1, v2] at u1
                have w1 : 0 < T px py a b p * TQ px py X Y W p d := Int.mul_pos_of_neg_of_neg r g
                have w2 : T px py d b p * TQ px py X Y W p a ≤ 0 := Int.mul_nonpos_of_nonneg_of_nonpos k (by omega)
                have w3 : 0 < TQ px py X Y W p b * T px py a d p := by rw [Int.mul_comm]; rw [Int.neg_mul, Int.neg_mul] at u1; omega
                have := pos_of_mul sb w3
                exact Int.mul_nonneg (by omega) (by omega)
              · have u1 : T px py a b p * TQ px py X Y W p d + T px py b d p * TQ px py X Y W p a + T px py d a p * TQ px py X Y W p b = 0 := by unfold TQ T tw; grind
                have v1 : T px py b d p = - T px py d b p := T_swap _ _ _
                have v2 : T px py d a p = - T px py a d p := T_swap _ _ _
                rw [v1, v2] at u1
                have w1 : 0 < T px py a b p * TQ px py X Y W p d := Int.mul_pos_of_neg_of_neg r g
                have w2 : T px py d b p * TQ px py X Y W p a ≤ 0 := Int.mul_nonpos_of_nonneg_of_nonpos k (by omega)
                have w3 : 0 < TQ px py X Y W p b * T px py a d p := by rw [Int.mul_comm]; rw [Int.neg_mul, Int.neg_mul] at u1; omega
                have := pos_of_mul sb w3
                exact Int.mul_nonneg (by omega) (by omega)
            rcases emp ka k with k2 | k2 | k2
            · exact ne2 k2
            · exact ne1 k2
            · exact hd k2.symm
        refine ⟨d, b, ⟨⟨a, db, ?_⟩, q', rn, g, sb⟩, ?_⟩
        · rw [T_cyc d b a, Wg_cyc d b a]; exact hf'
        · have key : TQ px py X Y W d b * (TQ px py X Y W p b - TQ px py X Y W p a) - TQ px py X Y W a b * (TQ px py X Y W p b - TQ px py X Y W p d) = TQ px py X Y W p b * (W * T px py b a d) := by
            rw [← sum, sw1]; unfold TQ; grind
          have := Int.mul_pos sb hWT
          omega
      · -- over the side from a to d
        have q' : 0 < TQ px py X Y W a d := by
          rcases Int.lt_or_le 0 (TQ px py X Y W a d) with k | k
          · exact k
          · exfalso
            have k1 : 0 < TQ px py X Y W d b := by omega
            have m1 : 0 < TQ px py X Y W p a * TQ px py X Y W b d := Int.mul_pos_of_neg_of_neg sa (by omega)
            have m2 : 0 ≤ TQ px py X Y W p b * TQ px py X Y W d a := Int.mul_nonneg (by omega) (by omega)
            have m3 : 0 < TQ px py X Y W p d * TQ px py X Y W a b := Int.mul_pos g q
            omega
        have rn : T px py a d p < 0 := by
          rcases Int.lt_or_le (T px py a d p) 0 with k | k
          · exact k
          · exfalso
            have kb : 0 ≤ T px py d b p := by
              have u1 : T px py a b p * TQ px py X Y W p d + T px py b d p * TQ px py X Y W p a + T px py d a p * TQ px py X Y W p b = 0 := by unfold TQ T tw; grind
              have v1 : T px py b d p = - T px py d b p := T_swap _ _ _
              have v2 : T px py d a p = - T px py a d p := T_swap _ _ _
              rw [v1, v2] at u1
              have w1 : T px py a b p * TQ px py X Y W p d < 0 := Int.mul_neg_of_neg_of_pos r g
              have w2 : 0 ≤ T px py a d p * TQ px py X Y W p b := Int.mul_nonneg k (by omega)
              have w3 : 0 < (- TQ px py X Y W p a) * T px py d b p := by
                rw [Int.neg_mul, Int.mul_comm]
                rw [Int.neg_mul, Int.neg_mul] at u1; omega
              have := pos_of_mul (show 0 < - TQ px py X Y W p a by omega) w3
              omega
            rcases emp k kb with k2 | k2 | k2
            · exact ne2 k2
            · exact ne1 k2
            · exact hd k2.symm
        refine ⟨a, d, ⟨⟨b, ad, ?_⟩, q', rn, sa, g⟩, ?_⟩
        · rw [← T_cyc b a d, ← Wg_cyc b a d]; exact hf'
        · have key : TQ px py X Y W a d * (TQ px py X Y W p b - TQ px py X Y W p a) - TQ px py X Y W a b * (TQ px py X Y W p d - TQ px py X Y W p a) = - TQ px py X Y W p a * (W * T px py b a d) := by
            rw [← sum, sw1]; unfold TQ; grind
          have := Int.mul_pos (show 0 < - TQ px py X Y W p a by omega) hWT
          omega

/-- How far two ways from a place go along one another. -/
def dt (px py : Nat → Int) (i a b : Nat) : Int := (px a - px i) * (px b - px i) + (py a - py i) * (py b - py i)

theorem dt_id (i x y j : Nat) : dt px py i y j * T px py i x j - dt px py i x j * T px py i y j = dt px py i j j * T px py i x y := by unfold dt T tw; grind

theorem dt_pos (hi : Inj px py n) {i j : Nat} (h1 : i < n) (h2 : j < n) (hne : i ≠ j) : 0 < dt px py i j j := by
  have a := mul_self_nonneg' (px j - px i)
  have b := mul_self_nonneg' (py j - py i)
  rcases Int.lt_or_le 0 (dt px py i j j) with k | k
  · exact k
  · exfalso
    unfold dt at k
    have z1 : (px j - px i) * (px j - px i) = 0 := by omega
    have z2 : (py j - py i) * (py j - py i) = 0 := by omega
    have z1' := Int.mul_eq_zero.1 z1
    have z2' := Int.mul_eq_zero.1 z2
    exact hne (hi i j h1 h2 (by omega) (by omega))

/-- Around a point that is a corner there is a triangle in the direction of each other point. -/
theorem Mesh.star (h : Mesh px py n M) (hi : Inj px py n) (hc : Cor n M) {i j : Nat} (h1 : i < n) (h2 : j < n) (hne : i ≠ j) :
    ∃ x y, M i x = some y ∧ 0 ≤ T px py i x j ∧ 0 ≤ T px py i j y := by
  have L := dt_pos hi h1 h2 hne
  have bord : ∀ x y, M i x = some y → T px py i j y < 0 → ∃ z, M i y = some z := by
    intro x y e k
    cases hm : M i y with
    | some z => exact ⟨z, rfl⟩
    | none =>
      have := h.bor y i x (h.cyc _ _ _ (h.cyc _ _ _ e)) hm j h2
      rw [T_cyc] at this
      omega
  by_cases A : ∃ x y, M i x = some y ∧ 0 < T px py i x j
  · obtain ⟨x0, y0, e0, k0⟩ := A
    obtain ⟨x, ⟨y, e, k⟩, hm⟩ := max_list (fun x => ∃ y, M i x = some y ∧ 0 < T px py i x j) (fun x => dt px py i x j) (fun x => T px py i x j) (fun x hx => by obtain ⟨_, _, k⟩ := hx; exact k) (List.range n)
      ⟨x0, by simp only [List.mem_range]; exact (h.lts e0).2.1, y0, e0, k0⟩
    rcases Int.lt_or_le (T px py i j y) 0 with g | g
    · exfalso
      obtain ⟨z, hz⟩ := bord x y e g
      have t1 : T px py i y j = - T px py i j y := by unfold T tw; grind
      have g' : 0 < T px py i y j := by omega
      have := hm y (by simp only [List.mem_range]; exact (h.lts hz).2.1) ⟨z, hz, g'⟩
      have id := dt_id (px := px) (py := py) i x y j
      have := Int.mul_pos L (h.pos _ _ _ e)
      omega
    · exact ⟨x, y, e, Int.le_of_lt k, g⟩
  · by_cases B : ∃ x y, M i x = some y ∧ T px py i x j < 0
    · obtain ⟨x0, y0, e0, k0⟩ := B
      obtain ⟨x, ⟨y, e, k⟩, hm⟩ := max_list (fun x => ∃ y, M i x = some y ∧ T px py i x j < 0) (fun x => dt px py i x j) (fun x => - T px py i x j) (fun x hx => by obtain ⟨_, _, k⟩ := hx; omega) (List.range n)
        ⟨x0, by simp only [List.mem_range]; exact (h.lts e0).2.1, y0, e0, k0⟩
      cases hx : M x i with
      | none => have := h.bor i x y e hx j h2; omega
      | some z =>
        have ez := h.cyc _ _ _ hx
        have t1 : T px py i j x = - T px py i x j := by unfold T tw; grind
        rcases Int.lt_or_le (T px py i z j) 0 with g | g
        · exfalso
          have := hm z (by simp only [List.mem_range]; exact (h.lts ez).2.1) ⟨x, ez, g⟩
          have id := dt_id (px := px) (py := py) i z x j
          have := Int.mul_pos L (h.pos _ _ _ ez)
          simp only [Int.mul_neg] at *
          omega
        · exact ⟨z, x, ez, g, by omega⟩
    · obtain ⟨x, y, e⟩ := hc i h1
      rcases Int.lt_or_le (T px py i j y) 0 with g | g
      · exfalso
        obtain ⟨z, hz⟩ := bord x y e g
        have g' : T px py i y j = - T px py i j y := by unfold T tw; grind
        exact A ⟨y, z, hz, by omega⟩
      · refine ⟨x, y, e, ?_, g⟩
        rcases Int.lt_or_le (T px py i x j) 0 with k | k
        · exact absurd ⟨x, y, e, k⟩ B
        · exact k

theorem par_x (i j d : Nat) : dt px py i j j * (px d - px i) = dt px py i d j * (px j - px i) - (py j - py i) * T px py i j d := by unfold dt T tw; grind
theorem par_y (i j d : Nat) : dt px py i j j * (py d - py i) = dt px py i d j * (py j - py i) + (px j - px i) * T px py i j d := by unfold dt T tw; grind

section
variable {i j d : Nat}

theorem lin (h0 : T px py i j d = 0) (u v : Nat) : dt px py i j j * T px py u v d = dt px py i j j * T px py u v i + dt px py i d j * (T px py u v j - T px py u v i) := by
  have x := par_x (px := px) (py := py) i j d
  have y := par_y (px := px) (py := py) i j d
  rw [h0] at x y
  have e : dt px py i j j * T px py u v d = dt px py i j j * T px py u v i + (px v - px u) * (dt px py i j j * (py d - py i)) - (py v - py u) * (dt px py i j j * (px d - px i)) := by unfold T tw; grind
  rw [e, x, y]
  unfold T tw; grind

theorem dot_on (h0 : T px py i j d = 0) : dt px py i j j * dt px py d i j = dt px py i d j * (dt px py i d j - dt px py i j j) := by
  have x := par_x (px := px) (py := py) i j d
  have y := par_y (px := px) (py := py) i j d
  rw [h0] at x y
  have e : dt px py i j j * dt px py d i j = (dt px py i j j * (px d - px i)) * (px d - px i) + (dt px py i j j * (py d - py i)) * (py d - py i) - dt px py i j j * dt px py i d j := by unfold dt; grind
  rw [e, x, y]
  have f : dt px py i d j = (px d - px i) * (px j - px i) + (py d - py i) * (py j - py i) := rfl
  grind

/-- A point on the line ahead that is not between: it lies beyond. -/
theorem beyond (h0 : T px py i j d = 0) (hi : Inj px py n) (h1 : i < n) (h2 : j < n) (h3 : d < n) (hne : i ≠ j) (hd : d ≠ j) (hb : ¬ dt px py d i j < 0) (hk : 0 < dt px py i d j) : dt px py i j j < dt px py i d j := by
  have L := dt_pos hi h1 h2 hne
  have e := dot_on h0
  have a : 0 ≤ dt px py i j j * dt px py d i j := Int.mul_nonneg (by omega) (by omega)
  rw [e] at a
  have b := nonneg_of_mul hk a
  rcases Int.lt_or_eq_of_le (show dt px py i j j ≤ dt px py i d j by omega) with k | k
  · exact k
  · exfalso
    have x := par_x (px := px) (py := py) i j d
    have y := par_y (px := px) (py := py) i j d
    rw [h0, ← k] at x y
    have x' : px d - px i = px j - px i := Int.eq_of_mul_eq_mul_left (show dt px py i j j ≠ 0 by omega) (by omega)
    have y' : py d - py i = py j - py i := Int.eq_of_mul_eq_mul_left (show dt px py i j j ≠ 0 by omega) (by omega)
    exact hd (hi d j h3 h2 (by omega) (by omega))
end

theorem T_111 (a b : Nat) : T px py a b a = 0 := by unfold T tw; grind
theorem T_122 (a b : Nat) : T px py a b b = 0 := by unfold T tw; grind
theorem T_132 (a b c : Nat) : T px py a c b = - T px py a b c := by unfold T tw; grind

/-- A line that no point lies on, and at which no side that crosses it is folded upward, if all are lifted by how far they lie from it, is a side. -/
theorem Mesh.line (h : Mesh px py n M) (hi : Inj px py n) (hc : Cor n M) {i j : Nat} (h1 : i < n) (h2 : j < n) (hne : i ≠ j)
    (hb : ∀ d, d < n → T px py i j d = 0 → ¬ dt px py d i j < 0)
    (hl : ∀ a b c d, M a b = some c → M b a = some d → T px py i j a < 0 → 0 < T px py i j b → 0 < T px py a b i → T px py a b j < 0 → Wg px py (fun u => ((T px py i j u).natAbs : Int)) a b c d ≤ 0) :
    (∃ c, M i j = some c) ∨ ∃ c, M j i = some c := by
  have L := dt_pos hi h1 h2 hne
  obtain ⟨x, y, e, t1, t2⟩ := h.star hi hc h1 h2 hne
  have lx := h.lts e
  have pe := h.pos _ _ _ e
  have exy := h.cyc _ _ _ e
  have eyi := h.cyc _ _ _ exy
  have pxy : T px py x y i = T px py i x y := by rw [T_cyc i x y]
  have cyc2 : T px py y i j = T px py i j y := T_cyc _ _ _
  have emp := h.empty hi hc e h2 t1
  rw [cyc2] at emp
  by_cases z1 : T px py i x j = 0
  · by_cases hx : x = j
    · exact .inl ⟨y, hx ▸ e⟩
    · exfalso
      have z : T px py i j x = 0 := by rw [T_132]; omega
      have l1 := lin z i y
      rw [T_111, T_132 i x y, T_132 i j y] at l1
      have k : 0 < dt px py i x j := by
        have a : 0 < dt px py i j j * T px py i x y := Int.mul_pos L pe
        rw [Int.mul_neg, Int.mul_zero] at l1
        rcases Int.lt_or_le 0 (dt px py i x j) with g | g
        · exact g
        · have := Int.mul_nonpos_of_nonpos_of_nonneg g t2
          have f : dt px py i x j * (-T px py i j y - 0) = - (dt px py i x j * T px py i j y) := by grind
          omega
      have bq := beyond z hi h1 h2 lx.2.1 hne hx (hb x lx.2.1 z) k
      have l2 := lin z x y
      rw [T_111] at l2
      have f : dt px py i x j * T px py x y j = (dt px py i x j - dt px py i j j) * T px py x y i := by grind
      have g : 0 < T px py x y j := by
        refine pos_of_mul k ?_
        rw [f]; exact Int.mul_pos (by omega) (by omega)
      rcases emp (by omega) t2 with q | q | q
      · exact hne q.symm
      · exact hx q.symm
      · subst q; rw [T_122] at g; omega
  · by_cases z2 : T px py i j y = 0
    · by_cases hy : y = j
      · exact .inr ⟨x, hy ▸ eyi⟩
      · exfalso
        have l1 := lin z2 i x
        rw [T_111] at l1
        have k : 0 < dt px py i y j := by
          have a : 0 < dt px py i j j * T px py i x y := Int.mul_pos L pe
          rw [Int.mul_zero] at l1
          rcases Int.lt_or_le 0 (dt px py i y j) with g | g
          · exact g
          · have := Int.mul_nonpos_of_nonpos_of_nonneg g t1
            have f : dt px py i y j * (T px py i x j - 0) = dt px py i y j * T px py i x j := by grind
            omega
        have bq := beyond z2 hi h1 h2 lx.2.2 hne hy (hb y lx.2.2 z2) k
        have l2 := lin z2 x y
        rw [T_122] at l2
        have f : dt px py i y j * T px py x y j = (dt px py i y j - dt px py i j j) * T px py x y i := by grind
        have g : 0 < T px py x y j := by
          refine pos_of_mul k ?_
          rw [f]; exact Int.mul_pos (by omega) (by omega)
        rcases emp (by omega) t2 with q | q | q
        · exact hne q.symm
        · subst q; rw [T_111] at g; omega
        · exact hy q.symm
    · exfalso
      have r : T px py x y j < 0 := by
        rcases Int.lt_or_le (T px py x y j) 0 with g | g
        · exact g
        · exfalso
          rcases emp g t2 with q | q | q
          · exact hne q.symm
          · subst q; rw [T_122] at z1; exact z1 rfl
          · subst q; rw [T_122] at z2; exact z2 rfl
      have e1 : ∀ a b, TQ px py (px i) (py i) 1 a b = T px py a b i := fun a b => by unfold TQ T tw; grind
      have e2 : ∀ a, TQ px py (px i) (py i) 1 j a = T px py i j a := fun a => by unfold TQ T tw; grind
      have hix : T px py i j x < 0 := by rw [T_132]; omega
      have hiy : 0 < T px py i j y := by omega
      have hN : 0 < Wg px py (fun u => ((T px py i j u).natAbs : Int)) x y i j := by
        have f : Wg px py (fun u => ((T px py i j u).natAbs : Int)) x y i j = ((T px py i j x).natAbs : Int) * T px py i j y + ((T px py i j y).natAbs : Int) * T px py i x j := by
          unfold Wg
          dsimp only
          rw [T_122, T_111, T_cyc j y i, T_cyc y i j, T_cyc j i x]
          simp
        rw [f]
        have a := Int.mul_pos (show 0 < ((T px py i j x).natAbs : Int) by omega) hiy
        have b := Int.mul_pos (show 0 < ((T px py i j y).natAbs : Int) by omega) (show 0 < T px py i x j by omega)
        omega
      have hD : 0 < T px py x y i := by omega
      have first : StG px py (fun u => ((T px py i j u).natAbs : Int)) M (px i) (py i) 1 j (Wg px py (fun u => ((T px py i j u).natAbs : Int)) x y i j) (T px py x y i) x y :=
        ⟨⟨i, exy, Int.le_refl _⟩, by rw [e1]; omega, r, by rw [e2]; exact hix, by rw [e2]; exact hiy⟩
      obtain ⟨u, v, s, hm⟩ := max_pair (n := n) (StG px py (fun u => ((T px py i j u).natAbs : Int)) M (px i) (py i) 1 j (Wg px py (fun u => ((T px py i j u).natAbs : Int)) x y i j) (T px py x y i)) (fun u v => TQ px py (px i) (py i) 1 u v) (fun u v => TQ px py (px i) (py i) 1 j v - TQ px py (px i) (py i) 1 j u)
        (fun u v s => by have := s.sa; have := s.sb; omega) (fun u v s => by obtain ⟨w, hw, _⟩ := s.tri; exact ⟨(h.lts hw).1, (h.lts hw).2.1⟩) ⟨x, y, first⟩
      have sq := s.q
      have sr := s.r
      have sa := s.sa
      have sb := s.sb
      rw [e1] at sq
      rw [e2] at sa sb
      obtain ⟨u', v', s', hlt⟩ := st_stepG h hi hc (by omega) h2 hD hN s (fun c d f1 f2 => hl u v c d f1 f2 sa sb sq sr) (fun d hm2 hd => by
        rw [e2]
        intro z
        have ld := h.lts hm2
        have t2 := h.pos _ _ _ hm2
        have l1 := lin z v u
        have s1 : T px py v u i = - T px py u v i := T_swap _ _ _
        have s2 : T px py v u j = - T px py u v j := T_swap _ _ _
        have k : 0 < dt px py i d j := by
          rcases Int.lt_or_le 0 (dt px py i d j) with g | g
          · exact g
          · exfalso
            have a1 : 0 < dt px py i j j * T px py v u d := Int.mul_pos L t2
            have a2 : dt px py i j j * T px py v u i < 0 := Int.mul_neg_of_pos_of_neg L (by omega)
            have a3 := Int.mul_nonpos_of_nonpos_of_nonneg g (show 0 ≤ T px py v u j - T px py v u i by omega)
            omega
        have bq := beyond z hi h1 h2 ld.2.2 hne hd (hb d ld.2.2 z) k
        have l2 := lin z d v
        have l3 := lin z u d
        have l4 := lin z i v
        have l5 := lin z i u
        rw [T_111] at l2
        rw [T_122] at l3
        rw [T_111, T_132 i j v] at l4
        rw [T_111, T_132 i j u] at l5
        have c1 : T px py d v i = - T px py i v d := by unfold T tw; grind
        have c2 : T px py u d i = T px py i u d := by unfold T tw; grind
        have p1 : 0 < T px py d v i := by
          refine pos_of_mul L ?_
          rw [c1, Int.mul_neg, l4]
          have := Int.mul_pos k sb
          grind
        have p2 : 0 < T px py u d i := by
          refine pos_of_mul L ?_
          rw [c2, l5]
          have := Int.mul_pos k (show 0 < - T px py i j u by omega)
          grind
        have f1 : dt px py i d j * T px py d v j = (dt px py i d j - dt px py i j j) * T px py d v i := by grind
        have f2 : dt px py i d j * T px py u d j = (dt px py i d j - dt px py i j j) * T px py u d i := by grind
        have g1 : 0 < T px py d v j := pos_of_mul k (by rw [f1]; exact Int.mul_pos (by omega) p1)
        have g2 : 0 < T px py u d j := pos_of_mul k (by rw [f2]; exact Int.mul_pos (by omega) p2)
        rcases h.empty hi hc hm2 h2 (by omega) (by omega) (by omega) with q | q | q
        · subst q; rw [T_122] at sr; omega
        · subst q; rw [T_111] at sr; omega
        · exact hd q.symm)
      have := hm u' v' s'
      omega

end Go.Proofs.YtdbebbbceeopaaaGreat.Geo

set_option linter.unusedSimpArgs false
namespace Go.Proofs.YtdbebbbceeopaaaGreat.Geo
variable {px py : Nat → Int} {n : Nat} {M : Nat → Nat → Option Nat}

/-- Two circles, one through a, b and c, one over the way from i to j: their difference is even along both ways. -/
theorem two_circles (a b c i j : Nat) : T px py i j b * (T px py a b c * dt px py a i j) - T px py i j a * (T px py a b c * dt px py b i j) = T px py a b i * Wn px py a b c j - T px py a b j * Wn px py a b c i := by
  unfold Wn dt T tw sq; grind

theorem dt_sq (d i j : Nat) : 2 * dt px py d i j = sq (px i - px d) (py i - py d) + sq (px j - px d) (py j - py d) - sq (px i - px j) (py i - py j) := by
  unfold dt sq; grind

theorem sqd_nonneg (x y : Int) : 0 ≤ sq x y := by
  unfold sq
  have key : ∀ t : Int, 0 ≤ t * t := by
    intro t
    rcases Int.le_total 0 t with h | h
    · exact Int.mul_nonneg h h
    · exact Int.mul_nonneg_of_nonpos_of_nonpos h h
  have h1 := key x
  have h2 := key y
  omega

/-- WHO IS NEAREST IS JOINED. -/
theorem Mesh.nearest (h : Mesh px py n M) (hi : Inj px py n) (hc : Cor n M) (hl : Loc px py M) {i j : Nat} (h1 : i < n) (h2 : j < n) (hne : i ≠ j)
    (hnear : ∀ r, r < n → r ≠ i → r ≠ j → sq (px i - px j) (py i - py j) < sq (px i - px r) (py i - py r)) :
    (∃ c, M i j = some c) ∨ ∃ c, M j i = some c := by
  have pos : ∀ r, r < n → r ≠ i → r ≠ j → 0 < dt px py r i j := by
    intro r hr k1 k2
    have e := dt_sq (px := px) (py := py) r i j
    have a1 := hnear r hr k1 k2
    have a2 := sqd_nonneg (px j - px r) (py j - py r)
    omega
  refine h.line hi hc h1 h2 hne ?_ ?_
  · intro d hd _ hlt
    by_cases k1 : d = i
    · subst k1; unfold dt at hlt; simp at hlt
    · by_cases k2 : d = j
      · subst k2; unfold dt at hlt; simp at hlt
      · have := pos d hd k1 k2; omega
  · intro a b c d e1 e2 t1 t2 t3 t4
    exfalso
    have lt := h.lts e1
    have D := h.pos _ _ _ e1
    have w1 := h.delaunay hi hc hl e1 h1
    have w2 := h.delaunay hi hc hl e1 h2
    have z1 : T px py a b a = 0 := T_111 _ _
    have z2 : T px py a b b = 0 := T_122 _ _
    have ai : a ≠ i := by rintro rfl; omega
    have bi : b ≠ i := by rintro rfl; omega
    have aj : a ≠ j := by rintro rfl; omega
    have bj : b ≠ j := by rintro rfl; omega
    have p1 := Int.mul_pos t2 (Int.mul_pos D (pos a lt.1 ai aj))
    have p2 := Int.mul_pos (show 0 < - T px py i j a by omega) (Int.mul_pos D (pos b lt.2.1 bi bj))
    have p3 := Int.mul_nonneg (show 0 ≤ T px py a b i by omega) (show 0 ≤ - Wn px py a b c j by omega)
    have p4 := Int.mul_nonneg (show 0 ≤ - T px py a b j by omega) (show 0 ≤ - Wn px py a b c i by omega)
    have e := two_circles (px := px) (py := py) a b c i j
    simp only [Int.neg_mul, Int.mul_neg] at p2 p3 p4
    omega
end Go.Proofs.YtdbebbbceeopaaaGreat.Geo

set_option linter.unusedSimpArgs false
namespace Go.Proofs.YtdbebbbceeopaaaGreat.Geo
variable {px py h : Nat → Int} {n : Nat} {M : Nat → Nat → Option Nat} {X Y W H : Int}

/-! A side that was turned over does not come back: so only so many are turned over. -/

/-- How high a triangle is at a place, W times its area. -/
def PQ (px py h : Nat → Int) (X Y W : Int) (a b c : Nat) : Int := h a * TQ px py X Y W b c + h b * TQ px py X Y W c a + h c * TQ px py X Y W a b

theorem PQ_cyc (a b c : Nat) : PQ px py h X Y W a b c = PQ px py h X Y W b c a := by unfold PQ; omega

/-- All triangles that have the place lie lower there. -/
def J (px py h : Nat → Int) (M : Nat → Nat → Option Nat) (X Y W H : Int) : Prop := ∀ a b c, M a b = some c → 0 ≤ TQ px py X Y W a b → 0 ≤ TQ px py X Y W b c → 0 ≤ TQ px py X Y W c a → PQ px py h X Y W a b c < H * T px py a b c

theorem tri_flip {a b c d : Nat} (p1 : 0 < T px py a b c) (p2 : 0 < T px py b a d) (t1 : 0 < T px py a d c) (t2 : 0 < T px py d b c) (hw : 0 < Wg px py h a b c d)
    (h1 : 0 ≤ TQ px py X Y W a b → 0 ≤ TQ px py X Y W b c → 0 ≤ TQ px py X Y W c a → PQ px py h X Y W a b c < H * T px py a b c)
    (h2 : 0 ≤ TQ px py X Y W b a → 0 ≤ TQ px py X Y W a d → 0 ≤ TQ px py X Y W d b → PQ px py h X Y W b a d < H * T px py b a d)
    (k1 : 0 ≤ TQ px py X Y W a d) (k2 : 0 ≤ TQ px py X Y W d c) (k3 : 0 ≤ TQ px py X Y W c a) : PQ px py h X Y W a d c < H * T px py a d c := by
  rcases Int.lt_or_le (TQ px py X Y W a b) 0 with g | g
  · have i2 : T px py a d c * TQ px py X Y W d b = TQ px py X Y W d c * T px py d b a + TQ px py X Y W a d * T px py d b c := by unfold TQ T tw; grind
    have c1 : T px py d b a = T px py b a d := by rw [T_cyc d b a]
    have m1 := Int.mul_nonneg k2 (show 0 ≤ T px py d b a by omega)
    have m2 := Int.mul_nonneg k1 (Int.le_of_lt t2)
    have n1 : 0 ≤ TQ px py X Y W d b := nonneg_of_mul t1 (by omega)
    have s := TQ_swap (px := px) (py := py) (X := X) (Y := Y) (W := W) a b
    have r := h2 (by omega) k1 n1
    have i4 : PQ px py h X Y W b a d * T px py a d c - PQ px py h X Y W a d c * T px py b a d = Wg px py h a b c d * TQ px py X Y W a d := by unfold PQ Wg TQ T tw; grind
    have z := Int.mul_nonneg (Int.le_of_lt hw) k1
    have r2 := Int.mul_lt_mul_of_pos_right r t1
    have e : H * T px py b a d * T px py a d c = H * T px py a d c * T px py b a d := by grind
    exact Int.lt_of_mul_lt_mul_right (a := T px py b a d) (by omega) (Int.le_of_lt p2)
  · have i1 : T px py a d c * TQ px py X Y W b c = TQ px py X Y W d c * T px py b c a + TQ px py X Y W c a * T px py b c d := by unfold TQ T tw; grind
    have c1 : T px py b c a = T px py a b c := by rw [T_cyc a b c]
    have c2 : T px py b c d = T px py d b c := by rw [T_cyc d b c]
    have m1 := Int.mul_nonneg k2 (show 0 ≤ T px py b c a by omega)
    have m2 := Int.mul_nonneg k3 (show 0 ≤ T px py b c d by omega)
    have n1 : 0 ≤ TQ px py X Y W b c := nonneg_of_mul t1 (by omega)
    have r := h1 g n1 k3
    have i3 : PQ px py h X Y W a b c * T px py a d c - PQ px py h X Y W a d c * T px py a b c = Wg px py h a b c d * TQ px py X Y W c a := by unfold PQ Wg TQ T tw; grind
    have z := Int.mul_nonneg (Int.le_of_lt hw) k3
    have r2 := Int.mul_lt_mul_of_pos_right r t1
    have e : H * T px py a b c * T px py a d c = H * T px py a d c * T px py a b c := by grind
    exact Int.lt_of_mul_lt_mul_right (a := T px py a b c) (by omega) (Int.le_of_lt p1)

/-- Of the triangles behind a flip: the two new ones, or old ones. -/
theorem J_of {a b c d : Nat}
    (hA : 0 ≤ TQ px py X Y W a d → 0 ≤ TQ px py X Y W d c → 0 ≤ TQ px py X Y W c a → PQ px py h X Y W a d c < H * T px py a d c)
    (hB : 0 ≤ TQ px py X Y W b c → 0 ≤ TQ px py X Y W c d → 0 ≤ TQ px py X Y W d b → PQ px py h X Y W b c d < H * T px py b c d)
    (hO : ∀ u v w, M u v = some w → ¬ ((u = a ∧ v = b) ∨ (u = b ∧ v = a) ∨ (u = a ∧ v = d) ∨ (u = d ∧ v = c) ∨ (u = c ∧ v = a) ∨ (u = d ∧ v = b) ∨ (u = b ∧ v = c) ∨ (u = c ∧ v = d)) → 0 ≤ TQ px py X Y W u v → 0 ≤ TQ px py X Y W v w → 0 ≤ TQ px py X Y W w u → PQ px py h X Y W u v w < H * T px py u v w) :
    J px py h (flipM M a b c d) X Y W H := by
  intro u v w hh k1 k2 k3
  unfold flipM at hh
  split at hh
  · cases hh
  · rename_i g0
    split at hh
    · rename_i k; obtain ⟨rfl, rfl⟩ := k; cases hh; exact hA k1 k2 k3
    · rename_i g1
      split at hh
      · rename_i k; obtain ⟨rfl, rfl⟩ := k; cases hh; rw [← PQ_cyc, ← T_cyc]; exact hA k3 k1 k2
      · rename_i g2
        split at hh
        · rename_i k; obtain ⟨rfl, rfl⟩ := k; cases hh; rw [PQ_cyc, T_cyc]; exact hA k2 k3 k1
        · rename_i g3
          split at hh
          · rename_i k; obtain ⟨rfl, rfl⟩ := k; cases hh; rw [PQ_cyc, T_cyc]; exact hB k2 k3 k1
          · rename_i g4
            split at hh
            · rename_i k; obtain ⟨rfl, rfl⟩ := k; cases hh; exact hB k1 k2 k3
            · rename_i g5
              split at hh
              · rename_i k; obtain ⟨rfl, rfl⟩ := k; cases hh; rw [← PQ_cyc, ← T_cyc]; exact hB k3 k1 k2
              · rename_i g6
                refine hO u v w hh ?_ k1 k2 k3
                rintro (g | g | g | g | g | g | g | g) <;> first | exact g0 (.inl g) | exact g0 (.inr g) | exact g1 g | exact g2 g | exact g3 g | exact g4 g | exact g5 g | exact g6 g

theorem J.flip (hJ : J px py h M X Y W H) (hm : Mesh px py n M) {a b c d : Nat} (q : Quad px py M a b c d) (hw : 0 < Wg px py h a b c d) : J px py h (flipM M a b c d) X Y W H := by
  have p1 := hm.pos _ _ _ q.ab
  have p2 := hm.pos _ _ _ q.ba
  refine J_of (fun k1 k2 k3 => tri_flip p1 p2 q.t1 q.t2 hw (hJ _ _ _ q.ab) (hJ _ _ _ q.ba) k1 k2 k3) (fun k1 k2 k3 => ?_) (fun u v w e _ k1 k2 k3 => hJ u v w e k1 k2 k3)
  refine tri_flip p2 p1 ?_ ?_ (by rw [Wg_swap]; exact hw) (hJ _ _ _ q.ba) (hJ _ _ _ q.ab) k1 k2 k3
  · rw [← T_cyc d b c]; exact q.t2
  · rw [← T_cyc2 a d c] ; exact q.t1

/-- Where a pointed side meets the one that comes in its stead, there are its own two triangles alone. -/
theorem Mesh.only (hm : Mesh px py n M) {a b c d : Nat} (q : Quad px py M a b c d) {x y z : Nat} (e : M x y = some z)
    (k1 : 0 ≤ TQ px py (T px py d b c * px a + T px py a d c * px b) (T px py d b c * py a + T px py a d c * py b) (T px py a d c + T px py d b c) x y)
    (k2 : 0 ≤ TQ px py (T px py d b c * px a + T px py a d c * px b) (T px py d b c * py a + T px py a d c * py b) (T px py a d c + T px py d b c) y z)
    (k3 : 0 ≤ TQ px py (T px py d b c * px a + T px py a d c * px b) (T px py d b c * py a + T px py a d c * py b) (T px py a d c + T px py d b c) z x) :
    (x = a ∧ y = b) ∨ (x = b ∧ y = c) ∨ (x = c ∧ y = a) ∨ (x = b ∧ y = a) ∨ (x = a ∧ y = d) ∨ (x = d ∧ y = b) := by
  have p1 := hm.pos _ _ _ q.ab
  have p2 := hm.pos _ _ _ q.ba
  have pe := hm.pos _ _ _ e
  have t1 := q.t1
  have t2 := q.t2
  obtain ⟨K, hK⟩ : ∃ K : Int, K = 1 + sm n (fun v => ((px v - px x).natAbs : Int) + ((px v - px y).natAbs : Int) + ((px v - px z).natAbs : Int)) + ((T px py a b x).natAbs : Int) + ((T px py a b y).natAbs : Int) + ((T px py a b z).natAbs : Int) := ⟨_, rfl⟩
  have kn := sm_nonneg (n := n) (f := fun v => ((px v - px x).natAbs : Int) + ((px v - px y).natAbs : Int) + ((px v - px z).natAbs : Int)) (fun i _ => by omega)
  have kv : ∀ v, v < n → ((px v - px x).natAbs : Int) + ((px v - px y).natAbs : Int) + ((px v - px z).natAbs : Int) < K := fun v hv => by
    have := sm_ge_one (f := fun v => ((px v - px x).natAbs : Int) + ((px v - px y).natAbs : Int) + ((px v - px z).natAbs : Int)) hv (fun i _ => by omega)
    omega
  have hK1 : 1 ≤ K := by omega
  have hKK : 0 < K * K := Int.mul_pos (by omega) (by omega)
  obtain ⟨Gx, hGx⟩ : ∃ Gx : Int, Gx = px x + K * px y + K * K * px z := ⟨_, rfl⟩
  obtain ⟨Gy, hGy⟩ : ∃ Gy : Int, Gy = py x + K * py y + K * K * py z := ⟨_, rfl⟩
  obtain ⟨s, hs⟩ : ∃ s : Int, s = 1 + K + K * K := ⟨_, rfl⟩
  have tg : ∀ u v, TQ px py Gx Gy s u v = T px py u v x + K * T px py u v y + K * K * T px py u v z := fun u v => by rw [hGx, hGy, hs]; unfold TQ T tw; grind
  have gv : ∀ v, v < n → s * px v - Gx ≠ 0 := fun v hv h0 => by
    have e0 : (px v - px x) + K * (px v - px y) + K * K * (px v - px z) = 0 := by rw [← h0, hGx, hs]; grind
    have := kv v hv
    obtain ⟨z1, z2, z3⟩ := digits (by omega) (by omega) e0
    have : T px py x y z = 0 := by
      have f1 : px y = px x := by omega
      have f2 : px z = px x := by omega
      unfold T tw; rw [f1, f2]; grind
    omega
  have gab : TQ px py Gx Gy s a b ≠ 0 := fun h0 => by
    rw [tg] at h0
    obtain ⟨z1, z2, z3⟩ := digits (by omega) (by omega) h0
    have hw : ¬ Wide px py [x, y, z] := line_flat (b := a) (R := b) (fun ⟨g1, g2⟩ => by
      have : T px py a b c = 0 := by unfold T tw; rw [g1, g2]; grind
      omega) (by
      intro r hr
      simp only [List.mem_cons, List.not_mem_nil, or_false] at hr
      rcases hr with rfl | rfl | rfl
      · exact z1
      · exact z2
      · exact z3)
    exact hw ⟨x, by simp, y, by simp, z, by simp, by omega⟩
  obtain ⟨p, hp⟩ : ∃ p, p = T px py a d c := ⟨_, rfl⟩
  obtain ⟨r, hr⟩ : ∃ r, r = T px py d b c := ⟨_, rfl⟩
  rw [← hp] at t1 k1 k2 k3
  rw [← hr] at t2 k1 k2 k3
  obtain ⟨N, hN⟩ : ∃ N : Int, N = 1 + sm n (fun v => ((s * px v - Gx).natAbs : Int)) + ((TQ px py Gx Gy s b c).natAbs : Int) + ((TQ px py Gx Gy s c a).natAbs : Int) + ((TQ px py Gx Gy s a d).natAbs : Int) + ((TQ px py Gx Gy s d b).natAbs : Int) := ⟨_, rfl⟩
  have nn := sm_nonneg (n := n) (f := fun v => ((s * px v - Gx).natAbs : Int)) (fun i _ => by omega)
  have nv : ∀ v, v < n → ((s * px v - Gx).natAbs : Int) < N := fun v hv => by
    have := sm_ge_one (f := fun v => ((s * px v - Gx).natAbs : Int)) hv (fun i _ => by omega)
    omega
  have hN1 : 1 ≤ N := by omega
  have lin2 : ∀ u v, TQ px py (N * (r * px a + p * px b) + Gx) (N * (r * py a + p * py b) + Gy) (N * (p + r) + s) u v = N * TQ px py (r * px a + p * px b) (r * py a + p * py b) (p + r) u v + TQ px py Gx Gy s u v := fun u v => by unfold TQ; grind
  have big : ∀ A B : Int, 0 < A → ((B.natAbs : Int)) < N → 0 < N * A + B := fun A B hA hB => by
    have : N * 1 ≤ N * A := Int.mul_le_mul_of_nonneg_left (by omega) (by omega)
    omega
  have nz : ∀ A B : Int, ((B.natAbs : Int)) < N → B ≠ 0 → N * A + B ≠ 0 := fun A B hB h0 hz => by
    rcases Int.lt_trichotomy A 0 with g | g | g
    · have : N * A ≤ N * (-1) := Int.mul_le_mul_of_nonneg_left (by omega) (by omega)
      omega
    · rw [g] at hz; omega
    · have : N * 1 ≤ N * A := Int.mul_le_mul_of_nonneg_left (by omega) (by omega)
      omega
  have hg : ∀ v, v < n → (N * (p + r) + s) * px v ≠ N * (r * px a + p * px b) + Gx := fun v hv h0 => by
    refine nz ((p + r) * px v - (r * px a + p * px b)) (s * px v - Gx) (nv v hv) (gv v hv) ?_
    grind
  have sx : 0 < TQ px py Gx Gy s x y := by
    rw [tg, T_111, T_122]
    have := Int.mul_pos hKK pe
    omega
  have sy : 0 < TQ px py Gx Gy s y z := by
    rw [tg, T_111, T_122]
    have : T px py y z x = T px py x y z := by rw [T_cyc x y z]
    omega
  have sz : 0 < TQ px py Gx Gy s z x := by
    rw [tg, T_111, T_122]
    have : T px py z x y = T px py x y z := by rw [T_cyc z x y]
    have := Int.mul_pos (show 0 < K by omega) pe
    grind
  have add0 : ∀ A B : Int, 0 ≤ A → 0 < B → 0 < N * A + B := fun A B hA hB => by
    have := Int.mul_nonneg (show 0 ≤ N by omega) hA
    omega
  have hW : 0 < N * (p + r) + s := by
    have := Int.mul_pos (show 0 < N by omega) (show 0 < p + r by omega)
    omega
  have j1 : 0 < TQ px py (N * (r * px a + p * px b) + Gx) (N * (r * py a + p * py b) + Gy) (N * (p + r) + s) x y := by rw [lin2]; exact add0 _ _ k1 sx
  have j2 : 0 < TQ px py (N * (r * px a + p * px b) + Gx) (N * (r * py a + p * py b) + Gy) (N * (p + r) + s) y z := by rw [lin2]; exact add0 _ _ k2 sy
  have j3 : 0 < TQ px py (N * (r * px a + p * px b) + Gx) (N * (r * py a + p * py b) + Gy) (N * (p + r) + s) z x := by rw [lin2]; exact add0 _ _ k3 sz
  have qab : TQ px py (r * px a + p * px b) (r * py a + p * py b) (p + r) a b = 0 := by unfold TQ; grind
  have qbc : TQ px py (r * px a + p * px b) (r * py a + p * py b) (p + r) b c = r * T px py a b c := by unfold TQ T tw; grind
  have qca : TQ px py (r * px a + p * px b) (r * py a + p * py b) (p + r) c a = p * T px py a b c := by unfold TQ T tw; grind
  have qad : TQ px py (r * px a + p * px b) (r * py a + p * py b) (p + r) a d = p * T px py b a d := by unfold TQ T tw; grind
  have qdb : TQ px py (r * px a + p * px b) (r * py a + p * py b) (p + r) d b = r * T px py b a d := by unfold TQ T tw; grind
  rcases Int.lt_or_gt_of_ne gab with g | g
  · have o1 : 0 < TQ px py (N * (r * px a + p * px b) + Gx) (N * (r * py a + p * py b) + Gy) (N * (p + r) + s) b a := by
      rw [TQ_swap, lin2, qab]; omega
    have o2 : 0 < TQ px py (N * (r * px a + p * px b) + Gx) (N * (r * py a + p * py b) + Gy) (N * (p + r) + s) a d := by
      rw [lin2, qad]; exact big _ _ (Int.mul_pos t1 p2) (by omega)
    have o3 : 0 < TQ px py (N * (r * px a + p * px b) + Gx) (N * (r * py a + p * py b) + Gy) (N * (p + r) + s) d b := by
      rw [lin2, qdb]; exact big _ _ (Int.mul_pos t2 p2) (by omega)
    rcases hm.disj hW hg q.ba e o1 o2 o3 j1 j2 j3 with k | k | k
    · exact .inr (.inr (.inr (.inl k)))
    · exact .inr (.inr (.inr (.inr (.inl k))))
    · exact .inr (.inr (.inr (.inr (.inr k))))
  · have o1 : 0 < TQ px py (N * (r * px a + p * px b) + Gx) (N * (r * py a + p * py b) + Gy) (N * (p + r) + s) a b := by
      rw [lin2, qab]; omega
    have o2 : 0 < TQ px py (N * (r * px a + p * px b) + Gx) (N * (r * py a + p * py b) + Gy) (N * (p + r) + s) b c := by
      rw [lin2, qbc]; exact big _ _ (Int.mul_pos t2 p1) (by omega)
    have o3 : 0 < TQ px py (N * (r * px a + p * px b) + Gx) (N * (r * py a + p * py b) + Gy) (N * (p + r) + s) c a := by
      rw [lin2, qca]; exact big _ _ (Int.mul_pos t1 p1) (by omega)
    rcases hm.disj hW hg q.ab e o1 o2 o3 j1 j2 j3 with k | k | k
    · exact .inl k
    · exact .inr (.inl k)
    · exact .inr (.inr (.inl k))

/-- A side that the triangles now lie below. -/
def Killed (px py h : Nat → Int) (M : Nat → Nat → Option Nat) (u v : Nat) : Prop := ∃ p q : Int, 0 < p ∧ 0 < q ∧ J px py h M (q * px u + p * px v) (q * py u + p * py v) (p + q) (q * h u + p * h v)

theorem Killed.none (hm : Mesh px py n M) {u v w : Nat} (k : Killed px py h M u v) (e : M u v = some w) : False := by
  obtain ⟨p, q, hp, hq, j⟩ := k
  have pe := hm.pos _ _ _ e
  have e1 : TQ px py (q * px u + p * px v) (q * py u + p * py v) (p + q) u v = 0 := by unfold TQ; grind
  have e2 : TQ px py (q * px u + p * px v) (q * py u + p * py v) (p + q) v w = q * T px py u v w := by unfold TQ T tw; grind
  have e3 : TQ px py (q * px u + p * px v) (q * py u + p * py v) (p + q) w u = p * T px py u v w := by unfold TQ T tw; grind
  have m2 := Int.mul_pos hq pe
  have m3 := Int.mul_pos hp pe
  have := j u v w e (by omega) (by omega) (by omega)
  unfold PQ at this
  rw [e1, e2, e3] at this
  have f : h u * (q * T px py u v w) + h v * (p * T px py u v w) + h w * 0 = (q * h u + p * h v) * T px py u v w := by grind
  omega

theorem Killed.flip {u v : Nat} (k : Killed px py h M u v) (hm : Mesh px py n M) {a b c d : Nat} (q : Quad px py M a b c d) (hw : 0 < Wg px py h a b c d) : Killed px py h (flipM M a b c d) u v := by
  obtain ⟨p, r, hp, hr, j⟩ := k
  exact ⟨p, r, hp, hr, j.flip hm q hw⟩

theorem killed_new (hm : Mesh px py n M) {a b c d : Nat} (q : Quad px py M a b c d) (hw : 0 < Wg px py h a b c d) : Killed px py h (flipM M a b c d) a b := by
  refine ⟨T px py a d c, T px py d b c, q.t1, q.t2, J_of (fun _ _ _ => ?_) (fun _ _ _ => ?_) (fun u v w e hn k1 k2 k3 => ?_)⟩
  · have f : PQ px py h (T px py d b c * px a + T px py a d c * px b) (T px py d b c * py a + T px py a d c * py b) (T px py a d c + T px py d b c) a d c = (T px py d b c * h a + T px py a d c * h b) * T px py a d c - T px py a d c * Wg px py h a b c d := by
      unfold PQ Wg TQ T tw; grind
    have := Int.mul_pos q.t1 hw
    omega
  · have f : PQ px py h (T px py d b c * px a + T px py a d c * px b) (T px py d b c * py a + T px py a d c * py b) (T px py a d c + T px py d b c) b c d = (T px py d b c * h a + T px py a d c * h b) * T px py b c d - T px py d b c * Wg px py h a b c d := by
      unfold PQ Wg TQ T tw; grind
    have := Int.mul_pos q.t2 hw
    omega
  · exfalso
    apply hn
    rcases hm.only q e k1 k2 k3 with k | k | k | k | k | k
    · exact .inl k
    · exact .inr (.inr (.inr (.inr (.inr (.inr (.inl k))))))
    · exact .inr (.inr (.inr (.inr (.inl k))))
    · exact .inr (.inl k)
    · exact .inr (.inr (.inl k))
    · exact .inr (.inr (.inr (.inr (.inr (.inl k)))))

/-- Sides that were turned over. -/
structure Spent (px py h : Nat → Int) (n : Nat) (M : Nat → Nat → Option Nat) (K : List (Nat × Nat)) : Prop where
  nd : K.Nodup
  all : ∀ x ∈ K, x.1 < n ∧ x.2 < n ∧ Killed px py h M x.1 x.2

theorem Spent.nil : Spent px py h n M [] := ⟨List.nodup_nil, fun x hx => by cases hx⟩

theorem Spent.flip {K : List (Nat × Nat)} (k : Spent px py h n M K) (hm : Mesh px py n M) {a b c d : Nat} (q : Quad px py M a b c d) (hw : 0 < Wg px py h a b c d) : Spent px py h n (flipM M a b c d) ((a, b) :: K) := by
  have l := hm.lts q.ab
  refine ⟨List.nodup_cons.2 ⟨fun hin => (k.all _ hin).2.2.none hm q.ab, k.nd⟩, fun x hx => ?_⟩
  rcases List.mem_cons.1 hx with rfl | hx
  · exact ⟨l.1, l.2.1, killed_new hm q hw⟩
  · obtain ⟨h1, h2, h3⟩ := k.all x hx
    exact ⟨h1, h2, h3.flip hm q hw⟩

theorem sub_len {α : Type} : ∀ (l r : List α), l.Nodup → (∀ x ∈ l, x ∈ r) → l.length ≤ r.length
  | [], r, _, _ => Nat.zero_le _
  | x :: l, r, hd, hs => by
    obtain ⟨a, b, rfl⟩ := List.append_of_mem (hs x (by simp))
    have hx := List.nodup_cons.1 hd
    have := sub_len l (a ++ b) hx.2 (fun y hy => by
      have h1 := hs y (by simp [hy])
      have h2 : y ≠ x := fun e => hx.1 (e ▸ hy)
      simp at h1 ⊢
      rcases h1 with h | h | h
      · exact .inl h
      · exact absurd h h2
      · exact .inr h)
    simp at this ⊢
    omega

theorem Spent.len {K : List (Nat × Nat)} (k : Spent px py h n M K) (hn : n ≤ 40) : K.length ≤ 1600 := by
  have := sub_len K ((List.range 40).flatMap fun u => (List.range 40).map fun v => (u, v)) k.nd (fun x hx => by
    obtain ⟨h1, h2, _⟩ := k.all x hx
    simp only [List.mem_flatMap, List.mem_range, List.mem_map]
    exact ⟨x.1, by omega, x.2, by omega, rfl⟩)
  have e40 : ((List.range 40).flatMap fun u => (List.range 40).map fun v => (u, v)).length = 1600 := by
    rw [List.length_flatMap]
    simp only [List.length_map, List.length_range]
    decide
  omega
end Go.Proofs.YtdbebbbceeopaaaGreat.Geo
