import Derived.Test.YtdbebbbceeopaaaGreatC1
set_option linter.unusedSimpArgs false
namespace Go.Proofs.YtdbebbbceeopaaaGreat.Geo
variable {px py : Nat → Int} {n : Nat} {M : Nat → Nat → Option Nat} {X Y W : Int}

theorem le_mul_of {x y z : Int} (hx : 0 < x) (h : x * y ≤ x * z) : y ≤ z := Int.le_of_mul_le_mul_left h hx

/-- From a place in a triangle the way to a point that is none of its corners leaves it over a side. -/
theorem st_start (h : Mesh px py n M) (hi : Inj px py n) (hc : Cor n M) (hW : 0 < W) {p : Nat} (hp : p < n) {a b c : Nat} (e : M a b = some c)
    (i2 : 0 < TQ px py X Y W b c) (i3 : 0 < TQ px py X Y W c a) (n1 : p ≠ a) (n2 : p ≠ b) (n3 : p ≠ c)
    (sa : TQ px py X Y W p a < 0) (sb : 0 < TQ px py X Y W p b) : T px py a b p < 0 := by
  rcases Int.lt_or_le (T px py a b p) 0 with k | k
  · exact k
  · exfalso
    have plu := TQ_plu (px := px) (py := py) (X := X) (Y := Y) (W := W) p a b c
    have pab := TQ_p (px := px) (py := py) (X := X) (Y := Y) (W := W) a b p
    have pbc := TQ_p (px := px) (py := py) (X := X) (Y := Y) (W := W) b c p
    have pca := TQ_p (px := px) (py := py) (X := X) (Y := Y) (W := W) c a p
    have k' : 0 ≤ W * T px py a b p := Int.mul_nonneg (by omega) k
    generalize TQ px py X Y W p a = la at *
    generalize TQ px py X Y W p b = lb at *
    generalize TQ px py X Y W p c = lc at *
    generalize TQ px py X Y W a b = qab at *
    generalize TQ px py X Y W b c = qbc at *
    generalize TQ px py X Y W c a = qca at *
    have hab : lb - la ≤ qab := by omega
    have kb : 0 ≤ T px py b c p := by
      refine nonneg_of_mul hW ?_
      rw [pbc]
      rcases Int.lt_or_le 0 lc with g | g
      · have a1 : lc * (lb - la) ≤ lc * qab := Int.mul_le_mul_of_nonneg_left hab (by omega)
        have a2 : 0 < lb * qca := Int.mul_pos sb i3
        have a3 : lc * (-la) ≤ (-la) * qbc := by
          have : 0 < lc * lb := Int.mul_pos g sb
          rw [Int.mul_sub] at a1
          rw [Int.mul_neg, Int.neg_mul]
          omega
        have := le_mul_of (x := -la) (by omega) (show (-la) * lc ≤ (-la) * qbc by rw [Int.mul_comm (-la) lc]; exact a3)
        omega
      · omega
    have ka : 0 ≤ T px py c a p := by
      refine nonneg_of_mul hW ?_
      rw [pca]
      rcases Int.lt_or_le lc 0 with g | g
      · have a1 : (-lc) * (lb - la) ≤ (-lc) * qab := Int.mul_le_mul_of_nonneg_left hab (by omega)
        have a2 : la * qbc < 0 := Int.mul_neg_of_neg_of_pos sa i2
        have a3 : lb * (-lc) ≤ lb * qca := by
          have : 0 < (-lc) * (-la) := Int.mul_pos (by omega) (by omega)
          rw [Int.mul_sub] at a1
          rw [Int.neg_mul (lc) qab] at a1
          have e1 : (-lc) * (-la) = - ((-lc) * la) := by rw [Int.mul_neg]
          have e2 : lb * (-lc) = (-lc) * lb := Int.mul_comm _ _
          omega
        have := le_mul_of sb a3
        omega
      · omega
    have := h.empty hi hc e hp k kb ka
    omega

theorem Wn_corner1 (a b c : Nat) : Wn px py a b c a = 0 := by unfold Wn T tw sq; grind
theorem Wn_corner2 (a b c : Nat) : Wn px py a b c b = 0 := by unfold Wn T tw sq; grind
theorem Wn_corner3 (a b c : Nat) : Wn px py a b c c = 0 := by unfold Wn T tw sq; grind

theorem digits {N x y z : Int} (hx : -N < x ∧ x < N) (hy : -N < y ∧ y < N) (h : x + N * y + N * N * z = 0) : x = 0 ∧ y = 0 ∧ z = 0 := by
  have hN : 0 < N := by omega
  have step : ∀ u v : Int, -N < u → u < N → u + N * v = 0 → u = 0 ∧ v = 0 := by
    intro u v h1 h2 h3
    rcases Int.lt_trichotomy v 0 with g | g | g
    · have : N * v ≤ N * (-1) := Int.mul_le_mul_of_nonneg_left (by omega) (by omega)
      omega
    · rw [g] at h3; omega
    · have : N * 1 ≤ N * v := Int.mul_le_mul_of_nonneg_left (by omega) (by omega)
      omega
  have e : x + N * (y + N * z) = 0 := by rw [Int.mul_add, ← Int.mul_assoc]; omega
  obtain ⟨r1, r2⟩ := step x _ hx.1 hx.2 e
  obtain ⟨r3, r4⟩ := step y _ hy.1 hy.2 r2
  exact ⟨r1, r3, r4⟩

/-- A place in a triangle from which no other point lies straight behind or before a point. -/
theorem place_in (hi : Inj px py n) {a b c p : Nat} (hT : 0 < T px py a b c) (hp : p < n) :
    ∃ X Y W : Int, 0 < W ∧ 0 < TQ px py X Y W a b ∧ 0 < TQ px py X Y W b c ∧ 0 < TQ px py X Y W c a ∧ ∀ v, v < n → v ≠ p → TQ px py X Y W p v ≠ 0 := by
  obtain ⟨N, hN⟩ : ∃ N : Int, N = 1 + sm n (fun v => ((T px py p v a).natAbs : Int) + ((T px py p v b).natAbs : Int) + ((T px py p v c).natAbs : Int)) := ⟨_, rfl⟩
  have hb : ∀ v, v < n → ((T px py p v a).natAbs : Int) + ((T px py p v b).natAbs : Int) + ((T px py p v c).natAbs : Int) < N := fun v hv => by
    have := sm_ge_one (f := fun v => ((T px py p v a).natAbs : Int) + ((T px py p v b).natAbs : Int) + ((T px py p v c).natAbs : Int)) hv (fun i _ => by omega)
    omega
  have hN1 : 1 ≤ N := by
    have := sm_nonneg (n := n) (f := fun v => ((T px py p v a).natAbs : Int) + ((T px py p v b).natAbs : Int) + ((T px py p v c).natAbs : Int)) (fun i _ => by omega)
    omega
  have hNN : 0 < N * N := Int.mul_pos (by omega) (by omega)
  refine ⟨px a + N * px b + N * N * px c, py a + N * py b + N * N * py c, 1 + N + N * N, by omega, ?_, ?_, ?_, fun v hv hne h0 => ?_⟩
  · have : TQ px py (px a + N * px b + N * N * px c) (py a + N * py b + N * N * py c) (1 + N + N * N) a b = N * N * T px py a b c := by unfold TQ T tw; grind
    rw [this]; exact Int.mul_pos hNN hT
  · have : TQ px py (px a + N * px b + N * N * px c) (py a + N * py b + N * N * py c) (1 + N + N * N) b c = T px py a b c := by unfold TQ T tw; grind
    rw [this]; exact hT
  · have : TQ px py (px a + N * px b + N * N * px c) (py a + N * py b + N * N * py c) (1 + N + N * N) c a = N * T px py a b c := by unfold TQ T tw; grind
    rw [this]; exact Int.mul_pos (by omega) hT
  · have e : TQ px py (px a + N * px b + N * N * px c) (py a + N * py b + N * N * py c) (1 + N + N * N) p v = T px py p v a + N * T px py p v b + N * N * T px py p v c := by unfold TQ T tw; grind
    rw [e] at h0
    have := hb v hv
    obtain ⟨z1, z2, z3⟩ := digits (by omega) (by omega) h0
    have hw : ¬ Wide px py [a, b, c] := line_flat (b := p) (R := v) (fun ⟨g1, g2⟩ => hne (hi v p hv hp (by omega) (by omega))) (by
      intro q hq
      simp only [List.mem_cons, List.not_mem_nil, or_false] at hq
      rcases hq with rfl | rfl | rfl
      · exact z1
      · exact z2
      · exact z3)
    exact hw ⟨a, by simp, b, by simp, c, by simp, by omega⟩

/-- Delaunay's lemma: if no far corner lies within, looked at two by two, no point lies within the circle of any triangle. -/
theorem Mesh.delaunay (h : Mesh px py n M) (hi : Inj px py n) (hc : Cor n M) (hl : Loc px py M) {a b c : Nat} (e : M a b = some c) {p : Nat} (hp : p < n) : Wn px py a b c p ≤ 0 := by
  rcases Int.lt_or_le 0 (Wn px py a b c p) with hN | hN
  · exfalso
    have hD := h.pos _ _ _ e
    have n1 : p ≠ a := fun g => by subst g; rw [Wn_corner1] at hN; omega
    have n2 : p ≠ b := fun g => by subst g; rw [Wn_corner2] at hN; omega
    have n3 : p ≠ c := fun g => by subst g; rw [Wn_corner3] at hN; omega
    obtain ⟨X, Y, W, hW, i1, i2, i3, hg⟩ := place_in hi hD hp
    have l := h.lts e
    have eb := h.cyc _ _ _ e
    have ec := h.cyc _ _ _ eb
    have ga := hg a l.1 (Ne.symm n1)
    have gb := hg b l.2.1 (Ne.symm n2)
    have gc := hg c l.2.2 (Ne.symm n3)
    have plu := TQ_plu (px := px) (py := py) (X := X) (Y := Y) (W := W) p a b c
    have f1 : Wn px py a b c p * T px py b c a ≤ Wn px py b c a p * T px py a b c := by
      have w1 : Wn px py a b c p = Wn px py b c a p := Wn_cyc a b c p
      have w2 : T px py a b c = T px py b c a := T_cyc a b c
      rw [w1, w2]; exact Int.le_refl _
    have f2 : Wn px py a b c p * T px py c a b ≤ Wn px py c a b p * T px py a b c := by
      have w1 : Wn px py c a b p = Wn px py a b c p := Wn_cyc c a b p
      have w2 : T px py c a b = T px py a b c := T_cyc c a b
      rw [w1, w2]; exact Int.le_refl _
    have first : ∃ u v, St px py M X Y W p (Wn px py a b c p) (T px py a b c) u v := by
      by_cases s1 : TQ px py X Y W p a < 0 ∧ 0 < TQ px py X Y W p b
      · exact ⟨a, b, ⟨c, e, Int.le_refl _⟩, i1, st_start h hi hc hW hp e i2 i3 n1 n2 n3 s1.1 s1.2, s1.1, s1.2⟩
      · by_cases s2 : TQ px py X Y W p b < 0 ∧ 0 < TQ px py X Y W p c
        · exact ⟨b, c, ⟨a, eb, f1⟩, i2, st_start h hi hc hW hp eb i3 i1 n2 n3 n1 s2.1 s2.2, s2.1, s2.2⟩
        · by_cases s3 : TQ px py X Y W p c < 0 ∧ 0 < TQ px py X Y W p a
          · exact ⟨c, a, ⟨b, ec, f2⟩, i3, st_start h hi hc hW hp ec i1 i2 n3 n1 n2 s3.1 s3.2, s3.1, s3.2⟩
          · exfalso
            rcases Int.lt_or_gt_of_ne ga with g | g
            · have m1 := Int.mul_neg_of_neg_of_pos g i2
              have m2 := Int.mul_neg_of_neg_of_pos (show TQ px py X Y W p b < 0 by omega) i3
              have m3 := Int.mul_neg_of_neg_of_pos (show TQ px py X Y W p c < 0 by omega) i1
              omega
            · have m1 := Int.mul_pos g i2
              have m2 := Int.mul_pos (show 0 < TQ px py X Y W p b by omega) i3
              have m3 := Int.mul_pos (show 0 < TQ px py X Y W p c by omega) i1
              omega
    obtain ⟨u, v, s, hm⟩ := max_pair (n := n) (St px py M X Y W p (Wn px py a b c p) (T px py a b c)) (fun u v => TQ px py X Y W u v) (fun u v => TQ px py X Y W p v - TQ px py X Y W p u)
      (fun u v s => by have := s.sa; have := s.sb; omega) (fun u v s => by obtain ⟨w, hw, _⟩ := s.tri; exact ⟨(h.lts hw).1, (h.lts hw).2.1⟩) first
    obtain ⟨u', v', s', hlt⟩ := st_step h hi hc hl hW hp hD hN hg s
    have := hm u' v' s'
    omega
  · exact hN

end Go.Proofs.YtdbebbbceeopaaaGreat.Geo

set_option linter.unusedSimpArgs false
namespace Go.Proofs.YtdbebbbceeopaaaGreat.Geo
variable {px py : Nat → Int} {n : Nat} {M : Nat → Nat → Option Nat}

/-- Above 0: d lies below the plane through a, b, c, each place lifted to its height. -/
def Wg (px py h : Nat → Int) (a b c d : Nat) : Int := (h a - h d) * T px py d b c + (h b - h d) * T px py d c a + (h c - h d) * T px py d a b

theorem Wg_lift (a b c d : Nat) : Wg px py (lift px py) a b c d = Wn px py a b c d := by unfold Wg Wn lift T tw sq; grind
theorem Wg_swap (h : Nat → Int) (a b c d : Nat) : Wg px py h b a d c = Wg px py h a b c d := by unfold Wg T tw; grind
theorem Wg_flip (h : Nat → Int) (a b c d : Nat) : Wg px py h c d b a = - Wg px py h a b c d := by unfold Wg T tw; grind
theorem Wg_flip' (h : Nat → Int) (a b c d : Nat) : Wg px py h d c a b = - Wg px py h a b c d := by unfold Wg T tw; grind

/-- Heights that a bowl has. -/
def Bowl (px py h : Nat → Int) : Prop := ∀ (a b c d : Nat) (P Q R : Int), 0 < P → 0 ≤ Q → 0 ≤ R → Q + R ≤ P → P * (px a - px d) = Q * (px b - px d) + R * (px c - px d) → P * (py a - py d) = Q * (py b - py d) + R * (py c - py d) →
  P * (h a - h d) ≤ Q * (h b - h d) + R * (h c - h d)

theorem bowl_lift : Bowl px py (lift px py) := by
  intro a b c d P Q R hP hQ hR hs e1 e2
  have := sq_conv P Q R (px a - px d) (py a - py d) (px b - px d) (py b - py d) (px c - px d) (py c - py d) hP hQ hR hs e1 e2
  have k : ∀ u, lift px py u - lift px py d = sq (px u - px d) (py u - py d) + 2 * (px d * (px u - px d) + py d * (py u - py d)) := fun u => by unfold lift sq; grind
  rw [k a, k b, k c]
  have l : P * (2 * (px d * (px a - px d) + py d * (py a - py d))) = Q * (2 * (px d * (px b - px d) + py d * (py b - py d))) + R * (2 * (px d * (px c - px d) + py d * (py c - py d))) := by
    have f1 : P * (2 * (px d * (px a - px d) + py d * (py a - py d))) = 2 * (px d * (P * (px a - px d)) + py d * (P * (py a - py d))) := by grind
    rw [f1, e1, e2]; grind
  simp only [Int.mul_add] at l ⊢
  omega

theorem abs_le' (x : Int) : x ≤ (x.natAbs : Int) ∧ -x ≤ (x.natAbs : Int) := by omega

theorem mul_abs (P x : Int) (hP : 0 ≤ P) : P * (x.natAbs : Int) = ((P * x).natAbs : Int) := by
  rw [Int.natAbs_mul]
  push_cast
  rw [Int.natAbs_of_nonneg hP]

/-- How far each place lies from a line. -/
theorem bowl_line (i j : Nat) : Bowl px py (fun u => ((T px py i j u).natAbs : Int)) := by
  intro a b c d P Q R hP hQ hR hs e1 e2
  have k : P * T px py i j a = Q * T px py i j b + R * T px py i j c + (P - Q - R) * T px py i j d := by
    have f : ∀ u, T px py i j u = T px py i j d + (px j - px i) * (py u - py d) - (py j - py i) * (px u - px d) := fun u => by unfold T tw; grind
    rw [f a, f b, f c]
    have g : P * (T px py i j d + (px j - px i) * (py a - py d) - (py j - py i) * (px a - px d)) = P * T px py i j d + (px j - px i) * (P * (py a - py d)) - (py j - py i) * (P * (px a - px d)) := by grind
    rw [g, e1, e2]; grind
  have h1 := mul_abs P (T px py i j a) (Int.le_of_lt hP)
  have h2 := mul_abs Q (T px py i j b) hQ
  have h3 := mul_abs R (T px py i j c) hR
  have h4 := mul_abs (P - Q - R) (T px py i j d) (by omega)
  simp only [Int.mul_sub, Int.sub_mul] at *
  omega

theorem flip_convexG1 {h : Nat → Int} (hb : Bowl px py h) {a b c d : Nat} (h1 : 0 < T px py a b c) (h2 : 0 < T px py b a d) (hw : 0 < Wg px py h a b c d) : 0 < T px py a d c := by
  rcases Int.lt_or_le 0 (T px py a d c) with g | g
  · exact g
  · exfalso
    have e1 := T_sum (px := px) (py := py) a b c d
    have e2 : T px py d a b = - T px py b a d := by rw [← T_cyc2 a b d, ← T_swap]
    have e3 : T px py d c a = T px py a d c := by rw [T_cyc a d c]
    have bx := T_bary_x (px := px) (py := py) a b c d
    have bya := T_bary_y (px := px) (py := py) a b c d
    have hP : 0 < T px py d b c := by omega
    have := hb a b c d (T px py d b c) (- T px py d c a) (- T px py d a b) hP (by omega) (by omega) (by omega)
      (by rw [Int.neg_mul, Int.neg_mul]; omega) (by rw [Int.neg_mul, Int.neg_mul]; omega)
    unfold Wg at hw
    rw [Int.neg_mul, Int.neg_mul] at this
    rw [Int.mul_comm (h a - h d) _, Int.mul_comm (h b - h d) _, Int.mul_comm (h c - h d) _] at hw
    omega

theorem flip_convexG2 {h : Nat → Int} (hb : Bowl px py h) {a b c d : Nat} (h1 : 0 < T px py a b c) (h2 : 0 < T px py b a d) (hw : 0 < Wg px py h a b c d) : 0 < T px py d b c := by
  have := flip_convexG1 (px := px) (py := py) hb h2 h1 (by rw [Wg_swap]; exact hw)
  rw [T_cyc d b c]
  exact this

theorem Mesh.quadG (hm : Mesh px py n M) {h : Nat → Int} (hb : Bowl px py h) {a b c d : Nat} (e1 : M a b = some c) (e2 : M b a = some d) (hw : 0 < Wg px py h a b c d) : Quad px py M a b c d :=
  hm.quadT e1 e2 (flip_convexG1 hb (hm.pos _ _ _ e1) (hm.pos _ _ _ e2) hw) (flip_convexG2 hb (hm.pos _ _ _ e1) (hm.pos _ _ _ e2) hw)

/-- Three times what is beneath the triangles. -/
def VolG (px py h : Nat → Int) (n : Nat) (M : Nat → Nat → Option Nat) : Int := Sd n M fun u v w => T px py u v w * h w

theorem volG_nonneg (hm : Mesh px py n M) {h : Nat → Int} (hh : ∀ i, 0 ≤ h i) : 0 ≤ VolG px py h n M := sm2_nonneg fun u v _ _ => by
  cases hv : M u v with
  | none => exact Int.le_refl _
  | some w => exact Int.mul_nonneg (Int.le_of_lt (hm.pos _ _ _ hv)) (hh w)

theorem flip_volG (h : Nat → Int) (a b c d : Nat) :
    T px py a b c * (h a + h b + h c) + T px py b a d * (h a + h b + h d) =
      T px py a d c * (h a + h d + h c) + T px py d b c * (h d + h b + h c) + Wg px py h a b c d := by
  unfold Wg T tw; grind

theorem flip_VolG (hm : Mesh px py n M) (h : Nat → Int) {a b c d : Nat} (q : Quad px py M a b c d) : VolG px py h n (flipM M a b c d) = VolG px py h n M - Wg px py h a b c d := by
  have := flip_sum hm q fun u v w => T px py u v w * h w
  have v := flip_volG (px := px) (py := py) h a b c d
  unfold VolG
  rw [T_cyc b c a, T_cyc c a b, T_cyc a d b, T_cyc d b a] at this
  rw [T_cyc d c a, T_cyc c a d, T_cyc b c d, T_cyc c d b] at this
  simp only [Int.mul_add] at v
  have c1 : T px py b a d = T px py a d b := T_cyc _ _ _
  have c2 : T px py a d b = T px py d b a := T_cyc _ _ _
  have c3 : T px py a b c = T px py b c a := T_cyc _ _ _
  have c4 : T px py b c a = T px py c a b := T_cyc _ _ _
  have c5 : T px py a d c = T px py d c a := T_cyc _ _ _
  have c6 : T px py d c a = T px py c a d := T_cyc _ _ _
  have c7 : T px py d b c = T px py b c d := T_cyc _ _ _
  have c8 : T px py b c d = T px py c d b := T_cyc _ _ _
  grind

/-- Is a side wrong: it may be turned over (ok), and its two triangles are folded upward? -/
def bad (px py : Nat → Int) (ok : Nat → Nat → Bool) (h : Nat → Int) (M : Nat → Nat → Option Nat) (u v : Nat) : Bool :=
  ok u v && match M u v, M v u with
  | some c, some d => decide (0 < Wg px py h u v c d)
  | _, _ => false

theorem bad_inv {ok : Nat → Nat → Bool} {h : Nat → Int} {u v : Nat} (hb : bad px py ok h M u v = true) : ok u v = true ∧ ∃ c d, M u v = some c ∧ M v u = some d ∧ 0 < Wg px py h u v c d := by
  unfold bad at hb
  rw [Bool.and_eq_true] at hb
  refine ⟨hb.1, ?_⟩
  have h2 := hb.2
  split at h2
  · rename_i c d e1 e2
    exact ⟨c, d, e1, e2, of_decide_eq_true h2⟩
  · cases h2

theorem bad_of {ok : Nat → Nat → Bool} {h : Nat → Int} {u v c d : Nat} (k : ok u v = true) (e1 : M u v = some c) (e2 : M v u = some d) (hw : 0 < Wg px py h u v c d) : bad px py ok h M u v = true := by
  unfold bad
  rw [e1, e2, k]
  simp [hw]

theorem bad_back {ok : Nat → Nat → Bool} (hs : ∀ u v, ok u v = ok v u) {h : Nat → Int} (u v : Nat) : bad px py ok h M u v = bad px py ok h M v u := by
  unfold bad
  rw [hs u v]
  cases M u v <;> cases M v u <;> simp [Wg_swap]

theorem bad_congr {ok : Nat → Nat → Bool} {h : Nat → Int} {M' : Nat → Nat → Option Nat} {u v : Nat} (e1 : M' u v = M u v) (e2 : M' v u = M v u) : bad px py ok h M' u v = bad px py ok h M u v := by
  unfold bad; rw [e1, e2]

/-- All wrong sides wait. -/
def Waits (px py : Nat → Int) (ok : Nat → Nat → Bool) (h : Nat → Int) (M : Nat → Nat → Option Nat) (l : List (Nat × Nat)) : Prop := ∀ u v, u < v → bad px py ok h M u v = true → (u, v) ∈ l

theorem flip_other {a b c d u v : Nat} (k : ¬ ((u = a ∧ v = b) ∨ (u = b ∧ v = a) ∨ (u = b ∧ v = c) ∨ (u = c ∧ v = a) ∨ (u = a ∧ v = d) ∨ (u = d ∧ v = b) ∨ (u = c ∧ v = d) ∨ (u = d ∧ v = c))) : flipM M a b c d u v = M u v := by
  unfold flipM
  rw [if_neg (by omega), if_neg (by omega), if_neg (by omega), if_neg (by omega), if_neg (by omega), if_neg (by omega), if_neg (by omega)]

def up (u v : Nat) : Nat × Nat := (min u v, max u v)

theorem Waits.flip {ok : Nat → Nat → Bool} {h : Nat → Int} {l l' : List (Nat × Nat)} {a b c d : Nat} (hW : Waits px py ok h M l) (q : Quad px py M a b c d) (hw : 0 < Wg px py h a b c d)
    (hl : ∀ x ∈ l, x = up a b ∨ x ∈ l') (h1 : up a d ∈ l') (h2 : up d b ∈ l') (h3 : up b c ∈ l') (h4 : up c a ∈ l') : Waits px py ok h (flipM M a b c d) l' := by
  intro u v huv hbad
  have e : up u v = (u, v) := by unfold up; rw [Nat.min_eq_left (by omega), Nat.max_eq_right (by omega)]
  have es : ∀ x y, up x y = up y x := fun x y => by unfold up; rw [Nat.min_comm, Nat.max_comm]
  have e' : up v u = (u, v) := by rw [es]; exact e
  obtain ⟨q1, q2, q3, q4, q5, q6, q7, q8, n1, n2, n3, n4, n5, n6, _, _⟩ := q
  by_cases k1 : (u = a ∧ v = d) ∨ (u = d ∧ v = a)
  · rcases k1 with ⟨rfl, rfl⟩ | ⟨rfl, rfl⟩
    · rw [← e]; exact h1
    · rw [← e']; exact h1
  by_cases k2 : (u = d ∧ v = b) ∨ (u = b ∧ v = d)
  · rcases k2 with ⟨rfl, rfl⟩ | ⟨rfl, rfl⟩
    · rw [← e]; exact h2
    · rw [← e']; exact h2
  by_cases k3 : (u = b ∧ v = c) ∨ (u = c ∧ v = b)
  · rcases k3 with ⟨rfl, rfl⟩ | ⟨rfl, rfl⟩
    · rw [← e]; exact h3
    · rw [← e']; exact h3
  by_cases k4 : (u = c ∧ v = a) ∨ (u = a ∧ v = c)
  · rcases k4 with ⟨rfl, rfl⟩ | ⟨rfl, rfl⟩
    · rw [← e]; exact h4
    · rw [← e']; exact h4
  obtain ⟨_, c', d', f1, f2, f3⟩ := bad_inv hbad
  by_cases k5 : (u = a ∧ v = b) ∨ (u = b ∧ v = a)
  · rcases k5 with ⟨rfl, rfl⟩ | ⟨rfl, rfl⟩
    · unfold flipM at f1; simp at f1
    · unfold flipM at f1; simp at f1
  by_cases k6 : u = c ∧ v = d
  · obtain ⟨rfl, rfl⟩ := k6
    have g1 : flipM M a b u v u v = some b := by unfold flipM; simp [*, Ne.symm n1, Ne.symm n2, Ne.symm n3, Ne.symm n4, Ne.symm n5, Ne.symm n6]
    have g2 : flipM M a b u v v u = some a := by unfold flipM; simp [*, Ne.symm n1, Ne.symm n2, Ne.symm n3, Ne.symm n4, Ne.symm n5, Ne.symm n6]
    rw [g1] at f1
    rw [g2] at f2
    cases f1; cases f2
    rw [Wg_flip] at f3
    omega
  by_cases k7 : u = d ∧ v = c
  · obtain ⟨rfl, rfl⟩ := k7
    have g1 : flipM M a b v u v u = some b := by unfold flipM; simp [*, Ne.symm n1, Ne.symm n2, Ne.symm n3, Ne.symm n4, Ne.symm n5, Ne.symm n6]
    have g2 : flipM M a b v u u v = some a := by unfold flipM; simp [*, Ne.symm n1, Ne.symm n2, Ne.symm n3, Ne.symm n4, Ne.symm n5, Ne.symm n6]
    rw [g2] at f1
    rw [g1] at f2
    cases f1; cases f2
    rw [Wg_flip'] at f3
    omega
  have m1 : flipM M a b c d u v = M u v := flip_other (by rintro (g | g | g | g | g | g | g | g) <;> first | exact k5 (.inl g) | exact k5 (.inr g) | exact k3 (.inl g) | exact k4 (.inl g) | exact k1 (.inl g) | exact k2 (.inl g) | exact k6 g | exact k7 g)
  have m2 : flipM M a b c d v u = M v u := flip_other (by rintro (g | g | g | g | g | g | g | g) <;> first | exact k5 (.inr ⟨g.2, g.1⟩) | exact k5 (.inl ⟨g.2, g.1⟩) | exact k3 (.inr ⟨g.2, g.1⟩) | exact k4 (.inr ⟨g.2, g.1⟩) | exact k1 (.inr ⟨g.2, g.1⟩) | exact k2 (.inr ⟨g.2, g.1⟩) | exact k7 ⟨g.2, g.1⟩ | exact k6 ⟨g.2, g.1⟩)
  have hin := hW u v huv (by rw [← bad_congr m1 m2]; exact hbad)
  rcases hl _ hin with k | k
  · exfalso
    unfold up at k
    simp only [Prod.mk.injEq] at k
    rcases Nat.le_total a b with g | g
    · rw [Nat.min_eq_left g, Nat.max_eq_right g] at k; exact k5 (.inl k)
    · rw [Nat.min_eq_right g, Nat.max_eq_left g] at k; exact k5 (.inr k)
  · exact k

/-- Where nothing waits, no side is wrong. -/
theorem Waits.done {ok : Nat → Nat → Bool} (hs : ∀ u v, ok u v = ok v u) {h : Nat → Int} (hm : Mesh px py n M) (hW : Waits px py ok h M []) : ∀ u v, bad px py ok h M u v = false := by
  intro u v
  cases hb : bad px py ok h M u v with
  | false => rfl
  | true =>
    obtain ⟨_, c, d, e1, _, _⟩ := bad_inv hb
    have := T_ne12 (hm.pos _ _ _ e1)
    rcases Nat.lt_or_ge u v with k | k
    · cases hW u v k hb
    · rw [bad_back hs] at hb
      cases hW v u (by omega) hb
end Go.Proofs.YtdbebbbceeopaaaGreat.Geo

set_option linter.unusedSimpArgs false
namespace Go.Proofs.YtdbebbbceeopaaaGreat.Geo
variable {px py : Nat → Int} {n : Nat} {M : Nat → Nat → Option Nat} {X Y W : Int}

theorem Wg_step (hgt : Nat → Int) (a b c d p : Nat) : Wg px py hgt b a d p * T px py a b c = Wg px py hgt a b c p * T px py b a d - Wg px py hgt a b c d * T px py b a p := by
  unfold Wg T tw; grind

theorem Wg_self {hgt : Nat → Int} (a b p : Nat) : Wg px py hgt a b p p = 0 := by unfold Wg T tw; grind
theorem Wg_cyc {hgt : Nat → Int} (a b c d : Nat) : Wg px py hgt a b c d = Wg px py hgt b c a d := by unfold Wg; omega

/-- The way leaves a triangle over this side. -/
structure StG (px py hgt : Nat → Int) (M : Nat → Nat → Option Nat) (X Y W : Int) (p : Nat) (N0 D0 : Int) (a b : Nat) : Prop where
  tri : ∃ c, M a b = some c ∧ N0 * T px py a b c ≤ Wg px py hgt a b c p * D0
  q : 0 < TQ px py X Y W a b
  r : T px py a b p < 0
  sa : TQ px py X Y W p a < 0
  sb : 0 < TQ px py X Y W p b

theorem st_stepG {hgt : Nat → Int} (h : Mesh px py n M) (hi : Inj px py n) (hc : Cor n M) (hW : 0 < W) {p : Nat} (hp : p < n) {N0 D0 : Int} (hD : 0 < D0) (hN : 0 < N0)
    {a b : Nat} (s : StG px py hgt M X Y W p N0 D0 a b) (hl : ∀ c d, M a b = some c → M b a = some d → Wg px py hgt a b c d ≤ 0) (hg : ∀ d, M b a = some d → d ≠ p → TQ px py X Y W p d ≠ 0) :
    ∃ a' b', StG px py hgt M X Y W p N0 D0 a' b' ∧ TQ px py X Y W a b * (TQ px py X Y W p b' - TQ px py X Y W p a') < TQ px py X Y W a' b' * (TQ px py X Y W p b - TQ px py X Y W p a) := by
  obtain ⟨⟨c, e, hf⟩, q, r, sa, sb⟩ := s
  cases hm : M b a with
  | none => have := h.bor _ _ _ e hm p hp; omega
  | some d =>
    have t1 := h.pos _ _ _ e
    have t2 := h.pos _ _ _ hm
    have r' : 0 < T px py b a p := by rw [T_swap]; omega
    have hw := hl c d e hm
    have st := Wg_step (px := px) (py := py) hgt a b c d p
    have hw2 : Wg px py hgt a b c d * T px py b a p ≤ 0 := Int.mul_nonpos_of_nonpos_of_nonneg hw (by omega)
    by_cases hd : d = p
    · exfalso
      subst hd
      rw [Wg_self] at st
      have z : Wg px py hgt a b c d * T px py b a d ≤ 0 := by omega
      have : Wg px py hgt a b c d ≤ 0 := hw
      have g1 : Wg px py hgt a b c d * D0 ≤ 0 := Int.mul_nonpos_of_nonpos_of_nonneg hw (by omega)
      have g2 := Int.mul_pos hN t1
      omega
    · have gd := hg d hm hd
      have ad := h.cyc _ _ _ hm
      have db := h.cyc _ _ _ ad
      -- f grows
      have hf' : N0 * T px py b a d ≤ Wg px py hgt b a d p * D0 := by
        have g1 : Wg px py hgt a b c p * T px py b a d ≤ Wg px py hgt b a d p * T px py a b c := by omega
        exact frac_tr hD t1 t2 hf g1
      have sum := TQ_sum (px := px) (py := py) (X := X) (Y := Y) (W := W) b a d
      have plu := TQ_plu (px := px) (py := py) (X := X) (Y := Y) (W := W) p a b d
      have hWT := Int.mul_pos hW t2
      have sw1 := TQ_swap (px := px) (py := py) (X := X) (Y := Y) (W := W) a b
      have sw2 := TQ_swap (px := px) (py := py) (X := X) (Y := Y) (W := W) b d
      have sw3 := TQ_swap (px := px) (py := py) (X := X) (Y := Y) (W := W) a d
      have pab := TQ_p (px := px) (py := py) (X := X) (Y := Y) (W := W) a b p
      have pad := TQ_p (px := px) (py := py) (X := X) (Y := Y) (W := W) a d p
      have pdb := TQ_p (px := px) (py := py) (X := X) (Y := Y) (W := W) d b p
      have rr : W * T px py a b p < 0 := Int.mul_neg_of_pos_of_neg hW r
      have emp := h.empty hi hc hm hp (by omega)
      have ne1 : p ≠ a := fun e => by subst e; rw [T_two] at r'; omega
      have ne2 : p ≠ b := fun e => by subst e; rw [T_one] at r'; omega
      rcases Int.lt_or_gt_of_ne gd with g | g
      · -- over the side from d to b
        have q' : 0 < TQ px py X Y W d b := by
          rcases Int.lt_or_le 0 (TQ px py X Y W d b) with k | k
          · exact k
          · exfalso
            -- then a d turns left as seen from the place, and more than that
            have k1 : 0 < TQ px py X Y W a d := by omega
            have m1 : TQ px py X Y W p a * TQ px py X Y W b d ≤ 0 := Int.mul_nonpos_of_nonpos_of_nonneg (by omega) (by omega)
            have m2 : TQ px py X Y W p b * TQ px py X Y W d a < 0 := Int.mul_neg_of_pos_of_neg sb (by omega)
            have m3 : TQ px py X Y W p d * TQ px py X Y W a b < 0 := Int.mul_neg_of_neg_of_pos g q
            omega
        have rn : T px py d b p < 0 := by
          rcases Int.lt_or_le (T px py d b p) 0 with k | k
          · exact k
          · exfalso
            have k' : 0 ≤ W * T px py d b p := Int.mul_nonneg (by omega) k
            -- then p lies in the triangle
            have ka : 0 ≤ T px py a d p := by
              refine nonneg_of_mul hW ?_
              rcases Int.lt_or_le (TQ px py X Y W p a) (TQ px py X Y W p d) with m | m
              · have pp := TQ_plu (px := px) (py := py) (X := W * px p) (Y := W * py p) (W := W) p a b d
                -- the turns as seen from p
                have u1 : T px py a b p * TQ px py X Y W p d + T px py b d p * TQ px py X Y W p a + T px py d a p * TQ px py X Y W p b = 0 := by unfold TQ T tw; grind
                have v1 : T px py b d p = - T px py d b p := T_swap _ _ _
                have v2 : T px py d a p = - T px py a d p := T_swap _ _ _
                rw [v1, v2] at u1
                have w1 : 0 < T px py a b p * TQ px py X Y W p d := Int.mul_pos_of_neg_of_neg r g
                have w2 : T px py d b p * TQ px py X Y W p a ≤ 0 := Int.mul_nonpos_of_nonneg_of_nonpos k (by omega)
                have w3 : 0 < TQ px py X Y W p b * T px py a d p := by rw [Int.mul_comm]; rw [Int.neg_mul, Int.neg_mul] at u1; omega
                have := pos_of_mul sb w3
                exact Int.mul_nonneg (by omega) (by omega)
              · have u1 : T px py a b p * TQ px py X Y W p d + T px py b d p * TQ px py X Y W p a + T px py d a p * TQ px py X Y W p b = 0 := by unfold TQ T tw; grind
                have v1 : T px py b d p = - T px py d b p := T_swap _ _ _
                have v2 : T px py d a p = - T px py a d p := T_swap _ _ _
                rw [v1, v2] at u1
                have w1 : 0 < T px py a b p * TQ px py X Y W p d := Int.mul_pos_of_neg_of_neg r g
                have w2 : T px py d b p * TQ px py X Y W p a ≤ 0 := Int.mul_nonpos_of_nonneg_of_nonpos k (by omega)
                have w3 : 0 < TQ px py X Y W p b * T px py a d p := by rw [Int.mul_comm]; rw [Int.neg_mul, Int.neg_mul] at u1; omega
                have := pos_of_mul sb w3
                exact Int.mul_nonneg (by omega) (by omega)
            rcases emp ka k with k2 | k2 | k2
            · exact ne2 k2
            · exact ne1 k2
            · exact hd k2.symm
        refine ⟨d, b, ⟨⟨a, db, ?_⟩, q', rn, g, sb⟩, ?_⟩
        · rw [T_cyc d b a, Wg_cyc d b a]; exact hf'
        · have key : TQ px py X Y W d b * (TQ px py X Y W p b - TQ px py X Y W p a) - TQ px py X Y W a b * (TQ px py X Y W p b - TQ px py X Y W p d) = TQ px py X Y W p b * (W * T px py b a d) := by
            rw [← sum, sw1]; unfold TQ; grind
          have := Int.mul_pos sb hWT
          omega
      · -- over the side from a to d
        have q' : 0 < TQ px py X Y W a d := by
          rcases Int.lt_or_le 0 (TQ px py X Y W a d) with k | k
          · exact k
          · exfalso
            have k1 : 0 < TQ px py X Y W d b := by omega
            have m1 : 0 < TQ px py X Y W p a * TQ px py X Y W b d := Int.mul_pos_of_neg_of_neg sa (by omega)
            have m2 : 0 ≤ TQ px py X Y W p b * TQ px py X Y W d a := Int.mul_nonneg (by omega) (by omega)
            have m3 : 0 < TQ px py X Y W p d * TQ px py X Y W a b := Int.mul_pos g q
            omega
        have rn : T px py a d p < 0 := by
          rcases Int.lt_or_le (T px py a d p) 0 with k | k
          · exact k
          · exfalso
            have kb : 0 ≤ T px py d b p := by
              have u1 : T px py a b p * TQ px py X Y W p d + T px py b d p * TQ px py X Y W p a + T px py d a p * TQ px py X Y W p b = 0 := by unfold TQ T tw; grind
              have v1 : T px py b d p = - T px py d b p := T_swap _ _ _
              have v2 : T px py d a p = - T px py a d p := T_swap _ _ _
              rw [v1, v2] at u1
              have w1 : T px py a b p * TQ px py X Y W p d < 0 := Int.mul_neg_of_neg_of_pos r g
              have w2 : 0 ≤ T px py a d p * TQ px py X Y W p b := Int.mul_nonneg k (by omega)
              have w3 : 0 < (- TQ px py X Y W p a) * T px py d b p := by
                rw [Int.neg_mul, Int.mul_comm]
                rw [Int.neg_mul, Int.neg_mul] at u1; omega
              have := pos_of_mul (show 0 < - TQ px py X Y W p a by omega) w3
              omega
            rcases emp k kb with k2 | k2 | k2
            · exact ne2 k2
            · exact ne1 k2
            · exact hd k2.symm
        refine ⟨a, d, ⟨⟨b, ad, ?_⟩, q', rn, sa, g⟩, ?_⟩
        · rw [← T_cyc b a d, ← Wg_cyc b a d]; exact hf'
        · have key : TQ px py X Y W a d * (TQ px py X Y W p b - TQ px py X Y W p a) - TQ px py X Y W a b * (TQ px py X Y W p d - TQ px py X Y W p a) = - TQ px py X Y W p a * (W * T px py b a d) := by
            rw [← sum, sw1]; unfold TQ; grind
          have := Int.mul_pos (show 0 < - TQ px py X Y W p a by omega) hWT
          omega

/-- How far two ways from a place go along one another. -/
def dt (px py : Nat → Int) (i a b : Nat) : Int := (px a - px i) * (px b - px i) + (py a - py i) * (py b - py i)

theorem dt_id (i x y j : Nat) : dt px py i y j * T px py i x j - dt px py i x j * T px py i y j = dt px py i j j * T px py i x y := by unfold dt T tw; grind

theorem dt_pos (hi : Inj px py n) {i j : Nat} (h1 : i < n) (h2 : j < n) (hne : i ≠ j) : 0 < dt px py i j j := by
  have a := mul_self_nonneg' (px j - px i)
  have b := mul_self_nonneg' (py j - py i)
  rcases Int.lt_or_le 0 (dt px py i j j) with k | k
  · exact k
  · exfalso
    unfold dt at k
    have z1 : (px j - px i) * (px j - px i) = 0 := by omega
    have z2 : (py j - py i) * (py j - py i) = 0 := by omega
    have z1' := Int.mul_eq_zero.1 z1
    have z2' := Int.mul_eq_zero.1 z2
    exact hne (hi i j h1 h2 (by omega) (by omega))

/-- Around a point that is a corner there is a triangle in the direction of each other point. -/
theorem Mesh.star (h : Mesh px py n M) (hi : Inj px py n) (hc : Cor n M) {i j : Nat} (h1 : i < n) (h2 : j < n) (hne : i ≠ j) :
    ∃ x y, M i x = some y ∧ 0 ≤ T px py i x j ∧ 0 ≤ T px py i j y := by
  have L := dt_pos hi h1 h2 hne
  have bord : ∀ x y, M i x = some y → T px py i j y < 0 → ∃ z, M i y = some z := by
    intro x y e k
    cases hm : M i y with
    | some z => exact ⟨z, rfl⟩
    | none =>
      have := h.bor y i x (h.cyc _ _ _ (h.cyc _ _ _ e)) hm j h2
      rw [T_cyc] at this
      omega
  by_cases A : ∃ x y, M i x = some y ∧ 0 < T px py i x j
  · obtain ⟨x0, y0, e0, k0⟩ := A
    obtain ⟨x, ⟨y, e, k⟩, hm⟩ := max_list (fun x => ∃ y, M i x = some y ∧ 0 < T px py i x j) (fun x => dt px py i x j) (fun x => T px py i x j) (fun x hx => by obtain ⟨_, _, k⟩ := hx; exact k) (List.range n)
      ⟨x0, by simp only [List.mem_range]; exact (h.lts e0).2.1, y0, e0, k0⟩
    rcases Int.lt_or_le (T px py i j y) 0 with g | g
    · exfalso
      obtain ⟨z, hz⟩ := bord x y e g
      have t1 : T px py i y j = - T px py i j y := by unfold T tw; grind
      have g' : 0 < T px py i y j := by omega
      have := hm y (by simp only [List.mem_range]; exact (h.lts hz).2.1) ⟨z, hz, g'⟩
      have id := dt_id (px := px) (py := py) i x y j
      have := Int.mul_pos L (h.pos _ _ _ e)
      omega
    · exact ⟨x, y, e, Int.le_of_lt k, g⟩
  · by_cases B : ∃ x y, M i x = some y ∧ T px py i x j < 0
    · obtain ⟨x0, y0, e0, k0⟩ := B
      obtain ⟨x, ⟨y, e, k⟩, hm⟩ := max_list (fun x => ∃ y, M i x = some y ∧ T px py i x j < 0) (fun x => dt px py i x j) (fun x => - T px py i x j) (fun x hx => by obtain ⟨_, _, k⟩ := hx; omega) (List.range n)
        ⟨x0, by simp only [List.mem_range]; exact (h.lts e0).2.1, y0, e0, k0⟩
      cases hx : M x i with
      | none => have := h.bor i x y e hx j h2; omega
      | some z =>
        have ez := h.cyc _ _ _ hx
        have t1 : T px py i j x = - T px py i x j := by unfold T tw; grind
        rcases Int.lt_or_le (T px py i z j) 0 with g | g
        · exfalso
          have := hm z (by simp only [List.mem_range]; exact (h.lts ez).2.1) ⟨x, ez, g⟩
          have id := dt_id (px := px) (py := py) i z x j
          have := Int.mul_pos L (h.pos _ _ _ ez)
          simp only [Int.mul_neg] at *
          omega
        · exact ⟨z, x, ez, g, by omega⟩
    · obtain ⟨x, y, e⟩ := hc i h1
      rcases Int.lt_or_le (T px py i j y) 0 with g | g
      · exfalso
        obtain ⟨z, hz⟩ := bord x y e g
        have g' : T px py i y j = - T px py i j y := by unfold T tw; grind
        exact A ⟨y, z, hz, by omega⟩
      · refine ⟨x, y, e, ?_, g⟩
        rcases Int.lt_or_le (T px py i x j) 0 with k | k
        · exact absurd ⟨x, y, e, k⟩ B
        · exact k

theorem par_x (i j d : Nat) : dt px py i j j * (px d - px i) = dt px py i d j * (px j - px i) - (py j - py i) * T px py i j d := by unfold dt T tw; grind
theorem par_y (i j d : Nat) : dt px py i j j * (py d - py i) = dt px py i d j * (py j - py i) + (px j - px i) * T px py i j d := by unfold dt T tw; grind

section
variable {i j d : Nat} (h0 : T px py i j d = 0)
include h0

theorem lin (u v : Nat) : dt px py i j j * T px py u v d = dt px py i j j * T px py u v i + dt px py i d j * (T px py u v j - T px py u v i) := by
  have x := par_x (px := px) (py := py) i j d
  have y := par_y (px := px) (py := py) i j d
  rw [h0] at x y
  have e : dt px py i j j * T px py u v d = dt px py i j j * T px py u v i + (px v - px u) * (dt px py i j j * (py d - py i)) - (py v - py u) * (dt px py i j j * (px d - px i)) := by unfold T tw; grind
  rw [e, x, y]
  unfold T tw; grind

theorem dot_on : dt px py i j j * dt px py d i j = dt px py i d j * (dt px py i d j - dt px py i j j) := by
  have x := par_x (px := px) (py := py) i j d
  have y := par_y (px := px) (py := py) i j d
  rw [h0] at x y
  have e : dt px py i j j * dt px py d i j = (dt px py i j j * (px d - px i)) * (px d - px i) + (dt px py i j j * (py d - py i)) * (py d - py i) - dt px py i j j * dt px py i d j := by unfold dt; grind
  rw [e, x, y]
  have f : dt px py i d j = (px d - px i) * (px j - px i) + (py d - py i) * (py j - py i) := rfl
  grind

/-- A point on the line ahead that is not between: it lies beyond. -/
theorem beyond (hi : Inj px py n) (h1 : i < n) (h2 : j < n) (h3 : d < n) (hne : i ≠ j) (hd : d ≠ j) (hb : ¬ dt px py d i j < 0) (hk : 0 < dt px py i d j) : dt px py i j j < dt px py i d j := by
  have L := dt_pos hi h1 h2 hne
  have e := dot_on h0
  have a : 0 ≤ dt px py i j j * dt px py d i j := Int.mul_nonneg (by omega) (by omega)
  rw [e] at a
  have b := nonneg_of_mul hk a
  rcases Int.lt_or_eq_of_le (show dt px py i j j ≤ dt px py i d j by omega) with k | k
  · exact k
  · exfalso
    have x := par_x (px := px) (py := py) i j d
    have y := par_y (px := px) (py := py) i j d
    rw [h0, ← k] at x y
    have x' : px d - px i = px j - px i := Int.eq_of_mul_eq_mul_left (show dt px py i j j ≠ 0 by omega) (by omega)
    have y' : py d - py i = py j - py i := Int.eq_of_mul_eq_mul_left (show dt px py i j j ≠ 0 by omega) (by omega)
    exact hd (hi d j h3 h2 (by omega) (by omega))
end

theorem T_111 (a b : Nat) : T px py a b a = 0 := by unfold T tw; grind
theorem T_122 (a b : Nat) : T px py a b b = 0 := by unfold T tw; grind
theorem T_132 (a b c : Nat) : T px py a c b = - T px py a b c := by unfold T tw; grind

/-- A line that no point lies on, and at which no side that crosses it is folded upward, if all are lifted by how far they lie from it, is a side. -/
theorem Mesh.line (h : Mesh px py n M) (hi : Inj px py n) (hc : Cor n M) {i j : Nat} (h1 : i < n) (h2 : j < n) (hne : i ≠ j)
    (hb : ∀ d, d < n → T px py i j d = 0 → ¬ dt px py d i j < 0)
    (hl : ∀ a b c d, M a b = some c → M b a = some d → T px py i j a < 0 → 0 < T px py i j b → 0 < T px py a b i → T px py a b j < 0 → Wg px py (fun u => ((T px py i j u).natAbs : Int)) a b c d ≤ 0) :
    (∃ c, M i j = some c) ∨ ∃ c, M j i = some c := by
  have L := dt_pos hi h1 h2 hne
  obtain ⟨x, y, e, t1, t2⟩ := h.star hi hc h1 h2 hne
  have lx := h.lts e
  have pe := h.pos _ _ _ e
  have exy := h.cyc _ _ _ e
  have eyi := h.cyc _ _ _ exy
  have pxy : T px py x y i = T px py i x y := by rw [T_cyc i x y]
  have cyc2 : T px py y i j = T px py i j y := T_cyc _ _ _
  have emp := h.empty hi hc e h2 t1
  rw [cyc2] at emp
  by_cases z1 : T px py i x j = 0
  · by_cases hx : x = j
    · exact .inl ⟨y, hx ▸ e⟩
    · exfalso
      have z : T px py i j x = 0 := by rw [T_132]; omega
      have l1 := lin z i y
      rw [T_111, T_132 i x y, T_132 i j y] at l1
      have k : 0 < dt px py i x j := by
        have a : 0 < dt px py i j j * T px py i x y := Int.mul_pos L pe
        rw [Int.mul_neg, Int.mul_zero] at l1
        rcases Int.lt_or_le 0 (dt px py i x j) with g | g
        · exact g
        · have := Int.mul_nonpos_of_nonpos_of_nonneg g t2
          have f : dt px py i x j * (-T px py i j y - 0) = - (dt px py i x j * T px py i j y) := by grind
          omega
      have bq := beyond z hi h1 h2 lx.2.1 hne hx (hb x lx.2.1 z) k
      have l2 := lin z x y
      rw [T_111] at l2
      have f : dt px py i x j * T px py x y j = (dt px py i x j - dt px py i j j) * T px py x y i := by grind
      have g : 0 < T px py x y j := by
        refine pos_of_mul k ?_
        rw [f]; exact Int.mul_pos (by omega) (by omega)
      rcases emp (by omega) t2 with q | q | q
      · exact hne q.symm
      · exact hx q.symm
      · subst q; rw [T_122] at g; omega
  · by_cases z2 : T px py i j y = 0
    · by_cases hy : y = j
      · exact .inr ⟨x, hy ▸ eyi⟩
      · exfalso
        have l1 := lin z2 i x
        rw [T_111] at l1
        have k : 0 < dt px py i y j := by
          have a : 0 < dt px py i j j * T px py i x y := Int.mul_pos L pe
          rw [Int.mul_zero] at l1
          rcases Int.lt_or_le 0 (dt px py i y j) with g | g
          · exact g
          · have := Int.mul_nonpos_of_nonpos_of_nonneg g t1
            have f : dt px py i y j * (T px py i x j - 0) = dt px py i y j * T px py i x j := by grind
            omega
        have bq := beyond z2 hi h1 h2 lx.2.2 hne hy (hb y lx.2.2 z2) k
        have l2 := lin z2 x y
        rw [T_122] at l2
        have f : dt px py i y j * T px py x y j = (dt px py i y j - dt px py i j j) * T px py x y i := by grind
        have g : 0 < T px py x y j := by
          refine pos_of_mul k ?_
          rw [f]; exact Int.mul_pos (by omega) (by omega)
        rcases emp (by omega) t2 with q | q | q
        · exact hne q.symm
        · subst q; rw [T_111] at g; omega
        · exact hy q.symm
    · exfalso
      have r : T px py x y j < 0 := by
        rcases Int.lt_or_le (T px py x y j) 0 with g | g
        · exact g
        · exfalso
          rcases emp g t2 with q | q | q
          · exact hne q.symm
          · subst q; rw [T_122] at z1; exact z1 rfl
          · subst q; rw [T_122] at z2; exact z2 rfl
      have e1 : ∀ a b, TQ px py (px i) (py i) 1 a b = T px py a b i := fun a b => by unfold TQ T tw; grind
      have e2 : ∀ a, TQ px py (px i) (py i) 1 j a = T px py i j a := fun a => by unfold TQ T tw; grind
      have hix : T px py i j x < 0 := by rw [T_132]; omega
      have hiy : 0 < T px py i j y := by omega
      have hN : 0 < Wg px py (fun u => ((T px py i j u).natAbs : Int)) x y i j := by
        have f : Wg px py (fun u => ((T px py i j u).natAbs : Int)) x y i j = ((T px py i j x).natAbs : Int) * T px py i j y + ((T px py i j y).natAbs : Int) * T px py i x j := by
          unfold Wg
          dsimp only
          rw [T_122, T_111, T_cyc j y i, T_cyc y i j, T_cyc j i x]
          simp
        rw [f]
        have a := Int.mul_pos (show 0 < ((T px py i j x).natAbs : Int) by omega) hiy
        have b := Int.mul_pos (show 0 < ((T px py i j y).natAbs : Int) by omega) (show 0 < T px py i x j by omega)
        omega
      have hD : 0 < T px py x y i := by omega
      have first : StG px py (fun u => ((T px py i j u).natAbs : Int)) M (px i) (py i) 1 j (Wg px py (fun u => ((T px py i j u).natAbs : Int)) x y i j) (T px py x y i) x y :=
        ⟨⟨i, exy, Int.le_refl _⟩, by rw [e1]; omega, r, by rw [e2]; exact hix, by rw [e2]; exact hiy⟩
      obtain ⟨u, v, s, hm⟩ := max_pair (n := n) (StG px py (fun u => ((T px py i j u).natAbs : Int)) M (px i) (py i) 1 j (Wg px py (fun u => ((T px py i j u).natAbs : Int)) x y i j) (T px py x y i)) (fun u v => TQ px py (px i) (py i) 1 u v) (fun u v => TQ px py (px i) (py i) 1 j v - TQ px py (px i) (py i) 1 j u)
        (fun u v s => by have := s.sa; have := s.sb; omega) (fun u v s => by obtain ⟨w, hw, _⟩ := s.tri; exact ⟨(h.lts hw).1, (h.lts hw).2.1⟩) ⟨x, y, first⟩
      have sq := s.q
      have sr := s.r
      have sa := s.sa
      have sb := s.sb
      rw [e1] at sq
      rw [e2] at sa sb
      obtain ⟨u', v', s', hlt⟩ := st_stepG h hi hc (by omega) h2 hD hN s (fun c d f1 f2 => hl u v c d f1 f2 sa sb sq sr) (fun d hm2 hd => by
        rw [e2]
        intro z
        have ld := h.lts hm2
        have t2 := h.pos _ _ _ hm2
        have l1 := lin z v u
        have s1 : T px py v u i = - T px py u v i := T_swap _ _ _
        have s2 : T px py v u j = - T px py u v j := T_swap _ _ _
        have k : 0 < dt px py i d j := by
          rcases Int.lt_or_le 0 (dt px py i d j) with g | g
          · exact g
          · exfalso
            have a1 : 0 < dt px py i j j * T px py v u d := Int.mul_pos L t2
            have a2 : dt px py i j j * T px py v u i < 0 := Int.mul_neg_of_pos_of_neg L (by omega)
            have a3 := Int.mul_nonpos_of_nonpos_of_nonneg g (show 0 ≤ T px py v u j - T px py v u i by omega)
            omega
        have bq := beyond z hi h1 h2 ld.2.2 hne hd (hb d ld.2.2 z) k
        have l2 := lin z d v
        have l3 := lin z u d
        have l4 := lin z i v
        have l5 := lin z i u
        rw [T_111] at l2
        rw [T_122] at l3
        rw [T_111, T_132 i j v] at l4
        rw [T_111, T_132 i j u] at l5
        have c1 : T px py d v i = - T px py i v d := by unfold T tw; grind
        have c2 : T px py u d i = T px py i u d := by unfold T tw; grind
        have p1 : 0 < T px py d v i := by
          refine pos_of_mul L ?_
          rw [c1, Int.mul_neg, l4]
          have := Int.mul_pos k sb
          grind
        have p2 : 0 < T px py u d i := by
          refine pos_of_mul L ?_
          rw [c2, l5]
          have := Int.mul_pos k (show 0 < - T px py i j u by omega)
          grind
        have f1 : dt px py i d j * T px py d v j = (dt px py i d j - dt px py i j j) * T px py d v i := by grind
        have f2 : dt px py i d j * T px py u d j = (dt px py i d j - dt px py i j j) * T px py u d i := by grind
        have g1 : 0 < T px py d v j := pos_of_mul k (by rw [f1]; exact Int.mul_pos (by omega) p1)
        have g2 : 0 < T px py u d j := pos_of_mul k (by rw [f2]; exact Int.mul_pos (by omega) p2)
        rcases h.empty hi hc hm2 h2 (by omega) (by omega) (by omega) with q | q | q
        · subst q; rw [T_122] at sr; omega
        · subst q; rw [T_111] at sr; omega
        · exact hd q.symm)
      have := hm u' v' s'
      omega

end Go.Proofs.YtdbebbbceeopaaaGreat.Geo

set_option linter.unusedSimpArgs false
namespace Go.Proofs.YtdbebbbceeopaaaGreat.Geo
variable {Pos : Int → Int → Prop} {px py : Nat → Int} {n : Nat}

/-- The sides of a walk, its end first. -/
def Ed : List Nat → Nat → Nat → Prop
  | l :: b :: s, u, v => (u = b ∧ v = l) ∨ Ed (b :: s) u v
  | _, _, _ => False

/-- A walk all of whose sides have all of r to the left, or on them. -/
def Gd (Pos : Int → Int → Prop) (px py : Nat → Int) (r : List Nat) : List Nat → Prop
  | l :: b :: s => Lt Pos px py b l ∧ (∀ p ∈ r, 0 ≤ T px py b l p) ∧ Gd Pos px py r (b :: s)
  | _ => True

/-- A triangle put in. -/
def addT (A : Nat → Nat → Option Nat) (a b c : Nat) : Nat → Nat → Option Nat := fun u v =>
  if u = a ∧ v = b then some c else if u = b ∧ v = c then some a else if u = c ∧ v = a then some b else A u v

/-- What lies beneath a walk: as far as areas are reckoned side by side. -/
def c2 (px py : Nat → Int) (u v : Nat) : Int := px u * py v - py u * px v

def shs (px py : Nat → Int) : List Nat → Int
  | l :: b :: s => c2 px py b l + shs px py (b :: s)
  | _ => 0

theorem addT_keep {A : Nat → Nat → Option Nat} {a b c u v : Nat} (h : A u v ≠ none) : addT A a b c u v ≠ none := by
  unfold addT
  split
  · simp
  · split
    · simp
    · split
      · simp
      · exact h

theorem addT_old {A : Nat → Nat → Option Nat} {a b c u v : Nat} (h1 : ¬ (u = a ∧ v = b)) (h2 : ¬ (u = b ∧ v = c)) (h3 : ¬ (u = c ∧ v = a)) : addT A a b c u v = A u v := by
  unfold addT
  rw [if_neg h1, if_neg h2, if_neg h3]

theorem addT_cases {A : Nat → Nat → Option Nat} {a b c u v w : Nat} (h : addT A a b c u v = some w) : (u = a ∧ v = b ∧ w = c) ∨ (u = b ∧ v = c ∧ w = a) ∨ (u = c ∧ v = a ∧ w = b) ∨ A u v = some w := by
  unfold addT at h
  split at h
  · rename_i k; cases h; exact .inl ⟨k.1, k.2, rfl⟩
  · split at h
    · rename_i k; cases h; exact .inr (.inl ⟨k.1, k.2, rfl⟩)
    · split at h
      · rename_i k; cases h; exact .inr (.inr (.inl ⟨k.1, k.2, rfl⟩))
      · exact .inr (.inr (.inr h))

theorem addT_1 (A : Nat → Nat → Option Nat) (a b c : Nat) : addT A a b c a b = some c := by unfold addT; simp
theorem addT_2 (A : Nat → Nat → Option Nat) (a b c : Nat) (_h : a ≠ b) : addT A a b c b c = some a := by unfold addT; rw [if_neg (by omega), if_pos ⟨rfl, rfl⟩]
theorem addT_3 (A : Nat → Nat → Option Nat) (a b c : Nat) (_h : a ≠ c) (h' : b ≠ c) : addT A a b c c a = some b := by unfold addT; rw [if_neg (by omega), if_neg (by omega), if_pos ⟨rfl, rfl⟩]

theorem addT_cyc {A : Nat → Nat → Option Nat} {a b c : Nat} (hc : ∀ u v w, A u v = some w → A v w = some u) (h1 : a ≠ b) (h2 : a ≠ c) (h3 : b ≠ c) (k1 : A a b = none) (k2 : A b c = none) (k3 : A c a = none) :
    ∀ u v w, addT A a b c u v = some w → addT A a b c v w = some u := by
  intro u v w h
  rcases addT_cases h with ⟨rfl, rfl, rfl⟩ | ⟨rfl, rfl, rfl⟩ | ⟨rfl, rfl, rfl⟩ | h'
  · exact addT_2 A _ _ _ h1
  · exact addT_3 A _ _ _ h2 h3
  · exact addT_1 A _ _ _
  · have := hc _ _ _ h'
    rw [addT_old]
    · exact this
    · rintro ⟨rfl, rfl⟩; rw [k1] at this; cases this
    · rintro ⟨rfl, rfl⟩; rw [k2] at this; cases this
    · rintro ⟨rfl, rfl⟩; rw [k3] at this; cases this

theorem addT_sum {A : Nat → Nat → Option Nat} {a b c : Nat} (K : Nat → Nat → Nat → Int) (h1 : a ≠ b) (h2 : a ≠ c) (h3 : b ≠ c) (k1 : A a b = none) (k2 : A b c = none) (k3 : A c a = none) (la : a < n) (lb : b < n) (lc : c < n) :
    Sd n (addT A a b c) K = Sd n A K + (K a b c + K b c a + K c a b) := by
  have := sm2_diff (n := n) [(a, b), (b, c), (c, a)] (fun u v => el (addT A a b c u v) fun w => K u v w) (fun u v => el (A u v) fun w => K u v w)
    (by simp only [List.nodup_cons, List.mem_cons, Prod.mk.injEq, List.not_mem_nil, or_false, not_or, List.nodup_nil, and_true, not_false_eq_true]; omega)
    (by
      intro k hk
      simp only [List.mem_cons, List.not_mem_nil, or_false] at hk
      rcases hk with rfl | rfl | rfl <;> (dsimp only; omega))
    (by
      intro u v _ _ hn
      simp only [List.mem_cons, Prod.mk.injEq, List.not_mem_nil, or_false, not_or] at hn
      rw [addT_old hn.1 hn.2.1 hn.2.2])
  simp only [List.map_cons, List.map_nil, List.sum_cons, List.sum_nil, addT_1, addT_2 A a b c h1, addT_3 A a b c h2 h3, k1, k2, k3, el_some, el_none] at this
  unfold Sd
  omega

theorem Ed.mem : ∀ {s : List Nat} {u v : Nat}, Ed s u v → u ∈ s ∧ v ∈ s
  | l :: b :: s, u, v, h => by
    rcases h with ⟨rfl, rfl⟩ | h
    · exact ⟨by simp, by simp⟩
    · have := Ed.mem h
      exact ⟨List.mem_cons_of_mem _ this.1, List.mem_cons_of_mem _ this.2⟩

theorem Gd.below (H : Half Pos) {r : List Nat} : ∀ {s : List Nat} {l : Nat}, Gd Pos px py r (l :: s) → ∀ y ∈ s, Lt Pos px py y l
  | [], _, _, y, hy => by cases hy
  | b :: s, l, h, y, hy => by
    rcases List.mem_cons.1 hy with rfl | hy
    · exact h.1
    · exact (Gd.below H h.2.2 y hy).trans H h.1

theorem Gd.side {r : List Nat} : ∀ {s : List Nat}, Gd Pos px py r s → ∀ u v, Ed s u v → Lt Pos px py u v ∧ ∀ p ∈ r, 0 ≤ T px py u v p
  | l :: b :: s, h, u, v, he => by
    rcases he with ⟨rfl, rfl⟩ | he
    · exact ⟨h.1, h.2.1⟩
    · exact Gd.side h.2.2 u v he

/-- All that is known between two points of a sweep: r has all that were seen, the last first; s is the walk, its end first; A has the triangles. -/
structure Inv (Pos : Int → Int → Prop) (px py : Nat → Int) (n : Nat) (last : Nat) (r s : List Nat) (A : Nat → Nat → Option Nat) : Prop where
  sub : ∀ y ∈ last :: s, y ∈ last :: r
  bot : ∀ m, (last :: s).getLast? = some m → ∀ p ∈ last :: r, p = m ∨ Lt Pos px py m p
  gd : Gd Pos px py (last :: r) (last :: s)
  cyc : ∀ u v w, A u v = some w → A v w = some u
  pos : ∀ u v w, A u v = some w → 0 < T px py u v w
  mem : ∀ u v w, A u v = some w → u ∈ last :: r
  btw : ∀ u v w, A u v = some w → Lt Pos px py u v → Lt Pos px py u w ∧ Lt Pos px py w v
  f4 : ∀ u v w, A u v = some w → Lt Pos px py u v → A v u ≠ none ∨ Ed (last :: s) u v
  f5 : ∀ u v, Ed (last :: s) u v → A v u = none
  f6 : ∀ u v w, A v u = some w → Lt Pos px py u v → A u v ≠ none ∨ Ed (last :: r) u v
  f7 : ∀ u v, Ed (last :: s) u v → A u v ≠ none ∨ Ed (last :: r) u v
  f8 : ∀ u v, Ed (last :: r) u v → A v u ≠ none ∨ Ed (last :: s) u v
  f9 : ∀ u v w, A u v = some w → Lt Pos px py u v → ∀ p ∈ last :: r, Lt Pos px py u p → Lt Pos px py p v → 0 ≤ T px py u v p
  ar : Sd n A (fun u v _ => c2 px py u v) = shs px py (last :: s) - shs px py (last :: r)
  cn : Sd n A (fun _ _ _ => 1) + 3 * ((last :: s).length : Int) = 3 * ((last :: r).length : Int)

/-- All that is known while the walk is made shorter ahead of a new point x. -/
structure Rd (Pos : Int → Int → Prop) (px py : Nat → Int) (n : Nat) (last : Nat) (r : List Nat) (l : Nat) (s : List Nat) (x : Nat) (A : Nat → Nat → Option Nat) : Prop where
  sub : ∀ y ∈ l :: s, y ∈ last :: r
  bot : ∀ m, (l :: s).getLast? = some m → ∀ p ∈ last :: r, p = m ∨ Lt Pos px py m p
  gd : Gd Pos px py (last :: r) (l :: s)
  cyc : ∀ u v w, A u v = some w → A v w = some u
  pos : ∀ u v w, A u v = some w → 0 < T px py u v w
  mem : ∀ u v w, A u v = some w → u ∈ last :: r ∨ u = x
  btw : ∀ u v w, A u v = some w → Lt Pos px py u v → Lt Pos px py u w ∧ Lt Pos px py w v
  f4 : ∀ u v w, A u v = some w → Lt Pos px py u v → A v u ≠ none ∨ Ed (l :: s) u v ∨ (u = l ∧ v = x)
  f5 : ∀ u v, Ed (l :: s) u v → A v u = none
  f6 : ∀ u v w, A v u = some w → Lt Pos px py u v → A u v ≠ none ∨ Ed (x :: last :: r) u v
  f7 : ∀ u v, Ed (l :: s) u v → A u v ≠ none ∨ Ed (last :: r) u v
  g1 : A l x ≠ none ∨ l = last
  f8 : ∀ u v, Ed (last :: r) u v → A v u ≠ none ∨ Ed (l :: s) u v
  g8 : l = last ∨ A x last ≠ none
  f9 : ∀ u v w, A u v = some w → Lt Pos px py u v → ∀ p ∈ last :: r, Lt Pos px py u p → Lt Pos px py p v → 0 ≤ T px py u v p
  g9 : ∀ p ∈ last :: r, Lt Pos px py l p → 0 ≤ T px py l x p
  h1 : ∀ u, A u x ≠ none → u = l ∨ Lt Pos px py l u
  h2 : ∀ u, A x u ≠ none → Lt Pos px py l u
  ar : Sd n A (fun u v _ => c2 px py u v) = shs px py (l :: s) + c2 px py l x - shs px py (x :: last :: r)
  cn : Sd n A (fun _ _ _ => 1) + 3 * ((l :: s).length : Int) = 3 * ((last :: r).length : Int)

theorem rd_start (H : Half Pos) {last x : Nat} {r s : List Nat} {A : Nat → Nat → Option Nat} (h : Inv Pos px py n last r s A) (hx : ∀ p ∈ last :: r, Lt Pos px py p x) (hmax : ∀ p ∈ r, Lt Pos px py p last) : Rd Pos px py n last r last s x A := by
  have hxr : x ∉ last :: r := fun k => lt_irrefl H (hx x k)
  refine ⟨h.sub, h.bot, h.gd, h.cyc, h.pos, fun u v w e => .inl (h.mem u v w e), h.btw, fun u v w e k => ?_, h.f5, fun u v w e k => ?_, h.f7, .inr rfl, h.f8, .inl rfl, h.f9, fun p hp k => ?_, fun u k => ?_, fun u k => ?_, ?_, h.cn⟩
  · rcases h.f4 u v w e k with g | g
    · exact .inl g
    · exact .inr (.inl g)
  · rcases h.f6 u v w e k with g | g
    · exact .inl g
    · exact .inr (.inr g)
  · exfalso
    rcases List.mem_cons.1 hp with rfl | hp
    · exact lt_irrefl H k
    · exact lt_irrefl H ((hmax p hp).trans H k)
  · exfalso
    cases hm : A u x with
    | none => exact k hm
    | some w => exact hxr (h.mem _ _ _ (h.cyc _ _ _ hm))
  · exfalso
    cases hm : A x u with
    | none => exact k hm
    | some w => exact hxr (h.mem _ _ _ hm)
  · have := h.ar
    rw [this]
    show _ = shs px py (last :: s) + c2 px py last x - (c2 px py last x + shs px py (last :: r))
    omega

theorem rd_pop (H : Half Pos) {last x l b : Nat} {r s : List Nat} {A : Nat → Nat → Option Nat} (h : Rd Pos px py n last r l (b :: s) x A) (hx : ∀ p ∈ last :: r, Lt Pos px py p x) (hn : ∀ p ∈ last :: r, p < n) (hxn : x < n)
    (hT : T px py b l x < 0) : Rd Pos px py n last r b s x (addT A b x l) := by
  have hbl : Lt Pos px py b l := h.gd.1
  have lr : l ∈ last :: r := h.sub l (by simp)
  have br : b ∈ last :: r := h.sub b (by simp)
  have hlx := hx l lr
  have hbx := hx b br
  have nbl : b ≠ l := fun e => by subst e; exact lt_irrefl H hbl
  have nlx : l ≠ x := fun e => by subst e; exact lt_irrefl H hlx
  have nbx : b ≠ x := fun e => by subst e; exact lt_irrefl H hbx
  have hxr : ∀ p ∈ last :: r, p ≠ x := fun p hp e => by subst e; exact lt_irrefl H (hx p hp)
  have t1 : 0 < T px py b x l := by rw [T_cyc, T_cyc, T_swap]; omega
  have k1 : A b x = none := by
    cases hm : A b x with
    | none => rfl
    | some w =>
      rcases h.h1 b (by rw [hm]; simp) with e | e
      · exact absurd e nbl
      · exact (lt_irrefl H (e.trans H hbl)).elim
  have k2 : A x l = none := by
    cases hm : A x l with
    | none => rfl
    | some w => exact (lt_irrefl H (h.h2 l (by rw [hm]; simp))).elim
  have k3 : A l b = none := h.f5 b l (.inl ⟨rfl, rfl⟩)
  have notin : ∀ y ∈ b :: s, y ≠ l := fun y hy e => by subst e; exact lt_irrefl H (h.gd.below H y hy)
  refine ⟨fun y hy => h.sub y (List.mem_cons_of_mem _ hy), fun m hm => h.bot m (by rw [List.getLast?_cons_cons]; exact hm), h.gd.2.2, addT_cyc h.cyc nbx nbl (Ne.symm nlx) k1 k2 k3, ?_, ?_, ?_, ?_, ?_, ?_, ?_, ?_, ?_, ?_, ?_, ?_, ?_, ?_, ?_, ?_⟩
  · intro u v w e
    rcases addT_cases e with ⟨rfl, rfl, rfl⟩ | ⟨rfl, rfl, rfl⟩ | ⟨rfl, rfl, rfl⟩ | e'
    · exact t1
    · rw [← T_cyc]; exact t1
    · rw [T_cyc]; exact t1
    · exact h.pos _ _ _ e'
  · intro u v w e
    rcases addT_cases e with ⟨rfl, rfl, rfl⟩ | ⟨rfl, rfl, rfl⟩ | ⟨rfl, rfl, rfl⟩ | e'
    · exact .inl br
    · exact .inr rfl
    · exact .inl lr
    · exact h.mem _ _ _ e'
  · intro u v w e k
    rcases addT_cases e with ⟨rfl, rfl, rfl⟩ | ⟨rfl, rfl, rfl⟩ | ⟨rfl, rfl, rfl⟩ | e'
    · exact ⟨hbl, hlx⟩
    · exact (lt_irrefl H (k.trans H hlx)).elim
    · exact (lt_irrefl H (k.trans H hbl)).elim
    · exact h.btw _ _ _ e' k
  · intro u v w e k
    rcases addT_cases e with ⟨rfl, rfl, rfl⟩ | ⟨rfl, rfl, rfl⟩ | ⟨rfl, rfl, rfl⟩ | e'
    · exact .inr (.inr ⟨rfl, rfl⟩)
    · exact (lt_irrefl H (k.trans H hlx)).elim
    · exact (lt_irrefl H (k.trans H hbl)).elim
    · rcases h.f4 _ _ _ e' k with g | (⟨rfl, rfl⟩ | g) | ⟨rfl, rfl⟩
      · exact .inl (addT_keep g)
      · exact .inl (by rw [addT_3 A _ _ _ nbl (Ne.symm nlx)]; simp)
      · exact .inr (.inl g)
      · exact .inl (by rw [addT_2 A _ _ _ nbx]; simp)
  · intro u v e
    have old := h.f5 u v (.inr e)
    have m := Ed.mem e
    rw [addT_old]
    · exact old
    · rintro ⟨_, e2⟩; exact hxr u (h.sub u (List.mem_cons_of_mem _ m.1)) e2
    · rintro ⟨e1, _⟩; exact hxr v (h.sub v (List.mem_cons_of_mem _ m.2)) e1
    · rintro ⟨e1, _⟩; exact notin v m.2 e1
  · intro u v w e k
    rcases addT_cases e with ⟨e1, e2, e3⟩ | ⟨e1, e2, e3⟩ | ⟨e1, e2, e3⟩ | e'
    · subst e1 e2; exact (lt_irrefl H (k.trans H hbx)).elim
    · subst e1 e2
      rcases h.g1 with g | g
      · exact .inl (addT_keep g)
      · exact .inr (.inl ⟨g, rfl⟩)
    · subst e1 e2
      rcases h.f7 _ _ (.inl ⟨rfl, rfl⟩) with g | g
      · exact .inl (addT_keep g)
      · exact .inr (.inr g)
    · rcases h.f6 _ _ _ e' k with g | g
      · exact .inl (addT_keep g)
      · exact .inr g
  · intro u v e
    rcases h.f7 u v (.inr e) with g | g
    · exact .inl (addT_keep g)
    · exact .inr g
  · exact .inl (by rw [addT_1]; simp)
  · intro u v e
    rcases h.f8 u v e with g | (⟨rfl, rfl⟩ | g)
    · exact .inl (addT_keep g)
    · exact .inl (by rw [addT_3 A _ _ _ nbl (Ne.symm nlx)]; simp)
    · exact .inr g
  · right
    rcases h.g8 with g | g
    · rw [← g, addT_2 A _ _ _ nbx]; simp
    · exact addT_keep g
  · intro u v w e k p hp kp1 kp2
    rcases addT_cases e with ⟨rfl, rfl, rfl⟩ | ⟨rfl, rfl, rfl⟩ | ⟨rfl, rfl, rfl⟩ | e'
    · have e1 : 0 ≤ cr (px v - px u) (py v - py u) (px w - px u) (py w - py u) := by rw [← T_cr]; omega
      have e2 : 0 ≤ cr (px w - px u) (py w - py u) (px p - px u) (py p - py u) := by rw [← T_cr]; exact h.gd.2.1 p hp
      rw [T_cr]
      exact H.tr _ _ _ _ _ _ hbx hbl kp1 e1 e2
    · exact (lt_irrefl H (k.trans H hlx)).elim
    · exact (lt_irrefl H (k.trans H hbl)).elim
    · exact h.f9 _ _ _ e' k p hp kp1 kp2
  · intro p hp kp
    have e1 : 0 ≤ cr (px x - px b) (py x - py b) (px l - px b) (py l - py b) := by rw [← T_cr]; omega
    have e2 : 0 ≤ cr (px l - px b) (py l - py b) (px p - px b) (py p - py b) := by rw [← T_cr]; exact h.gd.2.1 p hp
    rw [T_cr]
    exact H.tr _ _ _ _ _ _ hbx hbl kp e1 e2
  · intro u k
    cases hm : addT A b x l u x with
    | none => exact absurd hm k
    | some w =>
      rcases addT_cases hm with ⟨e1, _, _⟩ | ⟨_, e2, _⟩ | ⟨_, e2, _⟩ | e'
      · exact .inl e1
      · exact absurd e2.symm nlx
      · exact absurd e2.symm nbx
      · rcases h.h1 u (by rw [e']; simp) with g | g
        · subst g; exact .inr hbl
        · exact .inr (hbl.trans H g)
  · intro u k
    cases hm : addT A b x l x u with
    | none => exact absurd hm k
    | some w =>
      rcases addT_cases hm with ⟨e1, _, _⟩ | ⟨_, e2, _⟩ | ⟨e1, _, _⟩ | e'
      · exact absurd e1.symm nbx
      · subst e2; exact hbl
      · exact absurd e1.symm nlx
      · exact hbl.trans H (h.h2 u (by rw [e']; simp))
  · rw [addT_sum _ nbx nbl (Ne.symm nlx) k1 k2 k3 (hn b br) hxn (hn l lr), h.ar]
    show (c2 px py b l + shs px py (b :: s)) + c2 px py l x - shs px py (x :: last :: r) + _ = _
    have e1 : c2 px py x l = - c2 px py l x := by unfold c2; grind
    have e2 : c2 px py l b = - c2 px py b l := by unfold c2; grind
    omega
  · rw [addT_sum _ nbx nbl (Ne.symm nlx) k1 k2 k3 (hn b br) hxn (hn l lr)]
    have := h.cn
    simp only [List.length_cons, Int.natCast_add] at this ⊢
    omega

theorem gd_ext (H : Half Pos) {r : List Nat} {x : Nat} : ∀ {s : List Nat} {l b : Nat}, Gd Pos px py r (l :: b :: s) → (∀ y ∈ l :: b :: s, y ∈ r) → 0 ≤ T px py b l x → Lt Pos px py l x → Gd Pos px py (x :: r) (l :: b :: s)
  | [], l, b, h, _, hx, _ => ⟨h.1, fun p hp => by
      rcases List.mem_cons.1 hp with rfl | hp
      · exact hx
      · exact h.2.1 p hp, trivial⟩
  | c :: s, l, b, h, hin, hx, hlx => by
    refine ⟨h.1, fun p hp => ?_, gd_ext H h.2.2 (fun y hy => hin y (List.mem_cons_of_mem _ hy)) ?_ (h.1.trans H hlx)⟩
    · rcases List.mem_cons.1 hp with rfl | hp
      · exact hx
      · exact h.2.1 p hp
    · have e1 : 0 ≤ cr (px b - px c) (py b - py c) (px l - px b) (py l - py b) := by rw [← T_sh]; exact h.2.2.2.1 l (hin l (by simp))
      have e2 : 0 ≤ cr (px l - px b) (py l - py b) (px x - px l) (py x - py l) := by rw [← T_sh]; exact hx
      have e3 := H.tr _ _ _ _ _ _ h.2.2.1 h.1 hlx e1 e2
      rw [T_sh]
      have e4 : cr (px b - px c) (py b - py c) (px x - px b) (py x - py b) = cr (px b - px c) (py b - py c) (px l - px b) (py l - py b) + cr (px b - px c) (py b - py c) (px x - px l) (py x - py l) := by
        unfold cr; grind
      omega

theorem rd_push (H : Half Pos) {last x l : Nat} {r s : List Nat} {A : Nat → Nat → Option Nat} (h : Rd Pos px py n last r l s x A) (hx : ∀ p ∈ last :: r, Lt Pos px py p x)
    (tri : ∀ p ∈ last :: r, ∀ q ∈ last :: r, p = q ∨ Lt Pos px py p q ∨ Lt Pos px py q p) (hT : ∀ b s', s = b :: s' → 0 ≤ T px py b l x) : Inv Pos px py n x (last :: r) (l :: s) A := by
  have lr : l ∈ last :: r := h.sub l (by simp)
  have hlx := hx l lr
  have hgd : Gd Pos px py (x :: last :: r) (l :: s) := by
    cases s with
    | nil => trivial
    | cons b s => exact gd_ext H h.gd h.sub (hT b s rfl) hlx
  refine ⟨?_, ?_, ⟨hlx, ?_, hgd⟩, h.cyc, h.pos, ?_, h.btw, ?_, ?_, ?_, ?_, ?_, ?_, ?_, ?_⟩
  · intro y hy
    rcases List.mem_cons.1 hy with rfl | hy
    · simp
    · exact List.mem_cons_of_mem _ (h.sub y hy)
  · intro m hm p hp
    rw [List.getLast?_cons_cons] at hm
    have mr : m ∈ last :: r := h.sub m (List.mem_of_getLast? hm)
    rcases List.mem_cons.1 hp with rfl | hp
    · exact .inr (hx m mr)
    · exact h.bot m hm p hp
  · intro p hp
    rcases List.mem_cons.1 hp with rfl | hp
    · rw [T_two]; omega
    · rcases tri p hp l lr with rfl | g | g
      · rw [T_one]; omega
      · cases s with
        | nil =>
          rcases h.bot l rfl p hp with rfl | k
          · exact (lt_irrefl H g).elim
          · exact (lt_irrefl H (g.trans H k)).elim
        | cons b s =>
          have e1 : 0 ≤ cr (px l - px p) (py l - py p) (px l - px b) (py l - py b) := by rw [← T_back]; exact h.gd.2.1 p hp
          have e2 : 0 ≤ cr (px l - px b) (py l - py b) (px x - px l) (py x - py l) := by rw [← T_sh]; exact hT b s rfl
          rw [T_on]
          exact H.tr _ _ _ _ _ _ g h.gd.1 hlx e1 e2
      · exact h.g9 p hp g
  · intro u v w e
    rcases h.mem _ _ _ e with g | rfl
    · exact List.mem_cons_of_mem _ g
    · simp
  · intro u v w e k
    rcases h.f4 _ _ _ e k with g | g | ⟨rfl, rfl⟩
    · exact .inl g
    · exact .inr (.inr g)
    · exact .inr (.inl ⟨rfl, rfl⟩)
  · intro u v e
    rcases e with ⟨rfl, rfl⟩ | e
    · cases hm : A v u with
      | none => rfl
      | some w => exact (lt_irrefl H (h.h2 u (by rw [hm]; simp))).elim
    · exact h.f5 u v e
  · intro u v w e k
    exact h.f6 _ _ _ e k
  · intro u v e
    rcases e with ⟨rfl, rfl⟩ | e
    · rcases h.g1 with g | g
      · exact .inl g
      · exact .inr (.inl ⟨g, rfl⟩)
    · rcases h.f7 u v e with g | g
      · exact .inl g
      · exact .inr (.inr g)
  · intro u v e
    rcases e with ⟨rfl, rfl⟩ | e
    · rcases h.g8 with g | g
      · exact .inr (.inl ⟨g.symm, rfl⟩)
      · exact .inl g
    · rcases h.f8 u v e with g | g
      · exact .inl g
      · exact .inr (.inr g)
  · intro u v w e k p hp kp1 kp2
    rcases List.mem_cons.1 hp with rfl | hp
    · exfalso
      rcases h.mem _ _ _ (h.cyc _ _ _ e) with g | g
      · exact lt_irrefl H ((hx v g).trans H kp2)
      · subst g; exact lt_irrefl H kp2
    · exact h.f9 _ _ _ e k p hp kp1 kp2
  · rw [h.ar]
    show _ = (c2 px py l x + shs px py (l :: s)) - _
    omega
  · have := h.cn
    simp only [List.length_cons, Int.natCast_add] at this ⊢
    omega

end Go.Proofs.YtdbebbbceeopaaaGreat.Geo

set_option linter.unusedSimpArgs false
namespace Go.Proofs.YtdbebbbceeopaaaGreat.Geo
variable {Pos Pos2 : Int → Int → Prop} {px py : Nat → Int} {n : Nat}

/-- The walk made shorter ahead of x, and the triangles that it leaves out. -/
def popF (px py : Nat → Int) (x : Nat) : (Nat → Nat → Option Nat) → List Nat → (Nat → Nat → Option Nat) × List Nat
  | A, l :: b :: s => if T px py b l x < 0 then popF px py x (addT A b x l) (b :: s) else (A, l :: b :: s)
  | A, [l] => (A, [l])
  | A, [] => (A, [])

/-- All of a sweep. -/
def sweep (px py : Nat → Int) : (Nat → Nat → Option Nat) → List Nat → List Nat → (Nat → Nat → Option Nat) × List Nat
  | A, s, [] => (A, s)
  | A, s, x :: os => sweep px py (popF px py x A s).1 (x :: (popF px py x A s).2) os

theorem pop_inv (H : Half Pos) {last x : Nat} {r : List Nat} (hx : ∀ p ∈ last :: r, Lt Pos px py p x) (hn : ∀ p ∈ last :: r, p < n) (hxn : x < n)
    (tri : ∀ p ∈ last :: r, ∀ q ∈ last :: r, p = q ∨ Lt Pos px py p q ∨ Lt Pos px py q p) : ∀ (s : List Nat) (l : Nat) (A : Nat → Nat → Option Nat), Rd Pos px py n last r l s x A →
    Inv Pos px py n x (last :: r) (popF px py x A (l :: s)).2 (popF px py x A (l :: s)).1
  | [], l, A, h => rd_push H h hx tri (fun b s' e => by cases e)
  | b :: s, l, A, h => by
    unfold popF
    by_cases hT : T px py b l x < 0
    · rw [if_pos hT]
      exact pop_inv H hx hn hxn tri s b _ (rd_pop H h hx hn hxn hT)
    · rw [if_neg hT]
      exact rd_push H h hx tri (fun b' s' e => by cases e; omega)

theorem sweep_inv (H : Half Pos) : ∀ (os : List Nat) (last : Nat) (r s : List Nat) (A : Nat → Nat → Option Nat), Inv Pos px py n last r s A → (os.reverse ++ last :: r).Pairwise (fun a b => Lt Pos px py b a) → (∀ p ∈ os.reverse ++ last :: r, p < n) →
    ∃ last' r' s', (sweep px py A (last :: s) os).2 = last' :: s' ∧ last' :: r' = os.reverse ++ last :: r ∧ Inv Pos px py n last' r' s' (sweep px py A (last :: s) os).1
  | [], last, r, s, A, h, _, _ => ⟨last, r, s, rfl, rfl, h⟩
  | x :: os, last, r, s, A, h, hp, hn => by
    have e : (x :: os).reverse ++ last :: r = os.reverse ++ x :: last :: r := by simp
    rw [e] at hp hn
    have hp2 : (x :: last :: r).Pairwise (fun a b => Lt Pos px py b a) := (List.pairwise_append.1 hp).2.1
    have hp3 := List.pairwise_cons.1 hp2
    have hp4 := List.pairwise_cons.1 hp3.2
    have tri : ∀ p ∈ last :: r, ∀ q ∈ last :: r, p = q ∨ Lt Pos px py p q ∨ Lt Pos px py q p := by
      intro p hpm q hqm
      obtain ⟨i, hi, rfl⟩ := List.getElem_of_mem hpm
      obtain ⟨j, hj, rfl⟩ := List.getElem_of_mem hqm
      rcases Nat.lt_trichotomy i j with k | k | k
      · exact .inr (.inr (List.pairwise_iff_getElem.1 hp3.2 i j hi hj k))
      · subst k; exact .inl rfl
      · exact .inr (.inl (List.pairwise_iff_getElem.1 hp3.2 j i hj hi k))
    have hI := pop_inv H (n := n) hp3.1 (fun p hpm => hn p (List.mem_append_right _ (List.mem_cons_of_mem _ hpm))) (hn x (by simp)) tri s last A (rd_start H h hp3.1 hp4.1)
    obtain ⟨last', r', s', q1, q2, q3⟩ := sweep_inv H os x (last :: r) _ _ hI hp hn
    exact ⟨last', r', s', q1, by rw [q2]; simp, q3⟩

end Go.Proofs.YtdbebbbceeopaaaGreat.Geo

set_option linter.unusedSimpArgs false
namespace Go.Proofs.YtdbebbbceeopaaaGreat.Geo
variable {Pos Pos2 : Int → Int → Prop} {px py : Nat → Int} {n : Nat}

theorem Ed_snoc : ∀ (l : List Nat) (x u v : Nat), Ed (l ++ [x]) u v ↔ Ed l u v ∨ (l.getLast? = some v ∧ u = x)
  | [], x, u, v => by simp [Ed]
  | [a], x, u, v => by simp [Ed]; omega
  | a :: b :: s, x, u, v => by
    have ih := Ed_snoc (b :: s) x u v
    rw [List.getLast?_cons_cons]
    simp only [List.cons_append] at ih ⊢
    show ((u = b ∧ v = a) ∨ Ed (b :: (s ++ [x])) u v) ↔ ((u = b ∧ v = a) ∨ Ed (b :: s) u v) ∨ _
    rw [ih, or_assoc]

theorem Ed_rev : ∀ (l : List Nat) (u v : Nat), Ed l.reverse u v ↔ Ed l v u
  | [], u, v => by simp [Ed]
  | [a], u, v => by simp [Ed]
  | a :: b :: s, u, v => by
    rw [List.reverse_cons, Ed_snoc, Ed_rev (b :: s) u v]
    show _ ↔ ((v = b ∧ u = a) ∨ Ed (b :: s) v u)
    simp
    constructor
    · rintro (h | ⟨h1, h2⟩)
      · exact .inr h
      · exact .inl ⟨h1.symm, h2⟩
    · rintro (⟨h1, h2⟩ | h)
      · exact .inr ⟨h1.symm, h2⟩
      · exact .inl h

theorem c2_anti (u v : Nat) : c2 px py v u = - c2 px py u v := by unfold c2; grind

theorem shs_snoc : ∀ (l : List Nat) (x y : Nat), l.getLast? = some y → shs px py (l ++ [x]) = shs px py l + c2 px py x y
  | [], x, y, h => by cases h
  | [a], x, y, h => by
    simp at h
    subst h
    show c2 px py x a + 0 = 0 + c2 px py x a
    omega
  | a :: b :: s, x, y, h => by
    rw [List.getLast?_cons_cons] at h
    have ih := shs_snoc (b :: s) x y h
    simp only [List.cons_append] at ih ⊢
    show c2 px py b a + shs px py (b :: (s ++ [x])) = c2 px py b a + shs px py (b :: s) + _
    omega

theorem shs_rev : ∀ (l : List Nat), shs px py l.reverse = - shs px py l
  | [] => rfl
  | [a] => rfl
  | a :: b :: s => by
    rw [List.reverse_cons, shs_snoc _ a b (by simp), shs_rev (b :: s)]
    show _ = - (c2 px py b a + shs px py (b :: s))
    have := c2_anti (px := px) (py := py) a b
    omega

theorem Ed_nb : ∀ (l : List Nat) (p : Nat), p ∈ l → 2 ≤ l.length → ∃ v, Ed l p v ∨ Ed l v p
  | [], p, h, _ => by cases h
  | [a], p, _, h => by simp at h
  | [a, b], p, h, _ => by
    simp at h
    rcases h with rfl | rfl
    · exact ⟨b, .inr (.inl ⟨rfl, rfl⟩)⟩
    · exact ⟨a, .inl (.inl ⟨rfl, rfl⟩)⟩
  | a :: b :: c :: s, p, h, _ => by
    rcases List.mem_cons.1 h with rfl | h
    · exact ⟨b, .inr (.inl ⟨rfl, rfl⟩)⟩
    · obtain ⟨v, hv⟩ := Ed_nb (b :: c :: s) p h (by simp)
      rcases hv with hv | hv
      · exact ⟨v, .inl (.inr hv)⟩
      · exact ⟨v, .inr (.inr hv)⟩

theorem Ed_con (H : Half Pos) : ∀ (l : List Nat), l.Pairwise (fun a b => Lt Pos px py b a) → ∀ u v, Ed l u v → Lt Pos px py u v ∧ ∀ w ∈ l, ¬ (Lt Pos px py u w ∧ Lt Pos px py w v)
  | [], _, u, v, h => by cases h
  | [a], _, u, v, h => by cases h
  | a :: b :: s, hp, u, v, h => by
    have h1 := List.pairwise_cons.1 hp
    have h2 := List.pairwise_cons.1 h1.2
    rcases h with ⟨rfl, rfl⟩ | h
    · refine ⟨h1.1 u (by simp), fun w hw k => ?_⟩
      rcases List.mem_cons.1 hw with rfl | hw
      · exact lt_irrefl H k.2
      · rcases List.mem_cons.1 hw with rfl | hw
        · exact lt_irrefl H k.1
        · exact lt_irrefl H ((h2.1 w hw).trans H k.1)
    · obtain ⟨g1, g2⟩ := Ed_con H (b :: s) h1.2 u v h
      refine ⟨g1, fun w hw k => ?_⟩
      rcases List.mem_cons.1 hw with rfl | hw
      · exact lt_irrefl H ((h1.1 v (Ed.mem h).2).trans H k.2)
      · exact g2 w hw k

/-- Triangles of one kind over those of another. -/
def ov (A B : Nat → Nat → Option Nat) : Nat → Nat → Option Nat := fun u v => match A u v with | some w => some w | none => B u v

theorem addT_ov (A B : Nat → Nat → Option Nat) (a b c : Nat) : addT (ov A B) a b c = ov (addT A a b c) B := by
  funext u v
  unfold addT ov
  by_cases h1 : u = a ∧ v = b
  · simp only [if_pos h1]
  · by_cases h2 : u = b ∧ v = c
    · simp only [if_neg h1, if_pos h2]
    · by_cases h3 : u = c ∧ v = a
      · simp only [if_neg h1, if_neg h2, if_pos h3]
      · simp only [if_neg h1, if_neg h2, if_neg h3]

theorem popF_ov (x : Nat) (B : Nat → Nat → Option Nat) : ∀ (s : List Nat) (A : Nat → Nat → Option Nat), popF px py x (ov A B) s = (ov (popF px py x A s).1 B, (popF px py x A s).2)
  | [], A => rfl
  | [a], A => rfl
  | l :: b :: s, A => by
    unfold popF
    by_cases hT : T px py b l x < 0
    · rw [if_pos hT, if_pos hT, addT_ov, popF_ov x B (b :: s)]
    · rw [if_neg hT, if_neg hT]

theorem sweep_ov (B : Nat → Nat → Option Nat) : ∀ (os s : List Nat) (A : Nat → Nat → Option Nat), sweep px py (ov A B) s os = (ov (sweep px py A s os).1 B, (sweep px py A s os).2)
  | [], s, A => rfl
  | x :: os, s, A => by
    unfold sweep
    rw [popF_ov, sweep_ov B os]

/-- Two sweeps, the one there, the other back. -/
structure Two (Pos Pos2 : Int → Int → Prop) (px py : Nat → Int) (n : Nat) (l1 : Nat) (r1 s1 : List Nat) (A1 : Nat → Nat → Option Nat) (l2 : Nat) (r2 s2 : List Nat) (A2 : Nat → Nat → Option Nat) : Prop where
  i : Inv Pos px py n l1 r1 s1 A1
  j : Inv Pos2 px py n l2 r2 s2 A2
  flip : ∀ a b, Lt Pos2 px py a b ↔ Lt Pos px py b a
  ed : ∀ u v, Ed (l1 :: r1) u v ↔ Ed (l2 :: r2) v u
  mem : ∀ p, p ∈ l1 :: r1 ↔ p ∈ l2 :: r2
  tri : ∀ p ∈ l1 :: r1, ∀ q ∈ l1 :: r1, p = q ∨ Lt Pos px py p q ∨ Lt Pos px py q p
  con : ∀ u v, Ed (l1 :: r1) u v → ∀ w ∈ l1 :: r1, ¬ (Lt Pos px py u w ∧ Lt Pos px py w v)

variable {l1 l2 : Nat} {r1 s1 r2 s2 : List Nat} {A1 A2 : Nat → Nat → Option Nat}

theorem Two.symm (h : Two Pos Pos2 px py n l1 r1 s1 A1 l2 r2 s2 A2) : Two Pos2 Pos px py n l2 r2 s2 A2 l1 r1 s1 A1 :=
  ⟨h.j, h.i, fun a b => (h.flip b a).symm, fun u v => (h.ed v u).symm, fun p => (h.mem p).symm, fun p hp q hq => by
    rcases h.tri p ((h.mem p).2 hp) q ((h.mem q).2 hq) with g | g | g
    · exact .inl g
    · exact .inr (.inr ((h.flip q p).2 g))
    · exact .inr (.inl ((h.flip p q).2 g)), fun u v e w hw k => h.con v u ((h.ed v u).2 e) w ((h.mem w).2 hw) ⟨(h.flip w v).1 k.2, (h.flip u w).1 k.1⟩⟩

theorem Inv.mems {last : Nat} {r s : List Nat} {A : Nat → Nat → Option Nat} (h : Inv Pos px py n last r s A) {u v w : Nat} (e : A u v = some w) : u ∈ last :: r ∧ v ∈ last :: r ∧ w ∈ last :: r :=
  ⟨h.mem _ _ _ e, h.mem _ _ _ (h.cyc _ _ _ e), h.mem _ _ _ (h.cyc _ _ _ (h.cyc _ _ _ e))⟩

theorem Two.dis1 (h : Two Pos Pos2 px py n l1 r1 s1 A1 l2 r2 s2 A2) {u v w : Nat} (e : A1 u v = some w) (k : Lt Pos px py u v) : A2 u v = none := by
  cases hm : A2 u v with
  | none => rfl
  | some w' =>
    exfalso
    obtain ⟨b1, b2⟩ := h.i.btw _ _ _ e k
    have hw := (h.i.mems e).2.2
    have p := h.i.pos _ _ _ e
    rcases h.j.f6 v u w' hm ((h.flip v u).2 k) with g | g
    · cases hz : A2 v u with
      | none => exact g hz
      | some z =>
        have := h.j.f9 v u z hz ((h.flip v u).2 k) w ((h.mem w).1 hw) ((h.flip v w).2 b2) ((h.flip w u).2 b1)
        rw [T_swap] at this
        omega
    · exact h.con u v ((h.ed u v).2 g) w hw ⟨b1, b2⟩

theorem Two.ne (h : Two Pos Pos2 px py n l1 r1 s1 A1 l2 r2 s2 A2) {u v w : Nat} (e : A1 u v = some w) : Lt Pos px py u v ∨ Lt Pos px py v u := by
  have m := h.i.mems e
  rcases h.tri u m.1 v m.2.1 with g | g | g
  · exact absurd g (T_ne12 (h.i.pos _ _ _ e))
  · exact .inl g
  · exact .inr g

/-- No side is in both. -/
theorem Two.dis (h : Two Pos Pos2 px py n l1 r1 s1 A1 l2 r2 s2 A2) {u v w : Nat} (e : A1 u v = some w) : A2 u v = none := by
  rcases h.ne e with k | k
  · exact h.dis1 e k
  · cases hm : A2 u v with
    | none => rfl
    | some w' =>
      have := h.symm.dis1 hm ((h.flip u v).2 k)
      rw [this] at e
      cases e

theorem ov_old {A B : Nat → Nat → Option Nat} {u v w : Nat} (h : ov A B u v = some w) : A u v = some w ∨ B u v = some w := by
  unfold ov at h
  cases hm : A u v with
  | none => rw [hm] at h; exact .inr h
  | some z => rw [hm] at h; exact .inl h

theorem ov_none {A B : Nat → Nat → Option Nat} {u v : Nat} (h : ov A B u v = none) : A u v = none ∧ B u v = none := by
  unfold ov at h
  cases hm : A u v with
  | none => rw [hm] at h; exact ⟨rfl, h⟩
  | some z => rw [hm] at h; cases h

theorem ov_left {A B : Nat → Nat → Option Nat} {u v w : Nat} (h : A u v = some w) : ov A B u v = some w := by unfold ov; rw [h]
theorem ov_right {A B : Nat → Nat → Option Nat} {u v w : Nat} (h' : A u v = none) (h : B u v = some w) : ov A B u v = some w := by unfold ov; rw [h']; exact h

/-- A side with no triangle to its right is one of the walks'. -/
theorem Two.bd (h : Two Pos Pos2 px py n l1 r1 s1 A1 l2 r2 s2 A2) {u v w : Nat} (e : A1 u v = some w) (k1 : A1 v u = none) (k2 : A2 v u = none) : Ed (l1 :: s1) u v ∨ Ed (l2 :: s2) u v := by
  rcases h.ne e with k | k
  · rcases h.i.f4 _ _ _ e k with g | g
    · exact absurd k1 g
    · exact .inl g
  · rcases h.i.f6 v u w e k with g | g
    · exact absurd k1 g
    · rcases h.j.f8 u v ((h.ed v u).1 g) with g' | g'
      · exact absurd k2 g'
      · exact .inr g'

theorem Ed_uni (H : Half Pos) (hm : ∀ a b, Lt Pos px py a b → px a ≤ px b) {r : List Nat} : ∀ (s : List Nat), Gd Pos px py r s → ∀ u v u' v', Ed s u v → Ed s u' v' → px u' < px v → px u < px v' → u = u' ∧ v = v'
  | [], _, u, v, _, _, h, _, _, _ => by cases h
  | [a], _, u, v, _, _, h, _, _, _ => by cases h
  | l :: b :: s, hg, u, v, u', v', h, h', k1, k2 => by
    have low : ∀ y ∈ b :: s, px y ≤ px b := by
      intro y hy
      rcases List.mem_cons.1 hy with rfl | hy
      · omega
      · exact hm y b (hg.2.2.below H y hy)
    rcases h with ⟨rfl, rfl⟩ | h
    · rcases h' with ⟨rfl, rfl⟩ | h'
      · exact ⟨rfl, rfl⟩
      · have := low v' (Ed.mem h').2; omega
    · rcases h' with ⟨rfl, rfl⟩ | h'
      · have := low v (Ed.mem h).2; omega
      · exact Ed_uni H hm (b :: s) hg.2.2 u v u' v' h h' k1 k2

theorem back_px {a b : Nat} (h : Lt Back px py a b) : px b ≤ px a := by
  unfold Lt Back Lex at h; omega

theorem lex_px {a b : Nat} (h : Lt Lex px py a b) : px a ≤ px b := by
  unfold Lt Lex at h; omega

/-- What two sweeps make is a mesh. -/
theorem Two.mesh (h : Two Lex Back px py n l1 r1 s1 A1 l2 r2 s2 A2) (hn : ∀ p, p ∈ l1 :: r1 ↔ p < n) : Mesh px py n (ov A2 A1) := by
  have cyc : ∀ u v w, ov A2 A1 u v = some w → ov A2 A1 v w = some u := by
    intro u v w e
    rcases ov_old e with e' | e'
    · exact ov_left (h.j.cyc _ _ _ e')
    · have := h.i.cyc _ _ _ e'
      exact ov_right (h.dis this) this
  have bd : ∀ u v w, ov A2 A1 u v = some w → ov A2 A1 v u = none → Ed (l1 :: s1) u v ∨ Ed (l2 :: s2) u v := by
    intro u v w e k
    obtain ⟨k1, k2⟩ := ov_none k
    rcases ov_old e with e' | e'
    · rcases h.symm.bd e' k1 k2 with g | g
      · exact .inr g
      · exact .inl g
    · exact h.bd e' k2 k1
  refine ⟨cyc, ?_, ?_, ?_, ?_⟩
  · intro u v w e
    rcases ov_old e with e' | e'
    · exact h.j.pos _ _ _ e'
    · exact h.i.pos _ _ _ e'
  · intro u v w e
    rcases ov_old e with e' | e'
    · exact (hn u).1 ((h.mem u).2 (h.j.mem _ _ _ e'))
    · exact (hn u).1 (h.i.mem _ _ _ e')
  · intro u v w e k p hp
    rcases bd u v w e k with g | g
    · exact (h.i.gd.side u v g).2 p ((hn p).2 hp)
    · exact (h.j.gd.side u v g).2 p ((h.mem p).1 ((hn p).2 hp))
  · intro u v w u' v' w' e k e' k' x1 x2 x3 x4
    have g1 : Ed (l1 :: s1) u v := by
      rcases bd u v w e k with g | g
      · exact g
      · have := back_px (h.j.gd.side u v g).1; omega
    have g2 : Ed (l1 :: s1) u' v' := by
      rcases bd u' v' w' e' k' with g | g
      · exact g
      · have := back_px (h.j.gd.side u' v' g).1; omega
    exact Ed_uni half_lex (fun a b => lex_px) _ h.i.gd u v u' v' g1 g2 x3 x4

/-- In which each point is a corner. -/
theorem Two.cor (h : Two Lex Back px py n l1 r1 s1 A1 l2 r2 s2 A2) (hn : ∀ p, p ∈ l1 :: r1 ↔ p < n) (h2 : 2 ≤ (l1 :: r1).length) (hw : Wide px py (l1 :: r1)) : Cor n (ov A2 A1) := by
  have M := h.mesh hn
  have key : ∀ u v, Ed (l1 :: r1) u v → (∃ w, ov A2 A1 u v = some w) ∨ (∃ w, ov A2 A1 v u = some w) := by
    intro u v e
    rcases h.i.f8 u v e with g | g
    · right
      cases hm : A1 v u with
      | none => exact absurd hm g
      | some w => exact ⟨w, ov_right (h.dis hm) hm⟩
    · rcases h.j.f8 v u ((h.ed u v).1 e) with g' | g'
      · left
        cases hm : A2 u v with
        | none => exact absurd hm g'
        | some w => exact ⟨w, ov_left hm⟩
      · exfalso
        have a1 := h.i.gd.side u v g
        have a2 := h.j.gd.side v u g'
        refine line_flat (b := u) (R := v) (Lt.ne0 half_lex a1.1) (fun p hp => ?_) hw
        have b1 := a1.2 p hp
        have b2 := a2.2 p ((h.mem p).1 hp)
        rw [T_swap] at b2
        omega
  intro p hp
  obtain ⟨v, hv⟩ := Ed_nb (l1 :: r1) p ((hn p).2 hp) h2
  rcases hv with hv | hv
  · rcases key p v hv with ⟨w, e⟩ | ⟨w, e⟩
    · exact ⟨v, w, e⟩
    · exact ⟨w, v, M.cyc _ _ _ e⟩
  · rcases key v p hv with ⟨w, e⟩ | ⟨w, e⟩
    · exact ⟨w, v, M.cyc _ _ _ e⟩
    · exact ⟨v, w, e⟩

theorem Two.sum (h : Two Lex Back px py n l1 r1 s1 A1 l2 r2 s2 A2) (hr : l1 :: r1 = (l2 :: r2).reverse) : Sd n (ov A2 A1) (fun u v _ => c2 px py u v) = shs px py (l1 :: s1) + shs px py (l2 :: s2) := by
  have e : Sd n (ov A2 A1) (fun u v _ => c2 px py u v) = Sd n A2 (fun u v _ => c2 px py u v) + Sd n A1 (fun u v _ => c2 px py u v) := by
    unfold Sd
    rw [← sm2_add]
    refine sm2_congr fun u v _ _ => ?_
    cases hm : A1 u v with
    | none =>
      unfold ov
      rw [hm]
      cases A2 u v <;> simp [el]
    | some w =>
      have := h.dis hm
      unfold ov
      rw [this, hm]
      simp [el]
  have a1 := h.i.ar
  have a2 := h.j.ar
  have a3 := shs_rev (px := px) (py := py) (l2 :: r2)
  rw [← hr] at a3
  omega

end Go.Proofs.YtdbebbbceeopaaaGreat.Geo

set_option linter.unusedSimpArgs false
namespace Go.Proofs.YtdbebbbceeopaaaGreat.Geo
variable {px py h : Nat → Int} {n : Nat} {M : Nat → Nat → Option Nat} {X Y W H : Int}

/-! A side that was turned over does not come back: so only so many are turned over. -/

/-- How high a triangle is at a place, W times its area. -/
def PQ (px py h : Nat → Int) (X Y W : Int) (a b c : Nat) : Int := h a * TQ px py X Y W b c + h b * TQ px py X Y W c a + h c * TQ px py X Y W a b

theorem PQ_cyc (a b c : Nat) : PQ px py h X Y W a b c = PQ px py h X Y W b c a := by unfold PQ; omega

/-- All triangles that have the place lie lower there. -/
def J (px py h : Nat → Int) (M : Nat → Nat → Option Nat) (X Y W H : Int) : Prop := ∀ a b c, M a b = some c → 0 ≤ TQ px py X Y W a b → 0 ≤ TQ px py X Y W b c → 0 ≤ TQ px py X Y W c a → PQ px py h X Y W a b c < H * T px py a b c

theorem tri_flip {a b c d : Nat} (p1 : 0 < T px py a b c) (p2 : 0 < T px py b a d) (t1 : 0 < T px py a d c) (t2 : 0 < T px py d b c) (hw : 0 < Wg px py h a b c d)
    (h1 : 0 ≤ TQ px py X Y W a b → 0 ≤ TQ px py X Y W b c → 0 ≤ TQ px py X Y W c a → PQ px py h X Y W a b c < H * T px py a b c)
    (h2 : 0 ≤ TQ px py X Y W b a → 0 ≤ TQ px py X Y W a d → 0 ≤ TQ px py X Y W d b → PQ px py h X Y W b a d < H * T px py b a d)
    (k1 : 0 ≤ TQ px py X Y W a d) (k2 : 0 ≤ TQ px py X Y W d c) (k3 : 0 ≤ TQ px py X Y W c a) : PQ px py h X Y W a d c < H * T px py a d c := by
  rcases Int.lt_or_le (TQ px py X Y W a b) 0 with g | g
  · have i2 : T px py a d c * TQ px py X Y W d b = TQ px py X Y W d c * T px py d b a + TQ px py X Y W a d * T px py d b c := by unfold TQ T tw; grind
    have c1 : T px py d b a = T px py b a d := by rw [T_cyc d b a]
    have m1 := Int.mul_nonneg k2 (show 0 ≤ T px py d b a by omega)
    have m2 := Int.mul_nonneg k1 (Int.le_of_lt t2)
    have n1 : 0 ≤ TQ px py X Y W d b := nonneg_of_mul t1 (by omega)
    have s := TQ_swap (px := px) (py := py) (X := X) (Y := Y) (W := W) a b
    have r := h2 (by omega) k1 n1
    have i4 : PQ px py h X Y W b a d * T px py a d c - PQ px py h X Y W a d c * T px py b a d = Wg px py h a b c d * TQ px py X Y W a d := by unfold PQ Wg TQ T tw; grind
    have z := Int.mul_nonneg (Int.le_of_lt hw) k1
    have r2 := Int.mul_lt_mul_of_pos_right r t1
    have e : H * T px py b a d * T px py a d c = H * T px py a d c * T px py b a d := by grind
    exact Int.lt_of_mul_lt_mul_right (a := T px py b a d) (by omega) (Int.le_of_lt p2)
  · have i1 : T px py a d c * TQ px py X Y W b c = TQ px py X Y W d c * T px py b c a + TQ px py X Y W c a * T px py b c d := by unfold TQ T tw; grind
    have c1 : T px py b c a = T px py a b c := by rw [T_cyc a b c]
    have c2 : T px py b c d = T px py d b c := by rw [T_cyc d b c]
    have m1 := Int.mul_nonneg k2 (show 0 ≤ T px py b c a by omega)
    have m2 := Int.mul_nonneg k3 (show 0 ≤ T px py b c d by omega)
    have n1 : 0 ≤ TQ px py X Y W b c := nonneg_of_mul t1 (by omega)
    have r := h1 g n1 k3
    have i3 : PQ px py h X Y W a b c * T px py a d c - PQ px py h X Y W a d c * T px py a b c = Wg px py h a b c d * TQ px py X Y W c a := by unfold PQ Wg TQ T tw; grind
    have z := Int.mul_nonneg (Int.le_of_lt hw) k3
    have r2 := Int.mul_lt_mul_of_pos_right r t1
    have e : H * T px py a b c * T px py a d c = H * T px py a d c * T px py a b c := by grind
    exact Int.lt_of_mul_lt_mul_right (a := T px py a b c) (by omega) (Int.le_of_lt p1)

/-- Of the triangles behind a flip: the two new ones, or old ones. -/
theorem J_of {a b c d : Nat}
    (hA : 0 ≤ TQ px py X Y W a d → 0 ≤ TQ px py X Y W d c → 0 ≤ TQ px py X Y W c a → PQ px py h X Y W a d c < H * T px py a d c)
    (hB : 0 ≤ TQ px py X Y W b c → 0 ≤ TQ px py X Y W c d → 0 ≤ TQ px py X Y W d b → PQ px py h X Y W b c d < H * T px py b c d)
    (hO : ∀ u v w, M u v = some w → ¬ ((u = a ∧ v = b) ∨ (u = b ∧ v = a) ∨ (u = a ∧ v = d) ∨ (u = d ∧ v = c) ∨ (u = c ∧ v = a) ∨ (u = d ∧ v = b) ∨ (u = b ∧ v = c) ∨ (u = c ∧ v = d)) → 0 ≤ TQ px py X Y W u v → 0 ≤ TQ px py X Y W v w → 0 ≤ TQ px py X Y W w u → PQ px py h X Y W u v w < H * T px py u v w) :
    J px py h (flipM M a b c d) X Y W H := by
  intro u v w hh k1 k2 k3
  unfold flipM at hh
  split at hh
  · cases hh
  · rename_i g0
    split at hh
    · rename_i k; obtain ⟨rfl, rfl⟩ := k; cases hh; exact hA k1 k2 k3
    · rename_i g1
      split at hh
      · rename_i k; obtain ⟨rfl, rfl⟩ := k; cases hh; rw [← PQ_cyc, ← T_cyc]; exact hA k3 k1 k2
      · rename_i g2
        split at hh
        · rename_i k; obtain ⟨rfl, rfl⟩ := k; cases hh; rw [PQ_cyc, T_cyc]; exact hA k2 k3 k1
        · rename_i g3
          split at hh
          · rename_i k; obtain ⟨rfl, rfl⟩ := k; cases hh; rw [PQ_cyc, T_cyc]; exact hB k2 k3 k1
          · rename_i g4
            split at hh
            · rename_i k; obtain ⟨rfl, rfl⟩ := k; cases hh; exact hB k1 k2 k3
            · rename_i g5
              split at hh
              · rename_i k; obtain ⟨rfl, rfl⟩ := k; cases hh; rw [← PQ_cyc, ← T_cyc]; exact hB k3 k1 k2
              · rename_i g6
                refine hO u v w hh ?_ k1 k2 k3
                rintro (g | g | g | g | g | g | g | g) <;> first | exact g0 (.inl g) | exact g0 (.inr g) | exact g1 g | exact g2 g | exact g3 g | exact g4 g | exact g5 g | exact g6 g

theorem J.flip (hJ : J px py h M X Y W H) (hm : Mesh px py n M) {a b c d : Nat} (q : Quad px py M a b c d) (hw : 0 < Wg px py h a b c d) : J px py h (flipM M a b c d) X Y W H := by
  have p1 := hm.pos _ _ _ q.ab
  have p2 := hm.pos _ _ _ q.ba
  refine J_of (fun k1 k2 k3 => tri_flip p1 p2 q.t1 q.t2 hw (hJ _ _ _ q.ab) (hJ _ _ _ q.ba) k1 k2 k3) (fun k1 k2 k3 => ?_) (fun u v w e _ k1 k2 k3 => hJ u v w e k1 k2 k3)
  refine tri_flip p2 p1 ?_ ?_ (by rw [Wg_swap]; exact hw) (hJ _ _ _ q.ba) (hJ _ _ _ q.ab) k1 k2 k3
  · rw [← T_cyc d b c]; exact q.t2
  · rw [← T_cyc2 a d c] ; exact q.t1

/-- Where a pointed side meets the one that comes in its stead, there are its own two triangles alone. -/
theorem Mesh.only (hm : Mesh px py n M) {a b c d : Nat} (q : Quad px py M a b c d) {x y z : Nat} (e : M x y = some z)
    (k1 : 0 ≤ TQ px py (T px py d b c * px a + T px py a d c * px b) (T px py d b c * py a + T px py a d c * py b) (T px py a d c + T px py d b c) x y)
    (k2 : 0 ≤ TQ px py (T px py d b c * px a + T px py a d c * px b) (T px py d b c * py a + T px py a d c * py b) (T px py a d c + T px py d b c) y z)
    (k3 : 0 ≤ TQ px py (T px py d b c * px a + T px py a d c * px b) (T px py d b c * py a + T px py a d c * py b) (T px py a d c + T px py d b c) z x) :
    (x = a ∧ y = b) ∨ (x = b ∧ y = c) ∨ (x = c ∧ y = a) ∨ (x = b ∧ y = a) ∨ (x = a ∧ y = d) ∨ (x = d ∧ y = b) := by
  have p1 := hm.pos _ _ _ q.ab
  have p2 := hm.pos _ _ _ q.ba
  have pe := hm.pos _ _ _ e
  have t1 := q.t1
  have t2 := q.t2
  obtain ⟨K, hK⟩ : ∃ K : Int, K = 1 + sm n (fun v => ((px v - px x).natAbs : Int) + ((px v - px y).natAbs : Int) + ((px v - px z).natAbs : Int)) + ((T px py a b x).natAbs : Int) + ((T px py a b y).natAbs : Int) + ((T px py a b z).natAbs : Int) := ⟨_, rfl⟩
  have kn := sm_nonneg (n := n) (f := fun v => ((px v - px x).natAbs : Int) + ((px v - px y).natAbs : Int) + ((px v - px z).natAbs : Int)) (fun i _ => by omega)
  have kv : ∀ v, v < n → ((px v - px x).natAbs : Int) + ((px v - px y).natAbs : Int) + ((px v - px z).natAbs : Int) < K := fun v hv => by
    have := sm_ge_one (f := fun v => ((px v - px x).natAbs : Int) + ((px v - px y).natAbs : Int) + ((px v - px z).natAbs : Int)) hv (fun i _ => by omega)
    omega
  have hK1 : 1 ≤ K := by omega
  have hKK : 0 < K * K := Int.mul_pos (by omega) (by omega)
  obtain ⟨Gx, hGx⟩ : ∃ Gx : Int, Gx = px x + K * px y + K * K * px z := ⟨_, rfl⟩
  obtain ⟨Gy, hGy⟩ : ∃ Gy : Int, Gy = py x + K * py y + K * K * py z := ⟨_, rfl⟩
  obtain ⟨s, hs⟩ : ∃ s : Int, s = 1 + K + K * K := ⟨_, rfl⟩
  have tg : ∀ u v, TQ px py Gx Gy s u v = T px py u v x + K * T px py u v y + K * K * T px py u v z := fun u v => by rw [hGx, hGy, hs]; unfold TQ T tw; grind
  have gv : ∀ v, v < n → s * px v - Gx ≠ 0 := fun v hv h0 => by
    have e0 : (px v - px x) + K * (px v - px y) + K * K * (px v - px z) = 0 := by rw [← h0, hGx, hs]; grind
    have := kv v hv
    obtain ⟨z1, z2, z3⟩ := digits (by omega) (by omega) e0
    have : T px py x y z = 0 := by
      have f1 : px y = px x := by omega
      have f2 : px z = px x := by omega
      unfold T tw; rw [f1, f2]; grind
    omega
  have gab : TQ px py Gx Gy s a b ≠ 0 := fun h0 => by
    rw [tg] at h0
    obtain ⟨z1, z2, z3⟩ := digits (by omega) (by omega) h0
    have hw : ¬ Wide px py [x, y, z] := line_flat (b := a) (R := b) (fun ⟨g1, g2⟩ => by
      have : T px py a b c = 0 := by unfold T tw; rw [g1, g2]; grind
      omega) (by
      intro r hr
      simp only [List.mem_cons, List.not_mem_nil, or_false] at hr
      rcases hr with rfl | rfl | rfl
      · exact z1
      · exact z2
      · exact z3)
    exact hw ⟨x, by simp, y, by simp, z, by simp, by omega⟩
  obtain ⟨p, hp⟩ : ∃ p, p = T px py a d c := ⟨_, rfl⟩
  obtain ⟨r, hr⟩ : ∃ r, r = T px py d b c := ⟨_, rfl⟩
  rw [← hp] at t1 k1 k2 k3
  rw [← hr] at t2 k1 k2 k3
  obtain ⟨N, hN⟩ : ∃ N : Int, N = 1 + sm n (fun v => ((s * px v - Gx).natAbs : Int)) + ((TQ px py Gx Gy s b c).natAbs : Int) + ((TQ px py Gx Gy s c a).natAbs : Int) + ((TQ px py Gx Gy s a d).natAbs : Int) + ((TQ px py Gx Gy s d b).natAbs : Int) := ⟨_, rfl⟩
  have nn := sm_nonneg (n := n) (f := fun v => ((s * px v - Gx).natAbs : Int)) (fun i _ => by omega)
  have nv : ∀ v, v < n → ((s * px v - Gx).natAbs : Int) < N := fun v hv => by
    have := sm_ge_one (f := fun v => ((s * px v - Gx).natAbs : Int)) hv (fun i _ => by omega)
    omega
  have hN1 : 1 ≤ N := by omega
  have lin2 : ∀ u v, TQ px py (N * (r * px a + p * px b) + Gx) (N * (r * py a + p * py b) + Gy) (N * (p + r) + s) u v = N * TQ px py (r * px a + p * px b) (r * py a + p * py b) (p + r) u v + TQ px py Gx Gy s u v := fun u v => by unfold TQ; grind
  have big : ∀ A B : Int, 0 < A → ((B.natAbs : Int)) < N → 0 < N * A + B := fun A B hA hB => by
    have : N * 1 ≤ N * A := Int.mul_le_mul_of_nonneg_left (by omega) (by omega)
    omega
  have nz : ∀ A B : Int, ((B.natAbs : Int)) < N → B ≠ 0 → N * A + B ≠ 0 := fun A B hB h0 hz => by
    rcases Int.lt_trichotomy A 0 with g | g | g
    · have : N * A ≤ N * (-1) := Int.mul_le_mul_of_nonneg_left (by omega) (by omega)
      omega
    · rw [g] at hz; omega
    · have : N * 1 ≤ N * A := Int.mul_le_mul_of_nonneg_left (by omega) (by omega)
      omega
  have hg : ∀ v, v < n → (N * (p + r) + s) * px v ≠ N * (r * px a + p * px b) + Gx := fun v hv h0 => by
    refine nz ((p + r) * px v - (r * px a + p * px b)) (s * px v - Gx) (nv v hv) (gv v hv) ?_
    grind
  have sx : 0 < TQ px py Gx Gy s x y := by
    rw [tg, T_111, T_122]
    have := Int.mul_pos hKK pe
    omega
  have sy : 0 < TQ px py Gx Gy s y z := by
    rw [tg, T_111, T_122]
    have : T px py y z x = T px py x y z := by rw [T_cyc x y z]
    omega
  have sz : 0 < TQ px py Gx Gy s z x := by
    rw [tg, T_111, T_122]
    have : T px py z x y = T px py x y z := by rw [T_cyc z x y]
    have := Int.mul_pos (show 0 < K by omega) pe
    grind
  have add0 : ∀ A B : Int, 0 ≤ A → 0 < B → 0 < N * A + B := fun A B hA hB => by
    have := Int.mul_nonneg (show 0 ≤ N by omega) hA
    omega
  have hW : 0 < N * (p + r) + s := by
    have := Int.mul_pos (show 0 < N by omega) (show 0 < p + r by omega)
    omega
  have j1 : 0 < TQ px py (N * (r * px a + p * px b) + Gx) (N * (r * py a + p * py b) + Gy) (N * (p + r) + s) x y := by rw [lin2]; exact add0 _ _ k1 sx
  have j2 : 0 < TQ px py (N * (r * px a + p * px b) + Gx) (N * (r * py a + p * py b) + Gy) (N * (p + r) + s) y z := by rw [lin2]; exact add0 _ _ k2 sy
  have j3 : 0 < TQ px py (N * (r * px a + p * px b) + Gx) (N * (r * py a + p * py b) + Gy) (N * (p + r) + s) z x := by rw [lin2]; exact add0 _ _ k3 sz
  have qab : TQ px py (r * px a + p * px b) (r * py a + p * py b) (p + r) a b = 0 := by unfold TQ; grind
  have qbc : TQ px py (r * px a + p * px b) (r * py a + p * py b) (p + r) b c = r * T px py a b c := by unfold TQ T tw; grind
  have qca : TQ px py (r * px a + p * px b) (r * py a + p * py b) (p + r) c a = p * T px py a b c := by unfold TQ T tw; grind
  have qad : TQ px py (r * px a + p * px b) (r * py a + p * py b) (p + r) a d = p * T px py b a d := by unfold TQ T tw; grind
  have qdb : TQ px py (r * px a + p * px b) (r * py a + p * py b) (p + r) d b = r * T px py b a d := by unfold TQ T tw; grind
  rcases Int.lt_or_gt_of_ne gab with g | g
  · have o1 : 0 < TQ px py (N * (r * px a + p * px b) + Gx) (N * (r * py a + p * py b) + Gy) (N * (p + r) + s) b a := by
      rw [TQ_swap, lin2, qab]; omega
    have o2 : 0 < TQ px py (N * (r * px a + p * px b) + Gx) (N * (r * py a + p * py b) + Gy) (N * (p + r) + s) a d := by
      rw [lin2, qad]; exact big _ _ (Int.mul_pos t1 p2) (by omega)
    have o3 : 0 < TQ px py (N * (r * px a + p * px b) + Gx) (N * (r * py a + p * py b) + Gy) (N * (p + r) + s) d b := by
      rw [lin2, qdb]; exact big _ _ (Int.mul_pos t2 p2) (by omega)
    rcases hm.disj hW hg q.ba e o1 o2 o3 j1 j2 j3 with k | k | k
    · exact .inr (.inr (.inr (.inl k)))
    · exact .inr (.inr (.inr (.inr (.inl k))))
    · exact .inr (.inr (.inr (.inr (.inr k))))
  · have o1 : 0 < TQ px py (N * (r * px a + p * px b) + Gx) (N * (r * py a + p * py b) + Gy) (N * (p + r) + s) a b := by
      rw [lin2, qab]; omega
    have o2 : 0 < TQ px py (N * (r * px a + p * px b) + Gx) (N * (r * py a + p * py b) + Gy) (N * (p + r) + s) b c := by
      rw [lin2, qbc]; exact big _ _ (Int.mul_pos t2 p1) (by omega)
    have o3 : 0 < TQ px py (N * (r * px a + p * px b) + Gx) (N * (r * py a + p * py b) + Gy) (N * (p + r) + s) c a := by
      rw [lin2, qca]; exact big _ _ (Int.mul_pos t1 p1) (by omega)
    rcases hm.disj hW hg q.ab e o1 o2 o3 j1 j2 j3 with k | k | k
    · exact .inl k
    · exact .inr (.inl k)
    · exact .inr (.inr (.inl k))

/-- A side that the triangles now lie below. -/
def Killed (px py h : Nat → Int) (M : Nat → Nat → Option Nat) (u v : Nat) : Prop := ∃ p q : Int, 0 < p ∧ 0 < q ∧ J px py h M (q * px u + p * px v) (q * py u + p * py v) (p + q) (q * h u + p * h v)

theorem Killed.symm {u v : Nat} (k : Killed px py h M u v) : Killed px py h M v u := by
  obtain ⟨p, q, hp, hq, j⟩ := k
  refine ⟨q, p, hq, hp, ?_⟩
  rw [Int.add_comm (p * px v), Int.add_comm (p * py v), Int.add_comm q p, Int.add_comm (p * h v)]
  exact j

theorem Killed.none (hm : Mesh px py n M) {u v w : Nat} (k : Killed px py h M u v) (e : M u v = some w) : False := by
  obtain ⟨p, q, hp, hq, j⟩ := k
  have pe := hm.pos _ _ _ e
  have e1 : TQ px py (q * px u + p * px v) (q * py u + p * py v) (p + q) u v = 0 := by unfold TQ; grind
  have e2 : TQ px py (q * px u + p * px v) (q * py u + p * py v) (p + q) v w = q * T px py u v w := by unfold TQ T tw; grind
  have e3 : TQ px py (q * px u + p * px v) (q * py u + p * py v) (p + q) w u = p * T px py u v w := by unfold TQ T tw; grind
  have m2 := Int.mul_pos hq pe
  have m3 := Int.mul_pos hp pe
  have := j u v w e (by omega) (by omega) (by omega)
  unfold PQ at this
  rw [e1, e2, e3] at this
  have f : h u * (q * T px py u v w) + h v * (p * T px py u v w) + h w * 0 = (q * h u + p * h v) * T px py u v w := by grind
  omega

theorem Killed.flip {u v : Nat} (k : Killed px py h M u v) (hm : Mesh px py n M) {a b c d : Nat} (q : Quad px py M a b c d) (hw : 0 < Wg px py h a b c d) : Killed px py h (flipM M a b c d) u v := by
  obtain ⟨p, r, hp, hr, j⟩ := k
  exact ⟨p, r, hp, hr, j.flip hm q hw⟩

theorem killed_new (hm : Mesh px py n M) {a b c d : Nat} (q : Quad px py M a b c d) (hw : 0 < Wg px py h a b c d) : Killed px py h (flipM M a b c d) a b := by
  refine ⟨T px py a d c, T px py d b c, q.t1, q.t2, J_of (fun _ _ _ => ?_) (fun _ _ _ => ?_) (fun u v w e hn k1 k2 k3 => ?_)⟩
  · have f : PQ px py h (T px py d b c * px a + T px py a d c * px b) (T px py d b c * py a + T px py a d c * py b) (T px py a d c + T px py d b c) a d c = (T px py d b c * h a + T px py a d c * h b) * T px py a d c - T px py a d c * Wg px py h a b c d := by
      unfold PQ Wg TQ T tw; grind
    have := Int.mul_pos q.t1 hw
    omega
  · have f : PQ px py h (T px py d b c * px a + T px py a d c * px b) (T px py d b c * py a + T px py a d c * py b) (T px py a d c + T px py d b c) b c d = (T px py d b c * h a + T px py a d c * h b) * T px py b c d - T px py d b c * Wg px py h a b c d := by
      unfold PQ Wg TQ T tw; grind
    have := Int.mul_pos q.t2 hw
    omega
  · exfalso
    apply hn
    rcases hm.only q e k1 k2 k3 with k | k | k | k | k | k
    · exact .inl k
    · exact .inr (.inr (.inr (.inr (.inr (.inr (.inl k))))))
    · exact .inr (.inr (.inr (.inr (.inl k))))
    · exact .inr (.inl k)
    · exact .inr (.inr (.inl k))
    · exact .inr (.inr (.inr (.inr (.inr (.inl k)))))

/-- Sides that were turned over. -/
structure Spent (px py h : Nat → Int) (n : Nat) (M : Nat → Nat → Option Nat) (K : List (Nat × Nat)) : Prop where
  nd : K.Nodup
  all : ∀ x ∈ K, x.1 < n ∧ x.2 < n ∧ Killed px py h M x.1 x.2

theorem Spent.nil : Spent px py h n M [] := ⟨List.nodup_nil, fun x hx => by cases hx⟩

theorem Spent.flip {K : List (Nat × Nat)} (k : Spent px py h n M K) (hm : Mesh px py n M) {a b c d : Nat} (q : Quad px py M a b c d) (hw : 0 < Wg px py h a b c d) : Spent px py h n (flipM M a b c d) ((a, b) :: K) := by
  have l := hm.lts q.ab
  refine ⟨List.nodup_cons.2 ⟨fun hin => (k.all _ hin).2.2.none hm q.ab, k.nd⟩, fun x hx => ?_⟩
  rcases List.mem_cons.1 hx with rfl | hx
  · exact ⟨l.1, l.2.1, killed_new hm q hw⟩
  · obtain ⟨h1, h2, h3⟩ := k.all x hx
    exact ⟨h1, h2, h3.flip hm q hw⟩

theorem sub_len {α : Type} : ∀ (l r : List α), l.Nodup → (∀ x ∈ l, x ∈ r) → l.length ≤ r.length
  | [], r, _, _ => Nat.zero_le _
  | x :: l, r, hd, hs => by
    obtain ⟨a, b, rfl⟩ := List.append_of_mem (hs x (by simp))
    have hx := List.nodup_cons.1 hd
    have := sub_len l (a ++ b) hx.2 (fun y hy => by
      have h1 := hs y (by simp [hy])
      have h2 : y ≠ x := fun e => hx.1 (e ▸ hy)
      simp at h1 ⊢
      rcases h1 with h | h | h
      · exact .inl h
      · exact absurd h h2
      · exact .inr h)
    simp at this ⊢
    omega

theorem Spent.len {K : List (Nat × Nat)} (k : Spent px py h n M K) (hn : n ≤ 40) : K.length ≤ 1600 := by
  have := sub_len K ((List.range 40).flatMap fun u => (List.range 40).map fun v => (u, v)) k.nd (fun x hx => by
    obtain ⟨h1, h2, _⟩ := k.all x hx
    simp only [List.mem_flatMap, List.mem_range, List.mem_map]
    exact ⟨x.1, by omega, x.2, by omega, rfl⟩)
  have e40 : ((List.range 40).flatMap fun u => (List.range 40).map fun v => (u, v)).length = 1600 := by
    rw [List.length_flatMap]
    simp only [List.length_map, List.length_range]
    decide
  omega
end Go.Proofs.YtdbebbbceeopaaaGreat.Geo

set_option linter.unusedSimpArgs false
namespace Go.Proofs.YtdbebbbceeopaaaGreat.Geo
variable {px py : Nat → Int} {n : Nat} {M : Nat → Nat → Option Nat} {X Y W : Int}

/-- A side with a triangle to its left and none to its right. -/
def Rim (M : Nat → Nat → Option Nat) (u v : Nat) : Prop := M u v ≠ none ∧ M v u = none

theorem rim_flip {a b c d : Nat} (q : Quad px py M a b c d) (u v : Nat) : Rim (flipM M a b c d) u v ↔ Rim M u v := by
  have ab := q.ab
  have ba := q.ba
  have bc := q.bc
  have ca := q.ca
  have ad := q.ad
  have db := q.db
  have cd := q.cd
  have dc := q.dc
  constructor
  · rintro ⟨h1, h2⟩
    cases hm : flipM M a b c d u v with
    | none => exact absurd hm h1
    | some w =>
      obtain ⟨w', k1, k2⟩ := flip_bd q u v w hm h2
      exact ⟨by rw [k1]; simp, k2⟩
  · rintro ⟨h1, h2⟩
    have n1 : ¬ ((u = a ∧ v = b) ∨ (u = b ∧ v = a)) := by
      rintro (⟨rfl, rfl⟩ | ⟨rfl, rfl⟩)
      · rw [ba] at h2; cases h2
      · rw [ab] at h2; cases h2
    have n2 : ¬ ((v = a ∧ u = b) ∨ (v = b ∧ u = a)) := by
      rintro (⟨rfl, rfl⟩ | ⟨rfl, rfl⟩)
      · rw [ab] at h2; cases h2
      · rw [ba] at h2; cases h2
    constructor
    · unfold flipM
      rw [if_neg n1]
      (repeat' split) <;> first | exact h1 | simp
    · unfold flipM
      rw [if_neg n2]
      (repeat' split) <;> first | exact h2 | skip
      · rename_i h; obtain ⟨rfl, rfl⟩ := h; rw [ad] at h2; cases h2
      · rename_i h; obtain ⟨rfl, rfl⟩ := h; exact absurd cd h1
      · rename_i h; obtain ⟨rfl, rfl⟩ := h; rw [ca] at h2; cases h2
      · rename_i h; obtain ⟨rfl, rfl⟩ := h; rw [db] at h2; cases h2
      · rename_i h; obtain ⟨rfl, rfl⟩ := h; rw [bc] at h2; cases h2
      · rename_i h; obtain ⟨rfl, rfl⟩ := h; exact absurd dc h1

/-- What comes of a mesh by sides that are turned over. -/
inductive Reach (px py : Nat → Int) (n : Nat) (M0 : Nat → Nat → Option Nat) : (Nat → Nat → Option Nat) → Prop where
  | refl : Reach px py n M0 M0
  | flip {M : Nat → Nat → Option Nat} {a b c d : Nat} : Reach px py n M0 M → Mesh px py n M → Quad px py M a b c d → Reach px py n M0 (flipM M a b c d)

theorem Reach.rim {M0 : Nat → Nat → Option Nat} (h : Reach px py n M0 M) (u v : Nat) : Rim M u v ↔ Rim M0 u v := by
  induction h with
  | refl => exact Iff.rfl
  | flip _ _ q ih => exact (rim_flip q u v).trans ih

theorem nn_of_mul {p t : Int} (hp : 0 < p) (h : 0 ≤ p * t) : 0 ≤ t := by
  rcases Int.lt_or_le t 0 with k | k
  · have := Int.mul_neg_of_pos_of_neg hp k; omega
  · exact k

/-- If a triangle that turns left is passed below once more to the right than to the left, the place lies in it or on its border. -/
theorem tri_in {a b c : Nat} (ga : W * px a ≠ X) (gb : W * px b ≠ X) (gc : W * px c ≠ X)
    (h1 : 1 ≤ crs px py X Y W a b + crs px py X Y W b c + crs px py X Y W c a) : 0 ≤ TQ px py X Y W a b ∧ 0 ≤ TQ px py X Y W b c ∧ 0 ≤ TQ px py X Y W c a := by
  have hb := TQ_bary (px := px) (py := py) (X := X) (Y := Y) (W := W) a b c
  have R : ∀ u v : Nat, W * px u < X → X < W * px v → crs px py X Y W u v = if 0 < TQ px py X Y W u v then 1 else 0 := fun u v h1 h2 => by
    unfold crs
    split
    · rename_i h; rw [if_pos h.2.2]
    · rename_i h; rw [if_neg (by omega), if_neg (fun k => h ⟨h1, h2, k⟩)]
  have L : ∀ u v : Nat, W * px v < X → X < W * px u → crs px py X Y W u v = if TQ px py X Y W u v < 0 then -1 else 0 := fun u v h1 h2 => by
    unfold crs
    rw [if_neg (by omega)]
    split
    · rename_i h; rw [if_pos h.2.2]
    · rename_i h; rw [if_neg (fun k => h ⟨h1, h2, k⟩)]
  have Z : ∀ u v : Nat, (W * px v < X ∧ W * px u < X) ∨ (X < W * px v ∧ X < W * px u) → crs px py X Y W u v = 0 := fun u v h => by
    unfold crs
    rw [if_neg (by omega), if_neg (by omega)]
  have key : ∀ {p q r x y z : Int}, x * p + y * q + z * r = 0 → ((p < 0 ∧ 0 < q ∧ 0 < r) ∨ (0 < p ∧ q < 0 ∧ r < 0)) → 0 ≤ y → 0 ≤ z → 0 ≤ x := by
    intro p q r x y z e hs hy hz
    rcases hs with ⟨k1, k2, k3⟩ | ⟨k1, k2, k3⟩
    · have m1 := Int.mul_nonneg hy (Int.le_of_lt k2)
      have m2 := Int.mul_nonneg hz (Int.le_of_lt k3)
      refine nn_of_mul (p := -p) (by omega) ?_
      have : -p * x = - (x * p) := by rw [Int.neg_mul, Int.mul_comm]
      omega
    · have m1 := Int.mul_nonneg hy (show 0 ≤ -q by omega)
      have m2 := Int.mul_nonneg hz (show 0 ≤ -r by omega)
      rw [Int.mul_neg] at m1 m2
      refine nn_of_mul k1 ?_
      rw [Int.mul_comm]
      omega
  have e2 : TQ px py X Y W c a * (W * px b - X) + TQ px py X Y W a b * (W * px c - X) + TQ px py X Y W b c * (W * px a - X) = 0 := by omega
  have e3 : TQ px py X Y W a b * (W * px c - X) + TQ px py X Y W b c * (W * px a - X) + TQ px py X Y W c a * (W * px b - X) = 0 := by omega
  rcases Int.lt_or_gt_of_ne ga with ha | ha <;> rcases Int.lt_or_gt_of_ne gb with hb' | hb' <;> rcases Int.lt_or_gt_of_ne gc with hc | hc
  · rw [Z a b (.inl ⟨hb', ha⟩), Z b c (.inl ⟨hc, hb'⟩), Z c a (.inl ⟨ha, hc⟩)] at h1; omega
  · rw [Z a b (.inl ⟨hb', ha⟩), R b c hb' hc, L c a ha hc] at h1
    have q : 0 ≤ TQ px py X Y W b c ∧ 0 ≤ TQ px py X Y W c a := by revert h1; split <;> split <;> omega
    exact ⟨key e3 (.inr ⟨by omega, by omega, by omega⟩) q.1 q.2, q.1, q.2⟩
  · rw [R a b ha hb', L b c hc hb', Z c a (.inl ⟨ha, hc⟩)] at h1
    have q : 0 ≤ TQ px py X Y W a b ∧ 0 ≤ TQ px py X Y W b c := by revert h1; split <;> split <;> omega
    exact ⟨q.1, q.2, key e2 (.inr ⟨by omega, by omega, by omega⟩) q.1 q.2⟩
  · rw [R a b ha hb', Z b c (.inr ⟨hc, hb'⟩), L c a ha hc] at h1
    have q : 0 ≤ TQ px py X Y W a b ∧ 0 ≤ TQ px py X Y W c a := by revert h1; split <;> split <;> omega
    exact ⟨q.1, key hb (.inl ⟨by omega, by omega, by omega⟩) q.2 q.1, q.2⟩
  · rw [L a b hb' ha, Z b c (.inl ⟨hc, hb'⟩), R c a hc ha] at h1
    have q : 0 ≤ TQ px py X Y W a b ∧ 0 ≤ TQ px py X Y W c a := by revert h1; split <;> split <;> omega
    exact ⟨q.1, key hb (.inr ⟨by omega, by omega, by omega⟩) q.2 q.1, q.2⟩
  · rw [L a b hb' ha, R b c hb' hc, Z c a (.inr ⟨ha, hc⟩)] at h1
    have q : 0 ≤ TQ px py X Y W a b ∧ 0 ≤ TQ px py X Y W b c := by revert h1; split <;> split <;> omega
    exact ⟨q.1, q.2, key e2 (.inl ⟨by omega, by omega, by omega⟩) q.1 q.2⟩
  · rw [Z a b (.inr ⟨hb', ha⟩), L b c hc hb', R c a hc ha] at h1
    have q : 0 ≤ TQ px py X Y W b c ∧ 0 ≤ TQ px py X Y W c a := by revert h1; split <;> split <;> omega
    exact ⟨key e3 (.inl ⟨by omega, by omega, by omega⟩) q.1 q.2, q.1, q.2⟩
  · rw [Z a b (.inr ⟨hb', ha⟩), Z b c (.inr ⟨hc, hb'⟩), Z c a (.inr ⟨ha, hc⟩)] at h1; omega

/-- A place with all of the border to its right and some of it below lies in a triangle. -/
theorem Mesh.cover (h : Mesh px py n M) (hg : ∀ v, v < n → W * px v ≠ X) (hB : ∀ u v, Rim M u v → 0 < TQ px py X Y W u v) (hS : ∃ u v, Rim M u v ∧ W * px u < X ∧ X < W * px v) :
    ∃ a b c, M a b = some c ∧ 0 ≤ TQ px py X Y W a b ∧ 0 ≤ TQ px py X Y W b c ∧ 0 ≤ TQ px py X Y W c a := by
  rcases Classical.em (∃ a b c, M a b = some c ∧ 0 ≤ TQ px py X Y W a b ∧ 0 ≤ TQ px py X Y W b c ∧ 0 ≤ TQ px py X Y W c a) with hh | hh
  · exact hh
  · exfalso
    let F : Nat → Nat → Int := fun u v => el (M u v) (fun w => crs px py X Y W u v + crs px py X Y W v w + crs px py X Y W w u)
    have hF0 : ∀ u v, u < n → v < n → F u v ≤ 0 := by
      intro u v hu hv
      show el (M u v) _ ≤ 0
      cases hm : M u v with
      | none => exact Int.le_refl _
      | some w =>
        show crs px py X Y W u v + crs px py X Y W v w + crs px py X Y W w u ≤ 0
        rcases Int.lt_or_le 0 (crs px py X Y W u v + crs px py X Y W v w + crs px py X Y W w u) with k | k
        · exact absurd ⟨u, v, w, hm, tri_in (hg u hu) (hg v hv) (hg w (h.lts hm).2.2) (by omega)⟩ hh
        · exact k
    have s0 : sm2 n F ≤ 0 := by
      have := sm2_le hF0
      have e : sm2 n (fun _ _ => (0 : Int)) = 0 := by
        have : sm2 n (fun _ _ => (0 : Int)) = sm n (fun _ => 0) := sm_congr fun _ _ => sm_zero n
        rw [this, sm_zero]
      omega
    have s1 : sm2 n F = sm2 n (fun u v => el (M u v) (fun _ => crs px py X Y W u v)) + sm2 n (fun u v => el (M u v) (fun w => crs px py X Y W v w)) + sm2 n (fun u v => el (M u v) (fun w => crs px py X Y W w u)) := by
      rw [← sm2_add, ← sm2_add]
      refine sm2_congr fun u v _ _ => ?_
      show el (M u v) _ = _
      cases M u v <;> simp [el]
    have r1 := h.rot (fun u v _ => crs px py X Y W u v)
    have r2 := h.rot (fun _ v w => crs px py X Y W v w)
    have s2 := Mesh.cancel (n := n) (M := M) (fun u v => crs px py X Y W u v) (fun u v => crs_anti u v)
    obtain ⟨u0, v0, hr, k1, k2⟩ := hS
    have hu : u0 < n ∧ v0 < n := by
      cases hm : M u0 v0 with
      | none => exact absurd hm hr.1
      | some w => exact ⟨(h.lts hm).1, (h.lts hm).2.1⟩
    have big := sm2_ge_list [(u0, v0)] (fun u v => if M u v ≠ none ∧ M v u = none then crs px py X Y W u v else 0) (fun u v _ _ => by
        show 0 ≤ if M u v ≠ none ∧ M v u = none then crs px py X Y W u v else 0
        by_cases k : M u v ≠ none ∧ M v u = none
        · rw [if_pos k]
          have := hB u v k
          unfold crs
          split
          · decide
          · rw [if_neg (by omega)]; decide
        · rw [if_neg k]; decide) (by simp) (by
        intro k hk
        simp only [List.mem_cons, List.not_mem_nil, or_false] at hk
        subst hk
        refine ⟨hu.1, hu.2, ?_⟩
        show 1 ≤ if M u0 v0 ≠ none ∧ M v0 u0 = none then crs px py X Y W u0 v0 else 0
        rw [if_pos (show M u0 v0 ≠ none ∧ M v0 u0 = none from hr)]
        have := hB u0 v0 hr
        unfold crs
        rw [if_pos ⟨k1, k2, this⟩]
        decide)
    simp only [List.length_cons, List.length_nil] at big
    omega

/-- The turn of a side and a place. -/
def tp (px py : Nat → Int) (x y : Int) (a b : Nat) : Int := (px b - px a) * (y - py a) - (py b - py a) * (x - px a)

theorem tp_point (a b p : Nat) : tp px py (px p) (py p) a b = T px py a b p := by unfold tp T tw; grind

/-- A place of the hull lies in a triangle: g is a place within the hull beside it, L and R are as far to the left and right as any. -/
theorem Mesh.found (h : Mesh px py n M) {x y gx gy : Int} {L R : Nat} (hne : gx ≠ x) (hB : ∀ u v, Rim M u v → 0 ≤ tp px py x y u v) (hG : ∀ u v, Rim M u v → 0 < tp px py gx gy u v)
    (l1 : px L ≤ x) (l2 : px L < gx) (r1 : x ≤ px R) (r2 : gx < px R)
    (hS : ∀ W X : Int, 0 < W → (∀ v, v < n → W * px v ≠ X) → W * px L < X → X < W * px R → ∃ u v, Rim M u v ∧ W * px u < X ∧ X < W * px v) :
    ∃ a b c, M a b = some c ∧ 0 ≤ tp px py x y a b ∧ 0 ≤ tp px py x y b c ∧ 0 ≤ tp px py x y c a := by
  obtain ⟨K, hK⟩ : ∃ K, K = sm2 n (fun a b => ((tp px py gx gy a b).natAbs : Int)) := ⟨_, rfl⟩
  have hK1 : ∀ a b, a < n → b < n → ((tp px py gx gy a b).natAbs : Int) ≤ K := by
    intro a b ha hb
    rw [hK]
    have e1 := sm_ge_one (n := n) (k := b) (f := fun b => ((tp px py gx gy a b).natAbs : Int)) hb (fun i _ => by omega)
    have e2 := sm_ge_one (n := n) (k := a) (f := fun a => sm n (fun b => ((tp px py gx gy a b).natAbs : Int))) ha (fun i _ => sm_nonneg fun j _ => by omega)
    exact Int.le_trans e1 e2
  have hK0 : 0 ≤ K := by rw [hK]; exact sm2_nonneg fun a b _ _ => by omega
  obtain ⟨V, hV⟩ : ∃ V : Int, V = K + 1 + ((gx - x).natAbs : Int) := ⟨_, rfl⟩
  have eT : ∀ a b, TQ px py ((V + 1) * x + (gx - x)) ((V + 1) * y + (gy - y)) (V + 1) a b = V * tp px py x y a b + tp px py gx gy a b := by
    intro a b; unfold TQ tp; grind
  have gen : ∀ v, v < n → (V + 1) * px v ≠ (V + 1) * x + (gx - x) := by
    intro v _ e
    have e' : (V + 1) * (px v - x) = gx - x := by rw [Int.mul_sub]; omega
    rcases Int.lt_trichotomy (px v - x) 0 with g | g | g
    · have : (V + 1) * (px v - x) ≤ (V + 1) * (-1) := Int.mul_le_mul_of_nonneg_left (by omega) (by omega)
      omega
    · rw [g] at e'; omega
    · have : (V + 1) * 1 ≤ (V + 1) * (px v - x) := Int.mul_le_mul_of_nonneg_left (by omega) (by omega)
      omega
  have pL : (V + 1) * px L < (V + 1) * x + (gx - x) := by
    have e : (V + 1) * x + (gx - x) - (V + 1) * px L = V * (x - px L) + (gx - px L) := by grind
    have := Int.mul_nonneg (show 0 ≤ V by omega) (show 0 ≤ x - px L by omega)
    omega
  have pR : (V + 1) * x + (gx - x) < (V + 1) * px R := by
    have e : (V + 1) * px R - ((V + 1) * x + (gx - x)) = V * (px R - x) + (px R - gx) := by grind
    have := Int.mul_nonneg (show 0 ≤ V by omega) (show 0 ≤ px R - x by omega)
    omega
  obtain ⟨a, b, c, e, k1, k2, k3⟩ := h.cover gen (fun u v hr => by
    rw [eT]
    have := Int.mul_nonneg (show 0 ≤ V by omega) (hB u v hr)
    have := hG u v hr
    omega) (hS _ _ (by omega) gen pL pR)
  have l := h.lts e
  have q : ∀ u v, u < n → v < n → 0 ≤ TQ px py ((V + 1) * x + (gx - x)) ((V + 1) * y + (gy - y)) (V + 1) u v → 0 ≤ tp px py x y u v := by
    intro u v hu hv k
    rw [eT] at k
    have := hK1 u v hu hv
    rcases Int.lt_or_le (tp px py x y u v) 0 with g | g
    · have : V * tp px py x y u v ≤ V * (-1) := Int.mul_le_mul_of_nonneg_left (by omega) (by omega)
      omega
    · exact g
  exact ⟨a, b, c, e, q a b l.1 l.2.1 k1, q b c l.2.1 l.2.2 k2, q c a l.2.2 l.1 k3⟩

/-- Beside the hull there is no triangle. -/
theorem Mesh.beside (h : Mesh px py n M) {x y : Int} {u v : Nat} (hs : ∀ p, p < n → 0 ≤ T px py u v p) (hx : tp px py x y u v < 0) {a b c : Nat} (e : M a b = some c) : ¬ (0 ≤ tp px py x y a b ∧ 0 ≤ tp px py x y b c ∧ 0 ≤ tp px py x y c a) := by
  rintro ⟨k1, k2, k3⟩
  have l := h.lts e
  have p := h.pos _ _ _ e
  have id : T px py a b c * tp px py x y u v = tp px py x y b c * T px py u v a + tp px py x y c a * T px py u v b + tp px py x y a b * T px py u v c := by unfold tp T tw; grind
  have m1 := Int.mul_nonneg k2 (hs a l.1)
  have m2 := Int.mul_nonneg k3 (hs b l.2.1)
  have m3 := Int.mul_nonneg k1 (hs c l.2.2)
  have m4 := Int.mul_neg_of_pos_of_neg p hx
  omega

end Go.Proofs.YtdbebbbceeopaaaGreat.Geo
