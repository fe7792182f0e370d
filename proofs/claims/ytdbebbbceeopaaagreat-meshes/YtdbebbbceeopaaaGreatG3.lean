import Derived.Test.YtdbebbbceeopaaaGreatG2
set_option linter.unusedSimpArgs false
namespace Go.Proofs.YtdbebbbceeopaaaGreat.Geo
variable {px py : Nat → Int} {n : Nat} {M : Nat → Nat → Option Nat} {X Y W : Int}

theorem le_mul_of {x y z : Int} (hx : 0 < x) (h : x * y ≤ x * z) : y ≤ z := Int.le_of_mul_le_mul_left h hx

/-- From a place in a triangle the way to a point that is none of its corners leaves it over a side. -/
theorem st_start (h : Mesh px py n M) (hi : Inj px py n) (hc : Cor n M) (hW : 0 < W) {p : Nat} (hp : p < n) {a b c : Nat} (e : M a b = some c)
    (i2 : 0 < TQ px py X Y W b c) (i3 : 0 < TQ px py X Y W c a) (n1 : p ≠ a) (n2 : p ≠ b) (n3 : p ≠ c)
    (sa : TQ px py X Y W p a < 0) (sb : 0 < TQ px py X Y W p b) : T px py a b p < 0 := by
  rcases Int.lt_or_le (T px py a b p) 0 with k | k
  · exact k
  · exfalso
    have plu := TQ_plu (px := px) (py := py) (X := X) (Y := Y) (W := W) p a b c
    have pab := TQ_p (px := px) (py := py) (X := X) (Y := Y) (W := W) a b p
    have pbc := TQ_p (px := px) (py := py) (X := X) (Y := Y) (W := W) b c p
    have pca := TQ_p (px := px) (py := py) (X := X) (Y := Y) (W := W) c a p
    have k' : 0 ≤ W * T px py a b p := Int.mul_nonneg (by omega) k
    generalize TQ px py X Y W p a = la at *
    generalize TQ px py X Y W p b = lb at *
    generalize TQ px py X Y W p c = lc at *
    generalize TQ px py X Y W a b = qab at *
    generalize TQ px py X Y W b c = qbc at *
    generalize TQ px py X Y W c a = qca at *
    have hab : lb - la ≤ qab := by omega
    have kb : 0 ≤ T px py b c p := by
      refine nonneg_of_mul hW ?_
      rw [pbc]
      rcases Int.lt_or_le 0 lc with g | g
      · have a1 : lc * (lb - la) ≤ lc * qab := Int.mul_le_mul_of_nonneg_left hab (by omega)
        have a2 : 0 < lb * qca := Int.mul_pos sb i3
        have a3 : lc * (-la) ≤ (-la) * qbc := by
          have : 0 < lc * lb := Int.mul_pos g sb
          rw [Int.mul_sub] at a1
          rw [Int.mul_neg, Int.neg_mul]
          omega
        have := le_mul_of (x := -la) (by omega) (show (-la) * lc ≤ (-la) * qbc by rw [Int.mul_comm (-la) lc]; exact a3)
        omega
      · omega
    have ka : 0 ≤ T px py c a p := by
      refine nonneg_of_mul hW ?_
      rw [pca]
      rcases Int.lt_or_le lc 0 with g | g
      · have a1 : (-lc) * (lb - la) ≤ (-lc) * qab := Int.mul_le_mul_of_nonneg_left hab (by omega)
        have a2 : la * qbc < 0 := Int.mul_neg_of_neg_of_pos sa i2
        have a3 : lb * (-lc) ≤ lb * qca := by
          have : 0 < (-lc) * (-la) := Int.mul_pos (by omega) (by omega)
          rw [Int.mul_sub] at a1
          rw [Int.neg_mul (lc) qab] at a1
          have e1 : (-lc) * (-la) = - ((-lc) * la) := by rw [Int.mul_neg]
          have e2 : lb * (-lc) = (-lc) * lb := Int.mul_comm _ _
          omega
        have := le_mul_of sb a3
        omega
      · omega
    have := h.empty hi hc e hp k kb ka
    omega

theorem Wn_corner1 (a b c : Nat) : Wn px py a b c a = 0 := by unfold Wn T tw sq; grind
theorem Wn_corner2 (a b c : Nat) : Wn px py a b c b = 0 := by unfold Wn T tw sq; grind
theorem Wn_corner3 (a b c : Nat) : Wn px py a b c c = 0 := by unfold Wn T tw sq; grind

theorem digits {N x y z : Int} (hx : -N < x ∧ x < N) (hy : -N < y ∧ y < N) (h : x + N * y + N * N * z = 0) : x = 0 ∧ y = 0 ∧ z = 0 := by
  have hN : 0 < N := by omega
  have step : ∀ u v : Int, -N < u → u < N → u + N * v = 0 → u = 0 ∧ v = 0 := by
    intro u v h1 h2 h3
    rcases Int.lt_trichotomy v 0 with g | g | g
    · have : N * v ≤ N * (-1) := Int.mul_le_mul_of_nonneg_left (by omega) (by omega)
      omega
    · rw [g] at h3; omega
    · have : N * 1 ≤ N * v := Int.mul_le_mul_of_nonneg_left (by omega) (by omega)
      omega
  have e : x + N * (y + N * z) = 0 := by rw [Int.mul_add, ← Int.mul_assoc]; omega
  obtain ⟨r1, r2⟩ := step x _ hx.1 hx.2 e
  obtain ⟨r3, r4⟩ := step y _ hy.1 hy.2 r2
  exact ⟨r1, r3, r4⟩

/-- A place in a triangle from which no other point lies straight behind or before a point. -/
theorem place_in (hi : Inj px py n) {a b c p : Nat} (hT : 0 < T px py a b c) (hp : p < n) :
    ∃ X Y W : Int, 0 < W ∧ 0 < TQ px py X Y W a b ∧ 0 < TQ px py X Y W b c ∧ 0 < TQ px py X Y W c a ∧ ∀ v, v < n → v ≠ p → TQ px py X Y W p v ≠ 0 := by
  obtain ⟨N, hN⟩ : ∃ N : Int, N = 1 + sm n (fun v => ((T px py p v a).natAbs : Int) + ((T px py p v b).natAbs : Int) + ((T px py p v c).natAbs : Int)) := ⟨_, rfl⟩
  have hb : ∀ v, v < n → ((T px py p v a).natAbs : Int) + ((T px py p v b).natAbs : Int) + ((T px py p v c).natAbs : Int) < N := fun v hv => by
    have := sm_ge_one (f := fun v => ((T px py p v a).natAbs : Int) + ((T px py p v b).natAbs : Int) + ((T px py p v c).natAbs : Int)) hv (fun i _ => by omega)
    omega
  have hN1 : 1 ≤ N := by
    have := sm_nonneg (n := n) (f := fun v => ((T px py p v a).natAbs : Int) + ((T px py p v b).natAbs : Int) + ((T px py p v c).natAbs : Int)) (fun i _ => by omega)
    omega
  have hNN : 0 < N * N := Int.mul_pos (by omega) (by omega)
  refine ⟨px a + N * px b + N * N * px c, py a + N * py b + N * N * py c, 1 + N + N * N, by omega, ?_, ?_, ?_, fun v hv hne h0 => ?_⟩
  · have : TQ px py (px a + N * px b + N * N * px c) (py a + N * py b + N * N * py c) (1 + N + N * N) a b = N * N * T px py a b c := by unfold TQ T tw; grind
    rw [this]; exact Int.mul_pos hNN hT
  · have : TQ px py (px a + N * px b + N * N * px c) (py a + N * py b + N * N * py c) (1 + N + N * N) b c = T px py a b c := by unfold TQ T tw; grind
    rw [this]; exact hT
  · have : TQ px py (px a + N * px b + N * N * px c) (py a + N * py b + N * N * py c) (1 + N + N * N) c a = N * T px py a b c := by unfold TQ T tw; grind
    rw [this]; exact Int.mul_pos (by omega) hT
  · have e : TQ px py (px a + N * px b + N * N * px c) (py a + N * py b + N * N * py c) (1 + N + N * N) p v = T px py p v a + N * T px py p v b + N * N * T px py p v c := by unfold TQ T tw; grind
    rw [e] at h0
    have := hb v hv
    obtain ⟨z1, z2, z3⟩ := digits (by omega) (by omega) h0
    have hw : ¬ Wide px py [a, b, c] := line_flat (b := p) (R := v) (fun ⟨g1, g2⟩ => hne (hi v p hv hp (by omega) (by omega))) (by
      intro q hq
      simp only [List.mem_cons, List.not_mem_nil, or_false] at hq
      rcases hq with rfl | rfl | rfl
      · exact z1
      · exact z2
      · exact z3)
    exact hw ⟨a, by simp, b, by simp, c, by simp, by omega⟩

/-- Delaunay's lemma: if no far corner lies within, looked at two by two, no point lies within the circle of any triangle. -/
theorem Mesh.delaunay (h : Mesh px py n M) (hi : Inj px py n) (hc : Cor n M) (hl : Loc px py M) {a b c : Nat} (e : M a b = some c) {p : Nat} (hp : p < n) : Wn px py a b c p ≤ 0 := by
  rcases Int.lt_or_le 0 (Wn px py a b c p) with hN | hN
  · exfalso
    have hD := h.pos _ _ _ e
    have n1 : p ≠ a := fun g => by subst g; rw [Wn_corner1] at hN; omega
    have n2 : p ≠ b := fun g => by subst g; rw [Wn_corner2] at hN; omega
    have n3 : p ≠ c := fun g => by subst g; rw [Wn_corner3] at hN; omega
    obtain ⟨X, Y, W, hW, i1, i2, i3, hg⟩ := place_in hi hD hp
    have l := h.lts e
    have eb := h.cyc _ _ _ e
    have ec := h.cyc _ _ _ eb
    have ga := hg a l.1 (Ne.symm n1)
    have gb := hg b l.2.1 (Ne.symm n2)
    have gc := hg c l.2.2 (Ne.symm n3)
    have plu := TQ_plu (px := px) (py := py) (X := X) (Y := Y) (W := W) p a b c
    have f1 : Wn px py a b c p * T px py b c a ≤ Wn px py b c a p * T px py a b c := by
      have w1 : Wn px py a b c p = Wn px py b c a p := Wn_cyc a b c p
      have w2 : T px py a b c = T px py b c a := T_cyc a b c
      rw [w1, w2]; exact Int.le_refl _
    have f2 : Wn px py a b c p * T px py c a b ≤ Wn px py c a b p * T px py a b c := by
      have w1 : Wn px py c a b p = Wn px py a b c p := Wn_cyc c a b p
      have w2 : T px py c a b = T px py a b c := T_cyc c a b
      rw [w1, w2]; exact Int.le_refl _
    have first : ∃ u v, St px py M X Y W p (Wn px py a b c p) (T px py a b c) u v := by
      by_cases s1 : TQ px py X Y W p a < 0 ∧ 0 < TQ px py X Y W p b
      · exact ⟨a, b, ⟨c, e, Int.le_refl _⟩, i1, st_start h hi hc hW hp e i2 i3 n1 n2 n3 s1.1 s1.2, s1.1, s1.2⟩
      · by_cases s2 : TQ px py X Y W p b < 0 ∧ 0 < TQ px py X Y W p c
        · exact ⟨b, c, ⟨a, eb, f1⟩, i2, st_start h hi hc hW hp eb i3 i1 n2 n3 n1 s2.1 s2.2, s2.1, s2.2⟩
        · by_cases s3 : TQ px py X Y W p c < 0 ∧ 0 < TQ px py X Y W p a
          · exact ⟨c, a, ⟨b, ec, f2⟩, i3, st_start h hi hc hW hp ec i1 i2 n3 n1 n2 s3.1 s3.2, s3.1, s3.2⟩
          · exfalso
            rcases Int.lt_or_gt_of_ne ga with g | g
            · have m1 := Int.mul_neg_of_neg_of_pos g i2
              have m2 := Int.mul_neg_of_neg_of_pos (show TQ px py X Y W p b < 0 by omega) i3
              have m3 := Int.mul_neg_of_neg_of_pos (show TQ px py X Y W p c < 0 by omega) i1
              omega
            · have m1 := Int.mul_pos g i2
              have m2 := Int.mul_pos (show 0 < TQ px py X Y W p b by omega) i3
              have m3 := Int.mul_pos (show 0 < TQ px py X Y W p c by omega) i1
              omega
    obtain ⟨u, v, s, hm⟩ := max_pair (n := n) (St px py M X Y W p (Wn px py a b c p) (T px py a b c)) (fun u v => TQ px py X Y W u v) (fun u v => TQ px py X Y W p v - TQ px py X Y W p u)
      (fun u v s => by have := s.sa; have := s.sb; omega) (fun u v s => by obtain ⟨w, hw, _⟩ := s.tri; exact ⟨(h.lts hw).1, (h.lts hw).2.1⟩) first
    obtain ⟨u', v', s', hlt⟩ := st_step h hi hc hl hW hp hD hN hg s
    have := hm u' v' s'
    omega
  · exact hN

end Go.Proofs.YtdbebbbceeopaaaGreat.Geo

set_option linter.unusedSimpArgs false
namespace Go.Proofs.YtdbebbbceeopaaaGreat.Geo
variable {Pos : Int → Int → Prop} {px py : Nat → Int} {n : Nat}

/-- The sides of a walk, its end first. -/
def Ed : List Nat → Nat → Nat → Prop
  | l :: b :: s, u, v => (u = b ∧ v = l) ∨ Ed (b :: s) u v
  | _, _, _ => False

/-- A walk all of whose sides have all of r to the left, or on them. -/
def Gd (Pos : Int → Int → Prop) (px py : Nat → Int) (r : List Nat) : List Nat → Prop
  | l :: b :: s => Lt Pos px py b l ∧ (∀ p ∈ r, 0 ≤ T px py b l p) ∧ Gd Pos px py r (b :: s)
  | _ => True

/-- A triangle put in. -/
def addT (A : Nat → Nat → Option Nat) (a b c : Nat) : Nat → Nat → Option Nat := fun u v =>
  if u = a ∧ v = b then some c else if u = b ∧ v = c then some a else if u = c ∧ v = a then some b else A u v

/-- What lies beneath a walk: as far as areas are reckoned side by side. -/
def c2 (px py : Nat → Int) (u v : Nat) : Int := px u * py v - py u * px v

def shs (px py : Nat → Int) : List Nat → Int
  | l :: b :: s => c2 px py b l + shs px py (b :: s)
  | _ => 0

theorem addT_keep {A : Nat → Nat → Option Nat} {a b c u v : Nat} (h : A u v ≠ none) : addT A a b c u v ≠ none := by
  unfold addT
  split
  · simp
  · split
    · simp
    · split
      · simp
      · exact h

theorem addT_old {A : Nat → Nat → Option Nat} {a b c u v : Nat} (h1 : ¬ (u = a ∧ v = b)) (h2 : ¬ (u = b ∧ v = c)) (h3 : ¬ (u = c ∧ v = a)) : addT A a b c u v = A u v := by
  unfold addT
  rw [if_neg h1, if_neg h2, if_neg h3]

theorem addT_cases {A : Nat → Nat → Option Nat} {a b c u v w : Nat} (h : addT A a b c u v = some w) : (u = a ∧ v = b ∧ w = c) ∨ (u = b ∧ v = c ∧ w = a) ∨ (u = c ∧ v = a ∧ w = b) ∨ A u v = some w := by
  unfold addT at h
  split at h
  · rename_i k; cases h; exact .inl ⟨k.1, k.2, rfl⟩
  · split at h
    · rename_i k; cases h; exact .inr (.inl ⟨k.1, k.2, rfl⟩)
    · split at h
      · rename_i k; cases h; exact .inr (.inr (.inl ⟨k.1, k.2, rfl⟩))
      · exact .inr (.inr (.inr h))

theorem addT_1 (A : Nat → Nat → Option Nat) (a b c : Nat) : addT A a b c a b = some c := by unfold addT; simp
theorem addT_2 (A : Nat → Nat → Option Nat) (a b c : Nat) (_h : a ≠ b) : addT A a b c b c = some a := by unfold addT; rw [if_neg (by omega), if_pos ⟨rfl, rfl⟩]
theorem addT_3 (A : Nat → Nat → Option Nat) (a b c : Nat) (_h : a ≠ c) (h' : b ≠ c) : addT A a b c c a = some b := by unfold addT; rw [if_neg (by omega), if_neg (by omega), if_pos ⟨rfl, rfl⟩]

theorem addT_cyc {A : Nat → Nat → Option Nat} {a b c : Nat} (hc : ∀ u v w, A u v = some w → A v w = some u) (h1 : a ≠ b) (h2 : a ≠ c) (h3 : b ≠ c) (k1 : A a b = none) (k2 : A b c = none) (k3 : A c a = none) :
    ∀ u v w, addT A a b c u v = some w → addT A a b c v w = some u := by
  intro u v w h
  rcases addT_cases h with ⟨rfl, rfl, rfl⟩ | ⟨rfl, rfl, rfl⟩ | ⟨rfl, rfl, rfl⟩ | h'
  · exact addT_2 A _ _ _ h1
  · exact addT_3 A _ _ _ h2 h3
  · exact addT_1 A _ _ _
  · have := hc _ _ _ h'
    rw [addT_old]
    · exact this
    · rintro ⟨rfl, rfl⟩; rw [k1] at this; cases this
    · rintro ⟨rfl, rfl⟩; rw [k2] at this; cases this
    · rintro ⟨rfl, rfl⟩; rw [k3] at this; cases this

theorem addT_sum {A : Nat → Nat → Option Nat} {a b c : Nat} (K : Nat → Nat → Nat → Int) (h1 : a ≠ b) (h2 : a ≠ c) (h3 : b ≠ c) (k1 : A a b = none) (k2 : A b c = none) (k3 : A c a = none) (la : a < n) (lb : b < n) (lc : c < n) :
    Sd n (addT A a b c) K = Sd n A K + (K a b c + K b c a + K c a b) := by
  have := sm2_diff (n := n) [(a, b), (b, c), (c, a)] (fun u v => el (addT A a b c u v) fun w => K u v w) (fun u v => el (A u v) fun w => K u v w)
    (by simp only [List.nodup_cons, List.mem_cons, Prod.mk.injEq, List.not_mem_nil, or_false, not_or, List.nodup_nil, and_true, not_false_eq_true]; omega)
    (by
      intro k hk
      simp only [List.mem_cons, List.not_mem_nil, or_false] at hk
      rcases hk with rfl | rfl | rfl <;> (dsimp only; omega))
    (by
      intro u v _ _ hn
      simp only [List.mem_cons, Prod.mk.injEq, List.not_mem_nil, or_false, not_or] at hn
      rw [addT_old hn.1 hn.2.1 hn.2.2])
  simp only [List.map_cons, List.map_nil, List.sum_cons, List.sum_nil, addT_1, addT_2 A a b c h1, addT_3 A a b c h2 h3, k1, k2, k3, el_some, el_none] at this
  unfold Sd
  omega

theorem Ed.mem : ∀ {s : List Nat} {u v : Nat}, Ed s u v → u ∈ s ∧ v ∈ s
  | l :: b :: s, u, v, h => by
    rcases h with ⟨rfl, rfl⟩ | h
    · exact ⟨by simp, by simp⟩
    · have := Ed.mem h
      exact ⟨List.mem_cons_of_mem _ this.1, List.mem_cons_of_mem _ this.2⟩

theorem Gd.below (H : Half Pos) {r : List Nat} : ∀ {s : List Nat} {l : Nat}, Gd Pos px py r (l :: s) → ∀ y ∈ s, Lt Pos px py y l
  | [], _, _, y, hy => by cases hy
  | b :: s, l, h, y, hy => by
    rcases List.mem_cons.1 hy with rfl | hy
    · exact h.1
    · exact (Gd.below H h.2.2 y hy).trans H h.1

theorem Gd.side {r : List Nat} : ∀ {s : List Nat}, Gd Pos px py r s → ∀ u v, Ed s u v → Lt Pos px py u v ∧ ∀ p ∈ r, 0 ≤ T px py u v p
  | l :: b :: s, h, u, v, he => by
    rcases he with ⟨rfl, rfl⟩ | he
    · exact ⟨h.1, h.2.1⟩
    · exact Gd.side h.2.2 u v he

/-- All that is known between two points of a sweep: r has all that were seen, the last first; s is the walk, its end first; A has the triangles. -/
structure Inv (Pos : Int → Int → Prop) (px py : Nat → Int) (n : Nat) (last : Nat) (r s : List Nat) (A : Nat → Nat → Option Nat) : Prop where
  sub : ∀ y ∈ last :: s, y ∈ last :: r
  bot : ∀ m, (last :: s).getLast? = some m → ∀ p ∈ last :: r, p = m ∨ Lt Pos px py m p
  gd : Gd Pos px py (last :: r) (last :: s)
  cyc : ∀ u v w, A u v = some w → A v w = some u
  pos : ∀ u v w, A u v = some w → 0 < T px py u v w
  mem : ∀ u v w, A u v = some w → u ∈ last :: r
  btw : ∀ u v w, A u v = some w → Lt Pos px py u v → Lt Pos px py u w ∧ Lt Pos px py w v
  f4 : ∀ u v w, A u v = some w → Lt Pos px py u v → A v u ≠ none ∨ Ed (last :: s) u v
  f5 : ∀ u v, Ed (last :: s) u v → A v u = none
  f6 : ∀ u v w, A v u = some w → Lt Pos px py u v → A u v ≠ none ∨ Ed (last :: r) u v
  f7 : ∀ u v, Ed (last :: s) u v → A u v ≠ none ∨ Ed (last :: r) u v
  f8 : ∀ u v, Ed (last :: r) u v → A v u ≠ none ∨ Ed (last :: s) u v
  f9 : ∀ u v w, A u v = some w → Lt Pos px py u v → ∀ p ∈ last :: r, Lt Pos px py u p → Lt Pos px py p v → 0 ≤ T px py u v p
  ar : Sd n A (fun u v _ => c2 px py u v) = shs px py (last :: s) - shs px py (last :: r)
  cn : Sd n A (fun _ _ _ => 1) + 3 * ((last :: s).length : Int) = 3 * ((last :: r).length : Int)

/-- All that is known while the walk is made shorter ahead of a new point x. -/
structure Rd (Pos : Int → Int → Prop) (px py : Nat → Int) (n : Nat) (last : Nat) (r : List Nat) (l : Nat) (s : List Nat) (x : Nat) (A : Nat → Nat → Option Nat) : Prop where
  sub : ∀ y ∈ l :: s, y ∈ last :: r
  bot : ∀ m, (l :: s).getLast? = some m → ∀ p ∈ last :: r, p = m ∨ Lt Pos px py m p
  gd : Gd Pos px py (last :: r) (l :: s)
  cyc : ∀ u v w, A u v = some w → A v w = some u
  pos : ∀ u v w, A u v = some w → 0 < T px py u v w
  mem : ∀ u v w, A u v = some w → u ∈ last :: r ∨ u = x
  btw : ∀ u v w, A u v = some w → Lt Pos px py u v → Lt Pos px py u w ∧ Lt Pos px py w v
  f4 : ∀ u v w, A u v = some w → Lt Pos px py u v → A v u ≠ none ∨ Ed (l :: s) u v ∨ (u = l ∧ v = x)
  f5 : ∀ u v, Ed (l :: s) u v → A v u = none
  f6 : ∀ u v w, A v u = some w → Lt Pos px py u v → A u v ≠ none ∨ Ed (x :: last :: r) u v
  f7 : ∀ u v, Ed (l :: s) u v → A u v ≠ none ∨ Ed (last :: r) u v
  g1 : A l x ≠ none ∨ l = last
  f8 : ∀ u v, Ed (last :: r) u v → A v u ≠ none ∨ Ed (l :: s) u v
  g8 : l = last ∨ A x last ≠ none
  f9 : ∀ u v w, A u v = some w → Lt Pos px py u v → ∀ p ∈ last :: r, Lt Pos px py u p → Lt Pos px py p v → 0 ≤ T px py u v p
  g9 : ∀ p ∈ last :: r, Lt Pos px py l p → 0 ≤ T px py l x p
  h1 : ∀ u, A u x ≠ none → u = l ∨ Lt Pos px py l u
  h2 : ∀ u, A x u ≠ none → Lt Pos px py l u
  ar : Sd n A (fun u v _ => c2 px py u v) = shs px py (l :: s) + c2 px py l x - shs px py (x :: last :: r)
  cn : Sd n A (fun _ _ _ => 1) + 3 * ((l :: s).length : Int) = 3 * ((last :: r).length : Int)

theorem rd_start (H : Half Pos) {last x : Nat} {r s : List Nat} {A : Nat → Nat → Option Nat} (h : Inv Pos px py n last r s A) (hx : ∀ p ∈ last :: r, Lt Pos px py p x) (hmax : ∀ p ∈ r, Lt Pos px py p last) : Rd Pos px py n last r last s x A := by
  have hxr : x ∉ last :: r := fun k => lt_irrefl H (hx x k)
  refine ⟨h.sub, h.bot, h.gd, h.cyc, h.pos, fun u v w e => .inl (h.mem u v w e), h.btw, fun u v w e k => ?_, h.f5, fun u v w e k => ?_, h.f7, .inr rfl, h.f8, .inl rfl, h.f9, fun p hp k => ?_, fun u k => ?_, fun u k => ?_, ?_, h.cn⟩
  · rcases h.f4 u v w e k with g | g
    · exact .inl g
    · exact .inr (.inl g)
  · rcases h.f6 u v w e k with g | g
    · exact .inl g
    · exact .inr (.inr g)
  · exfalso
    rcases List.mem_cons.1 hp with rfl | hp
    · exact lt_irrefl H k
    · exact lt_irrefl H ((hmax p hp).trans H k)
  · exfalso
    cases hm : A u x with
    | none => exact k hm
    | some w => exact hxr (h.mem _ _ _ (h.cyc _ _ _ hm))
  · exfalso
    cases hm : A x u with
    | none => exact k hm
    | some w => exact hxr (h.mem _ _ _ hm)
  · have := h.ar
    rw [this]
    show _ = shs px py (last :: s) + c2 px py last x - (c2 px py last x + shs px py (last :: r))
    omega

theorem rd_pop (H : Half Pos) {last x l b : Nat} {r s : List Nat} {A : Nat → Nat → Option Nat} (h : Rd Pos px py n last r l (b :: s) x A) (hx : ∀ p ∈ last :: r, Lt Pos px py p x) (hn : ∀ p ∈ last :: r, p < n) (hxn : x < n)
    (hT : T px py b l x < 0) : Rd Pos px py n last r b s x (addT A b x l) := by
  have hbl : Lt Pos px py b l := h.gd.1
  have lr : l ∈ last :: r := h.sub l (by simp)
  have br : b ∈ last :: r := h.sub b (by simp)
  have hlx := hx l lr
  have hbx := hx b br
  have nbl : b ≠ l := fun e => by subst e; exact lt_irrefl H hbl
  have nlx : l ≠ x := fun e => by subst e; exact lt_irrefl H hlx
  have nbx : b ≠ x := fun e => by subst e; exact lt_irrefl H hbx
  have hxr : ∀ p ∈ last :: r, p ≠ x := fun p hp e => by subst e; exact lt_irrefl H (hx p hp)
  have t1 : 0 < T px py b x l := by rw [T_cyc, T_cyc, T_swap]; omega
  have k1 : A b x = none := by
    cases hm : A b x with
    | none => rfl
    | some w =>
      rcases h.h1 b (by rw [hm]; simp) with e | e
      · exact absurd e nbl
      · exact (lt_irrefl H (e.trans H hbl)).elim
  have k2 : A x l = none := by
    cases hm : A x l with
    | none => rfl
    | some w => exact (lt_irrefl H (h.h2 l (by rw [hm]; simp))).elim
  have k3 : A l b = none := h.f5 b l (.inl ⟨rfl, rfl⟩)
  have notin : ∀ y ∈ b :: s, y ≠ l := fun y hy e => by subst e; exact lt_irrefl H (h.gd.below H y hy)
  refine ⟨fun y hy => h.sub y (List.mem_cons_of_mem _ hy), fun m hm => h.bot m (by rw [List.getLast?_cons_cons]; exact hm), h.gd.2.2, addT_cyc h.cyc nbx nbl (Ne.symm nlx) k1 k2 k3, ?_, ?_, ?_, ?_, ?_, ?_, ?_, ?_, ?_, ?_, ?_, ?_, ?_, ?_, ?_, ?_⟩
  · intro u v w e
    rcases addT_cases e with ⟨rfl, rfl, rfl⟩ | ⟨rfl, rfl, rfl⟩ | ⟨rfl, rfl, rfl⟩ | e'
    · exact t1
    · rw [← T_cyc]; exact t1
    · rw [T_cyc]; exact t1
    · exact h.pos _ _ _ e'
  · intro u v w e
    rcases addT_cases e with ⟨rfl, rfl, rfl⟩ | ⟨rfl, rfl, rfl⟩ | ⟨rfl, rfl, rfl⟩ | e'
    · exact .inl br
    · exact .inr rfl
    · exact .inl lr
    · exact h.mem _ _ _ e'
  · intro u v w e k
    rcases addT_cases e with ⟨rfl, rfl, rfl⟩ | ⟨rfl, rfl, rfl⟩ | ⟨rfl, rfl, rfl⟩ | e'
    · exact ⟨hbl, hlx⟩
    · exact (lt_irrefl H (k.trans H hlx)).elim
    · exact (lt_irrefl H (k.trans H hbl)).elim
    · exact h.btw _ _ _ e' k
  · intro u v w e k
    rcases addT_cases e with ⟨rfl, rfl, rfl⟩ | ⟨rfl, rfl, rfl⟩ | ⟨rfl, rfl, rfl⟩ | e'
    · exact .inr (.inr ⟨rfl, rfl⟩)
    · exact (lt_irrefl H (k.trans H hlx)).elim
    · exact (lt_irrefl H (k.trans H hbl)).elim
    · rcases h.f4 _ _ _ e' k with g | (⟨rfl, rfl⟩ | g) | ⟨rfl, rfl⟩
      · exact .inl (addT_keep g)
      · exact .inl (by rw [addT_3 A _ _ _ nbl (Ne.symm nlx)]; simp)
      · exact .inr (.inl g)
      · exact .inl (by rw [addT_2 A _ _ _ nbx]; simp)
  · intro u v e
    have old := h.f5 u v (.inr e)
    have m := Ed.mem e
    rw [addT_old]
    · exact old
    · rintro ⟨_, e2⟩; exact hxr u (h.sub u (List.mem_cons_of_mem _ m.1)) e2
    · rintro ⟨e1, _⟩; exact hxr v (h.sub v (List.mem_cons_of_mem _ m.2)) e1
    · rintro ⟨e1, _⟩; exact notin v m.2 e1
  · intro u v w e k
    rcases addT_cases e with ⟨e1, e2, e3⟩ | ⟨e1, e2, e3⟩ | ⟨e1, e2, e3⟩ | e'
    · subst e1 e2; exact (lt_irrefl H (k.trans H hbx)).elim
    · subst e1 e2
      rcases h.g1 with g | g
      · exact .inl (addT_keep g)
      · exact .inr (.inl ⟨g, rfl⟩)
    · subst e1 e2
      rcases h.f7 _ _ (.inl ⟨rfl, rfl⟩) with g | g
      · exact .inl (addT_keep g)
      · exact .inr (.inr g)
    · rcases h.f6 _ _ _ e' k with g | g
      · exact .inl (addT_keep g)
      · exact .inr g
  · intro u v e
    rcases h.f7 u v (.inr e) with g | g
    · exact .inl (addT_keep g)
    · exact .inr g
  · exact .inl (by rw [addT_1]; simp)
  · intro u v e
    rcases h.f8 u v e with g | (⟨rfl, rfl⟩ | g)
    · exact .inl (addT_keep g)
    · exact .inl (by rw [addT_3 A _ _ _ nbl (Ne.symm nlx)]; simp)
    · exact .inr g
  · right
    rcases h.g8 with g | g
    · rw [← g, addT_2 A _ _ _ nbx]; simp
    · exact addT_keep g
  · intro u v w e k p hp kp1 kp2
    rcases addT_cases e with ⟨rfl, rfl, rfl⟩ | ⟨rfl, rfl, rfl⟩ | ⟨rfl, rfl, rfl⟩ | e'
    · have e1 : 0 ≤ cr (px v - px u) (py v - py u) (px w - px u) (py w - py u) := by rw [← T_cr]; omega
      have e2 : 0 ≤ cr (px w - px u) (py w - py u) (px p - px u) (py p - py u) := by rw [← T_cr]; exact h.gd.2.1 p hp
      rw [T_cr]
      exact H.tr _ _ _ _ _ _ hbx hbl kp1 e1 e2
    · exact (lt_irrefl H (k.trans H hlx)).elim
    · exact (lt_irrefl H (k.trans H hbl)).elim
    · exact h.f9 _ _ _ e' k p hp kp1 kp2
  · intro p hp kp
    have e1 : 0 ≤ cr (px x - px b) (py x - py b) (px l - px b) (py l - py b) := by rw [← T_cr]; omega
    have e2 : 0 ≤ cr (px l - px b) (py l - py b) (px p - px b) (py p - py b) := by rw [← T_cr]; exact h.gd.2.1 p hp
    rw [T_cr]
    exact H.tr _ _ _ _ _ _ hbx hbl kp e1 e2
  · intro u k
    cases hm : addT A b x l u x with
    | none => exact absurd hm k
    | some w =>
      rcases addT_cases hm with ⟨e1, _, _⟩ | ⟨_, e2, _⟩ | ⟨_, e2, _⟩ | e'
      · exact .inl e1
      · exact absurd e2.symm nlx
      · exact absurd e2.symm nbx
      · rcases h.h1 u (by rw [e']; simp) with g | g
        · subst g; exact .inr hbl
        · exact .inr (hbl.trans H g)
  · intro u k
    cases hm : addT A b x l x u with
    | none => exact absurd hm k
    | some w =>
      rcases addT_cases hm with ⟨e1, _, _⟩ | ⟨_, e2, _⟩ | ⟨e1, _, _⟩ | e'
      · exact absurd e1.symm nbx
      · subst e2; exact hbl
      · exact absurd e1.symm nlx
      · exact hbl.trans H (h.h2 u (by rw [e']; simp))
  · rw [addT_sum _ nbx nbl (Ne.symm nlx) k1 k2 k3 (hn b br) hxn (hn l lr), h.ar]
    show (c2 px py b l + shs px py (b :: s)) + c2 px py l x - shs px py (x :: last :: r) + _ = _
    have e1 : c2 px py x l = - c2 px py l x := by unfold c2; grind
    have e2 : c2 px py l b = - c2 px py b l := by unfold c2; grind
    omega
  · rw [addT_sum _ nbx nbl (Ne.symm nlx) k1 k2 k3 (hn b br) hxn (hn l lr)]
    have := h.cn
    simp only [List.length_cons, Int.natCast_add] at this ⊢
    omega

theorem gd_ext (H : Half Pos) {r : List Nat} {x : Nat} : ∀ {s : List Nat} {l b : Nat}, Gd Pos px py r (l :: b :: s) → (∀ y ∈ l :: b :: s, y ∈ r) → 0 ≤ T px py b l x → Lt Pos px py l x → Gd Pos px py (x :: r) (l :: b :: s)
  | [], l, b, h, _, hx, _ => ⟨h.1, fun p hp => by
      rcases List.mem_cons.1 hp with rfl | hp
      · exact hx
      · exact h.2.1 p hp, trivial⟩
  | c :: s, l, b, h, hin, hx, hlx => by
    refine ⟨h.1, fun p hp => ?_, gd_ext H h.2.2 (fun y hy => hin y (List.mem_cons_of_mem _ hy)) ?_ (h.1.trans H hlx)⟩
    · rcases List.mem_cons.1 hp with rfl | hp
      · exact hx
      · exact h.2.1 p hp
    · have e1 : 0 ≤ cr (px b - px c) (py b - py c) (px l - px b) (py l - py b) := by rw [← T_sh]; exact h.2.2.2.1 l (hin l (by simp))
      have e2 : 0 ≤ cr (px l - px b) (py l - py b) (px x - px l) (py x - py l) := by rw [← T_sh]; exact hx
      have e3 := H.tr _ _ _ _ _ _ h.2.2.1 h.1 hlx e1 e2
      rw [T_sh]
      have e4 : cr (px b - px c) (py b - py c) (px x - px b) (py x - py b) = cr (px b - px c) (py b - py c) (px l - px b) (py l - py b) + cr (px b - px c) (py b - py c) (px x - px l) (py x - py l) := by
        unfold cr; grind
      omega

theorem rd_push (H : Half Pos) {last x l : Nat} {r s : List Nat} {A : Nat → Nat → Option Nat} (h : Rd Pos px py n last r l s x A) (hx : ∀ p ∈ last :: r, Lt Pos px py p x)
    (tri : ∀ p ∈ last :: r, ∀ q ∈ last :: r, p = q ∨ Lt Pos px py p q ∨ Lt Pos px py q p) (hT : ∀ b s', s = b :: s' → 0 ≤ T px py b l x) : Inv Pos px py n x (last :: r) (l :: s) A := by
  have lr : l ∈ last :: r := h.sub l (by simp)
  have hlx := hx l lr
  have hgd : Gd Pos px py (x :: last :: r) (l :: s) := by
    cases s with
    | nil => trivial
    | cons b s => exact gd_ext H h.gd h.sub (hT b s rfl) hlx
  refine ⟨?_, ?_, ⟨hlx, ?_, hgd⟩, h.cyc, h.pos, ?_, h.btw, ?_, ?_, ?_, ?_, ?_, ?_, ?_, ?_⟩
  · intro y hy
    rcases List.mem_cons.1 hy with rfl | hy
    · simp
    · exact List.mem_cons_of_mem _ (h.sub y hy)
  · intro m hm p hp
    rw [List.getLast?_cons_cons] at hm
    have mr : m ∈ last :: r := h.sub m (List.mem_of_getLast? hm)
    rcases List.mem_cons.1 hp with rfl | hp
    · exact .inr (hx m mr)
    · exact h.bot m hm p hp
  · intro p hp
    rcases List.mem_cons.1 hp with rfl | hp
    · rw [T_two]; omega
    · rcases tri p hp l lr with rfl | g | g
      · rw [T_one]; omega
      · cases s with
        | nil =>
          rcases h.bot l rfl p hp with rfl | k
          · exact (lt_irrefl H g).elim
          · exact (lt_irrefl H (g.trans H k)).elim
        | cons b s =>
          have e1 : 0 ≤ cr (px l - px p) (py l - py p) (px l - px b) (py l - py b) := by rw [← T_back]; exact h.gd.2.1 p hp
          have e2 : 0 ≤ cr (px l - px b) (py l - py b) (px x - px l) (py x - py l) := by rw [← T_sh]; exact hT b s rfl
          rw [T_on]
          exact H.tr _ _ _ _ _ _ g h.gd.1 hlx e1 e2
      · exact h.g9 p hp g
  · intro u v w e
    rcases h.mem _ _ _ e with g | rfl
    · exact List.mem_cons_of_mem _ g
    · simp
  · intro u v w e k
    rcases h.f4 _ _ _ e k with g | g | ⟨rfl, rfl⟩
    · exact .inl g
    · exact .inr (.inr g)
    · exact .inr (.inl ⟨rfl, rfl⟩)
  · intro u v e
    rcases e with ⟨rfl, rfl⟩ | e
    · cases hm : A v u with
      | none => rfl
      | some w => exact (lt_irrefl H (h.h2 u (by rw [hm]; simp))).elim
    · exact h.f5 u v e
  · intro u v w e k
    exact h.f6 _ _ _ e k
  · intro u v e
    rcases e with ⟨rfl, rfl⟩ | e
    · rcases h.g1 with g | g
      · exact .inl g
      · exact .inr (.inl ⟨g, rfl⟩)
    · rcases h.f7 u v e with g | g
      · exact .inl g
      · exact .inr (.inr g)
  · intro u v e
    rcases e with ⟨rfl, rfl⟩ | e
    · rcases h.g8 with g | g
      · exact .inr (.inl ⟨g.symm, rfl⟩)
      · exact .inl g
    · rcases h.f8 u v e with g | g
      · exact .inl g
      · exact .inr (.inr g)
  · intro u v w e k p hp kp1 kp2
    rcases List.mem_cons.1 hp with rfl | hp
    · exfalso
      rcases h.mem _ _ _ (h.cyc _ _ _ e) with g | g
      · exact lt_irrefl H ((hx v g).trans H kp2)
      · subst g; exact lt_irrefl H kp2
    · exact h.f9 _ _ _ e k p hp kp1 kp2
  · rw [h.ar]
    show _ = (c2 px py l x + shs px py (l :: s)) - _
    omega
  · have := h.cn
    simp only [List.length_cons, Int.natCast_add] at this ⊢
    omega

end Go.Proofs.YtdbebbbceeopaaaGreat.Geo

set_option linter.unusedSimpArgs false
namespace Go.Proofs.YtdbebbbceeopaaaGreat.Geo
variable {Pos Pos2 : Int → Int → Prop} {px py : Nat → Int} {n : Nat}

/-- The walk made shorter ahead of x, and the triangles that it leaves out. -/
def popF (px py : Nat → Int) (x : Nat) : (Nat → Nat → Option Nat) → List Nat → (Nat → Nat → Option Nat) × List Nat
  | A, l :: b :: s => if T px py b l x < 0 then popF px py x (addT A b x l) (b :: s) else (A, l :: b :: s)
  | A, [l] => (A, [l])
  | A, [] => (A, [])

/-- All of a sweep. -/
def sweep (px py : Nat → Int) : (Nat → Nat → Option Nat) → List Nat → List Nat → (Nat → Nat → Option Nat) × List Nat
  | A, s, [] => (A, s)
  | A, s, x :: os => sweep px py (popF px py x A s).1 (x :: (popF px py x A s).2) os

theorem pop_inv (H : Half Pos) {last x : Nat} {r : List Nat} (hx : ∀ p ∈ last :: r, Lt Pos px py p x) (hn : ∀ p ∈ last :: r, p < n) (hxn : x < n)
    (tri : ∀ p ∈ last :: r, ∀ q ∈ last :: r, p = q ∨ Lt Pos px py p q ∨ Lt Pos px py q p) : ∀ (s : List Nat) (l : Nat) (A : Nat → Nat → Option Nat), Rd Pos px py n last r l s x A →
    Inv Pos px py n x (last :: r) (popF px py x A (l :: s)).2 (popF px py x A (l :: s)).1
  | [], l, A, h => rd_push H h hx tri (fun b s' e => by cases e)
  | b :: s, l, A, h => by
    unfold popF
    by_cases hT : T px py b l x < 0
    · rw [if_pos hT]
      exact pop_inv H hx hn hxn tri s b _ (rd_pop H h hx hn hxn hT)
    · rw [if_neg hT]
      exact rd_push H h hx tri (fun b' s' e => by cases e; omega)

theorem sweep_inv (H : Half Pos) : ∀ (os : List Nat) (last : Nat) (r s : List Nat) (A : Nat → Nat → Option Nat), Inv Pos px py n last r s A → (os.reverse ++ last :: r).Pairwise (fun a b => Lt Pos px py b a) → (∀ p ∈ os.reverse ++ last :: r, p < n) →
    ∃ last' r' s', (sweep px py A (last :: s) os).2 = last' :: s' ∧ last' :: r' = os.reverse ++ last :: r ∧ Inv Pos px py n last' r' s' (sweep px py A (last :: s) os).1
  | [], last, r, s, A, h, _, _ => ⟨last, r, s, rfl, rfl, h⟩
  | x :: os, last, r, s, A, h, hp, hn => by
    have e : (x :: os).reverse ++ last :: r = os.reverse ++ x :: last :: r := by simp
    rw [e] at hp hn
    have hp2 : (x :: last :: r).Pairwise (fun a b => Lt Pos px py b a) := (List.pairwise_append.1 hp).2.1
    have hp3 := List.pairwise_cons.1 hp2
    have hp4 := List.pairwise_cons.1 hp3.2
    have tri : ∀ p ∈ last :: r, ∀ q ∈ last :: r, p = q ∨ Lt Pos px py p q ∨ Lt Pos px py q p := by
      intro p hpm q hqm
      obtain ⟨i, hi, rfl⟩ := List.getElem_of_mem hpm
      obtain ⟨j, hj, rfl⟩ := List.getElem_of_mem hqm
      rcases Nat.lt_trichotomy i j with k | k | k
      · exact .inr (.inr (List.pairwise_iff_getElem.1 hp3.2 i j hi hj k))
      · subst k; exact .inl rfl
      · exact .inr (.inl (List.pairwise_iff_getElem.1 hp3.2 j i hj hi k))
    have hI := pop_inv H (n := n) hp3.1 (fun p hpm => hn p (List.mem_append_right _ (List.mem_cons_of_mem _ hpm))) (hn x (by simp)) tri s last A (rd_start H h hp3.1 hp4.1)
    obtain ⟨last', r', s', q1, q2, q3⟩ := sweep_inv H os x (last :: r) _ _ hI hp hn
    exact ⟨last', r', s', q1, by rw [q2]; simp, q3⟩

end Go.Proofs.YtdbebbbceeopaaaGreat.Geo

set_option linter.unusedSimpArgs false
namespace Go.Proofs.YtdbebbbceeopaaaGreat.Geo
variable {Pos Pos2 : Int → Int → Prop} {px py : Nat → Int} {n : Nat}

theorem Ed_snoc : ∀ (l : List Nat) (x u v : Nat), Ed (l ++ [x]) u v ↔ Ed l u v ∨ (l.getLast? = some v ∧ u = x)
  | [], x, u, v => by simp [Ed]
  | [a], x, u, v => by simp [Ed]; omega
  | a :: b :: s, x, u, v => by
    have ih := Ed_snoc (b :: s) x u v
    rw [List.getLast?_cons_cons]
    simp only [List.cons_append] at ih ⊢
    show ((u = b ∧ v = a) ∨ Ed (b :: (s ++ [x])) u v) ↔ ((u = b ∧ v = a) ∨ Ed (b :: s) u v) ∨ _
    rw [ih, or_assoc]

theorem Ed_rev : ∀ (l : List Nat) (u v : Nat), Ed l.reverse u v ↔ Ed l v u
  | [], u, v => by simp [Ed]
  | [a], u, v => by simp [Ed]
  | a :: b :: s, u, v => by
    rw [List.reverse_cons, Ed_snoc, Ed_rev (b :: s) u v]
    show _ ↔ ((v = b ∧ u = a) ∨ Ed (b :: s) v u)
    simp
    constructor
    · rintro (h | ⟨h1, h2⟩)
      · exact .inr h
      · exact .inl ⟨h1.symm, h2⟩
    · rintro (⟨h1, h2⟩ | h)
      · exact .inr ⟨h1.symm, h2⟩
      · exact .inl h

theorem c2_anti (u v : Nat) : c2 px py v u = - c2 px py u v := by unfold c2; grind

theorem shs_snoc : ∀ (l : List Nat) (x y : Nat), l.getLast? = some y → shs px py (l ++ [x]) = shs px py l + c2 px py x y
  | [], x, y, h => by cases h
  | [a], x, y, h => by
    simp at h
    subst h
    show c2 px py x a + 0 = 0 + c2 px py x a
    omega
  | a :: b :: s, x, y, h => by
    rw [List.getLast?_cons_cons] at h
    have ih := shs_snoc (b :: s) x y h
    simp only [List.cons_append] at ih ⊢
    show c2 px py b a + shs px py (b :: (s ++ [x])) = c2 px py b a + shs px py (b :: s) + _
    omega

theorem shs_rev : ∀ (l : List Nat), shs px py l.reverse = - shs px py l
  | [] => rfl
  | [a] => rfl
  | a :: b :: s => by
    rw [List.reverse_cons, shs_snoc _ a b (by simp), shs_rev (b :: s)]
    show _ = - (c2 px py b a + shs px py (b :: s))
    have := c2_anti (px := px) (py := py) a b
    omega

theorem Ed_nb : ∀ (l : List Nat) (p : Nat), p ∈ l → 2 ≤ l.length → ∃ v, Ed l p v ∨ Ed l v p
  | [], p, h, _ => by cases h
  | [a], p, _, h => by simp at h
  | [a, b], p, h, _ => by
    simp at h
    rcases h with rfl | rfl
    · exact ⟨b, .inr (.inl ⟨rfl, rfl⟩)⟩
    · exact ⟨a, .inl (.inl ⟨rfl, rfl⟩)⟩
  | a :: b :: c :: s, p, h, _ => by
    rcases List.mem_cons.1 h with rfl | h
    · exact ⟨b, .inr (.inl ⟨rfl, rfl⟩)⟩
    · obtain ⟨v, hv⟩ := Ed_nb (b :: c :: s) p h (by simp)
      rcases hv with hv | hv
      · exact ⟨v, .inl (.inr hv)⟩
      · exact ⟨v, .inr (.inr hv)⟩

theorem Ed_con (H : Half Pos) : ∀ (l : List Nat), l.Pairwise (fun a b => Lt Pos px py b a) → ∀ u v, Ed l u v → Lt Pos px py u v ∧ ∀ w ∈ l, ¬ (Lt Pos px py u w ∧ Lt Pos px py w v)
  | [], _, u, v, h => by cases h
  | [a], _, u, v, h => by cases h
  | a :: b :: s, hp, u, v, h => by
    have h1 := List.pairwise_cons.1 hp
    have h2 := List.pairwise_cons.1 h1.2
    rcases h with ⟨rfl, rfl⟩ | h
    · refine ⟨h1.1 u (by simp), fun w hw k => ?_⟩
      rcases List.mem_cons.1 hw with rfl | hw
      · exact lt_irrefl H k.2
      · rcases List.mem_cons.1 hw with rfl | hw
        · exact lt_irrefl H k.1
        · exact lt_irrefl H ((h2.1 w hw).trans H k.1)
    · obtain ⟨g1, g2⟩ := Ed_con H (b :: s) h1.2 u v h
      refine ⟨g1, fun w hw k => ?_⟩
      rcases List.mem_cons.1 hw with rfl | hw
      · exact lt_irrefl H ((h1.1 v (Ed.mem h).2).trans H k.2)
      · exact g2 w hw k

/-- Triangles of one kind over those of another. -/
def ov (A B : Nat → Nat → Option Nat) : Nat → Nat → Option Nat := fun u v => match A u v with | some w => some w | none => B u v

theorem addT_ov (A B : Nat → Nat → Option Nat) (a b c : Nat) : addT (ov A B) a b c = ov (addT A a b c) B := by
  funext u v
  unfold addT ov
  by_cases h1 : u = a ∧ v = b
  · simp only [if_pos h1]
  · by_cases h2 : u = b ∧ v = c
    · simp only [if_neg h1, if_pos h2]
    · by_cases h3 : u = c ∧ v = a
      · simp only [if_neg h1, if_neg h2, if_pos h3]
      · simp only [if_neg h1, if_neg h2, if_neg h3]

theorem popF_ov (x : Nat) (B : Nat → Nat → Option Nat) : ∀ (s : List Nat) (A : Nat → Nat → Option Nat), popF px py x (ov A B) s = (ov (popF px py x A s).1 B, (popF px py x A s).2)
  | [], A => rfl
  | [a], A => rfl
  | l :: b :: s, A => by
    unfold popF
    by_cases hT : T px py b l x < 0
    · rw [if_pos hT, if_pos hT, addT_ov, popF_ov x B (b :: s)]
    · rw [if_neg hT, if_neg hT]

theorem sweep_ov (B : Nat → Nat → Option Nat) : ∀ (os s : List Nat) (A : Nat → Nat → Option Nat), sweep px py (ov A B) s os = (ov (sweep px py A s os).1 B, (sweep px py A s os).2)
  | [], s, A => rfl
  | x :: os, s, A => by
    unfold sweep
    rw [popF_ov, sweep_ov B os]

/-- Two sweeps, the one there, the other back. -/
structure Two (Pos Pos2 : Int → Int → Prop) (px py : Nat → Int) (n : Nat) (l1 : Nat) (r1 s1 : List Nat) (A1 : Nat → Nat → Option Nat) (l2 : Nat) (r2 s2 : List Nat) (A2 : Nat → Nat → Option Nat) : Prop where
  i : Inv Pos px py n l1 r1 s1 A1
  j : Inv Pos2 px py n l2 r2 s2 A2
  flip : ∀ a b, Lt Pos2 px py a b ↔ Lt Pos px py b a
  ed : ∀ u v, Ed (l1 :: r1) u v ↔ Ed (l2 :: r2) v u
  mem : ∀ p, p ∈ l1 :: r1 ↔ p ∈ l2 :: r2
  tri : ∀ p ∈ l1 :: r1, ∀ q ∈ l1 :: r1, p = q ∨ Lt Pos px py p q ∨ Lt Pos px py q p
  con : ∀ u v, Ed (l1 :: r1) u v → ∀ w ∈ l1 :: r1, ¬ (Lt Pos px py u w ∧ Lt Pos px py w v)

variable {l1 l2 : Nat} {r1 s1 r2 s2 : List Nat} {A1 A2 : Nat → Nat → Option Nat}

theorem Two.symm (h : Two Pos Pos2 px py n l1 r1 s1 A1 l2 r2 s2 A2) : Two Pos2 Pos px py n l2 r2 s2 A2 l1 r1 s1 A1 :=
  ⟨h.j, h.i, fun a b => (h.flip b a).symm, fun u v => (h.ed v u).symm, fun p => (h.mem p).symm, fun p hp q hq => by
    rcases h.tri p ((h.mem p).2 hp) q ((h.mem q).2 hq) with g | g | g
    · exact .inl g
    · exact .inr (.inr ((h.flip q p).2 g))
    · exact .inr (.inl ((h.flip p q).2 g)), fun u v e w hw k => h.con v u ((h.ed v u).2 e) w ((h.mem w).2 hw) ⟨(h.flip w v).1 k.2, (h.flip u w).1 k.1⟩⟩

theorem Inv.mems {last : Nat} {r s : List Nat} {A : Nat → Nat → Option Nat} (h : Inv Pos px py n last r s A) {u v w : Nat} (e : A u v = some w) : u ∈ last :: r ∧ v ∈ last :: r ∧ w ∈ last :: r :=
  ⟨h.mem _ _ _ e, h.mem _ _ _ (h.cyc _ _ _ e), h.mem _ _ _ (h.cyc _ _ _ (h.cyc _ _ _ e))⟩

theorem Two.dis1 (h : Two Pos Pos2 px py n l1 r1 s1 A1 l2 r2 s2 A2) {u v w : Nat} (e : A1 u v = some w) (k : Lt Pos px py u v) : A2 u v = none := by
  cases hm : A2 u v with
  | none => rfl
  | some w' =>
    exfalso
    obtain ⟨b1, b2⟩ := h.i.btw _ _ _ e k
    have hw := (h.i.mems e).2.2
    have p := h.i.pos _ _ _ e
    rcases h.j.f6 v u w' hm ((h.flip v u).2 k) with g | g
    · cases hz : A2 v u with
      | none => exact g hz
      | some z =>
        have := h.j.f9 v u z hz ((h.flip v u).2 k) w ((h.mem w).1 hw) ((h.flip v w).2 b2) ((h.flip w u).2 b1)
        rw [T_swap] at this
        omega
    · exact h.con u v ((h.ed u v).2 g) w hw ⟨b1, b2⟩

theorem Two.ne (h : Two Pos Pos2 px py n l1 r1 s1 A1 l2 r2 s2 A2) {u v w : Nat} (e : A1 u v = some w) : Lt Pos px py u v ∨ Lt Pos px py v u := by
  have m := h.i.mems e
  rcases h.tri u m.1 v m.2.1 with g | g | g
  · exact absurd g (T_ne12 (h.i.pos _ _ _ e))
  · exact .inl g
  · exact .inr g

/-- No side is in both. -/
theorem Two.dis (h : Two Pos Pos2 px py n l1 r1 s1 A1 l2 r2 s2 A2) {u v w : Nat} (e : A1 u v = some w) : A2 u v = none := by
  rcases h.ne e with k | k
  · exact h.dis1 e k
  · cases hm : A2 u v with
    | none => rfl
    | some w' =>
      have := h.symm.dis1 hm ((h.flip u v).2 k)
      rw [this] at e
      cases e

theorem ov_old {A B : Nat → Nat → Option Nat} {u v w : Nat} (h : ov A B u v = some w) : A u v = some w ∨ B u v = some w := by
  unfold ov at h
  cases hm : A u v with
  | none => rw [hm] at h; exact .inr h
  | some z => rw [hm] at h; exact .inl h

theorem ov_none {A B : Nat → Nat → Option Nat} {u v : Nat} (h : ov A B u v = none) : A u v = none ∧ B u v = none := by
  unfold ov at h
  cases hm : A u v with
  | none => rw [hm] at h; exact ⟨rfl, h⟩
  | some z => rw [hm] at h; cases h

theorem ov_left {A B : Nat → Nat → Option Nat} {u v w : Nat} (h : A u v = some w) : ov A B u v = some w := by unfold ov; rw [h]
theorem ov_right {A B : Nat → Nat → Option Nat} {u v w : Nat} (h' : A u v = none) (h : B u v = some w) : ov A B u v = some w := by unfold ov; rw [h']; exact h

/-- A side with no triangle to its right is one of the walks'. -/
theorem Two.bd (h : Two Pos Pos2 px py n l1 r1 s1 A1 l2 r2 s2 A2) {u v w : Nat} (e : A1 u v = some w) (k1 : A1 v u = none) (k2 : A2 v u = none) : Ed (l1 :: s1) u v ∨ Ed (l2 :: s2) u v := by
  rcases h.ne e with k | k
  · rcases h.i.f4 _ _ _ e k with g | g
    · exact absurd k1 g
    · exact .inl g
  · rcases h.i.f6 v u w e k with g | g
    · exact absurd k1 g
    · rcases h.j.f8 u v ((h.ed v u).1 g) with g' | g'
      · exact absurd k2 g'
      · exact .inr g'

theorem Ed_uni (H : Half Pos) (hm : ∀ a b, Lt Pos px py a b → px a ≤ px b) {r : List Nat} : ∀ (s : List Nat), Gd Pos px py r s → ∀ u v u' v', Ed s u v → Ed s u' v' → px u' < px v → px u < px v' → u = u' ∧ v = v'
  | [], _, u, v, _, _, h, _, _, _ => by cases h
  | [a], _, u, v, _, _, h, _, _, _ => by cases h
  | l :: b :: s, hg, u, v, u', v', h, h', k1, k2 => by
    have low : ∀ y ∈ b :: s, px y ≤ px b := by
      intro y hy
      rcases List.mem_cons.1 hy with rfl | hy
      · omega
      · exact hm y b (hg.2.2.below H y hy)
    rcases h with ⟨rfl, rfl⟩ | h
    · rcases h' with ⟨rfl, rfl⟩ | h'
      · exact ⟨rfl, rfl⟩
      · have := low v' (Ed.mem h').2; omega
    · rcases h' with ⟨rfl, rfl⟩ | h'
      · have := low v (Ed.mem h).2; omega
      · exact Ed_uni H hm (b :: s) hg.2.2 u v u' v' h h' k1 k2

theorem back_px {a b : Nat} (h : Lt Back px py a b) : px b ≤ px a := by
  unfold Lt Back Lex at h; omega

theorem lex_px {a b : Nat} (h : Lt Lex px py a b) : px a ≤ px b := by
  unfold Lt Lex at h; omega

/-- What two sweeps make is a mesh. -/
theorem Two.mesh (h : Two Lex Back px py n l1 r1 s1 A1 l2 r2 s2 A2) (hn : ∀ p, p ∈ l1 :: r1 ↔ p < n) : Mesh px py n (ov A2 A1) := by
  have cyc : ∀ u v w, ov A2 A1 u v = some w → ov A2 A1 v w = some u := by
    intro u v w e
    rcases ov_old e with e' | e'
    · exact ov_left (h.j.cyc _ _ _ e')
    · have := h.i.cyc _ _ _ e'
      exact ov_right (h.dis this) this
  have bd : ∀ u v w, ov A2 A1 u v = some w → ov A2 A1 v u = none → Ed (l1 :: s1) u v ∨ Ed (l2 :: s2) u v := by
    intro u v w e k
    obtain ⟨k1, k2⟩ := ov_none k
    rcases ov_old e with e' | e'
    · rcases h.symm.bd e' k1 k2 with g | g
      · exact .inr g
      · exact .inl g
    · exact h.bd e' k2 k1
  refine ⟨cyc, ?_, ?_, ?_, ?_⟩
  · intro u v w e
    rcases ov_old e with e' | e'
    · exact h.j.pos _ _ _ e'
    · exact h.i.pos _ _ _ e'
  · intro u v w e
    rcases ov_old e with e' | e'
    · exact (hn u).1 ((h.mem u).2 (h.j.mem _ _ _ e'))
    · exact (hn u).1 (h.i.mem _ _ _ e')
  · intro u v w e k p hp
    rcases bd u v w e k with g | g
    · exact (h.i.gd.side u v g).2 p ((hn p).2 hp)
    · exact (h.j.gd.side u v g).2 p ((h.mem p).1 ((hn p).2 hp))
  · intro u v w u' v' w' e k e' k' x1 x2 x3 x4
    have g1 : Ed (l1 :: s1) u v := by
      rcases bd u v w e k with g | g
      · exact g
      · have := back_px (h.j.gd.side u v g).1; omega
    have g2 : Ed (l1 :: s1) u' v' := by
      rcases bd u' v' w' e' k' with g | g
      · exact g
      · have := back_px (h.j.gd.side u' v' g).1; omega
    exact Ed_uni half_lex (fun a b => lex_px) _ h.i.gd u v u' v' g1 g2 x3 x4

/-- In which each point is a corner. -/
theorem Two.cor (h : Two Lex Back px py n l1 r1 s1 A1 l2 r2 s2 A2) (hn : ∀ p, p ∈ l1 :: r1 ↔ p < n) (h2 : 2 ≤ (l1 :: r1).length) (hw : Wide px py (l1 :: r1)) : Cor n (ov A2 A1) := by
  have M := h.mesh hn
  have key : ∀ u v, Ed (l1 :: r1) u v → (∃ w, ov A2 A1 u v = some w) ∨ (∃ w, ov A2 A1 v u = some w) := by
    intro u v e
    rcases h.i.f8 u v e with g | g
    · right
      cases hm : A1 v u with
      | none => exact absurd hm g
      | some w => exact ⟨w, ov_right (h.dis hm) hm⟩
    · rcases h.j.f8 v u ((h.ed u v).1 e) with g' | g'
      · left
        cases hm : A2 u v with
        | none => exact absurd hm g'
        | some w => exact ⟨w, ov_left hm⟩
      · exfalso
        have a1 := h.i.gd.side u v g
        have a2 := h.j.gd.side v u g'
        refine line_flat (b := u) (R := v) (Lt.ne0 half_lex a1.1) (fun p hp => ?_) hw
        have b1 := a1.2 p hp
        have b2 := a2.2 p ((h.mem p).1 hp)
        rw [T_swap] at b2
        omega
  intro p hp
  obtain ⟨v, hv⟩ := Ed_nb (l1 :: r1) p ((hn p).2 hp) h2
  rcases hv with hv | hv
  · rcases key p v hv with ⟨w, e⟩ | ⟨w, e⟩
    · exact ⟨v, w, e⟩
    · exact ⟨w, v, M.cyc _ _ _ e⟩
  · rcases key v p hv with ⟨w, e⟩ | ⟨w, e⟩
    · exact ⟨w, v, M.cyc _ _ _ e⟩
    · exact ⟨v, w, e⟩

theorem Two.sum (h : Two Lex Back px py n l1 r1 s1 A1 l2 r2 s2 A2) (hr : l1 :: r1 = (l2 :: r2).reverse) : Sd n (ov A2 A1) (fun u v _ => c2 px py u v) = shs px py (l1 :: s1) + shs px py (l2 :: s2) := by
  have e : Sd n (ov A2 A1) (fun u v _ => c2 px py u v) = Sd n A2 (fun u v _ => c2 px py u v) + Sd n A1 (fun u v _ => c2 px py u v) := by
    unfold Sd
    rw [← sm2_add]
    refine sm2_congr fun u v _ _ => ?_
    cases hm : A1 u v with
    | none =>
      unfold ov
      rw [hm]
      cases A2 u v <;> simp [el]
    | some w =>
      have := h.dis hm
      unfold ov
      rw [this, hm]
      simp [el]
  have a1 := h.i.ar
  have a2 := h.j.ar
  have a3 := shs_rev (px := px) (py := py) (l2 :: r2)
  rw [← hr] at a3
  omega

end Go.Proofs.YtdbebbbceeopaaaGreat.Geo

set_option linter.unusedSimpArgs false
namespace Go.Proofs.YtdbebbbceeopaaaGreat.Geo
variable {px py : Nat → Int} {n : Nat} {M : Nat → Nat → Option Nat}

/-- Above 0: d lies below the plane through a, b, c, each place lifted to its height. -/
def Wg (px py h : Nat → Int) (a b c d : Nat) : Int := (h a - h d) * T px py d b c + (h b - h d) * T px py d c a + (h c - h d) * T px py d a b

theorem Wg_lift (a b c d : Nat) : Wg px py (lift px py) a b c d = Wn px py a b c d := by unfold Wg Wn lift T tw sq; grind
theorem Wg_swap (h : Nat → Int) (a b c d : Nat) : Wg px py h b a d c = Wg px py h a b c d := by unfold Wg T tw; grind
theorem Wg_flip (h : Nat → Int) (a b c d : Nat) : Wg px py h c d b a = - Wg px py h a b c d := by unfold Wg T tw; grind
theorem Wg_flip' (h : Nat → Int) (a b c d : Nat) : Wg px py h d c a b = - Wg px py h a b c d := by unfold Wg T tw; grind

/-- Heights that a bowl has. -/
def Bowl (px py h : Nat → Int) : Prop := ∀ (a b c d : Nat) (P Q R : Int), 0 < P → 0 ≤ Q → 0 ≤ R → Q + R ≤ P → P * (px a - px d) = Q * (px b - px d) + R * (px c - px d) → P * (py a - py d) = Q * (py b - py d) + R * (py c - py d) →
  P * (h a - h d) ≤ Q * (h b - h d) + R * (h c - h d)

theorem bowl_lift : Bowl px py (lift px py) := by
  intro a b c d P Q R hP hQ hR hs e1 e2
  have := sq_conv P Q R (px a - px d) (py a - py d) (px b - px d) (py b - py d) (px c - px d) (py c - py d) hP hQ hR hs e1 e2
  have k : ∀ u, lift px py u - lift px py d = sq (px u - px d) (py u - py d) + 2 * (px d * (px u - px d) + py d * (py u - py d)) := fun u => by unfold lift sq; grind
  rw [k a, k b, k c]
  have l : P * (2 * (px d * (px a - px d) + py d * (py a - py d))) = Q * (2 * (px d * (px b - px d) + py d * (py b - py d))) + R * (2 * (px d * (px c - px d) + py d * (py c - py d))) := by
    have f1 : P * (2 * (px d * (px a - px d) + py d * (py a - py d))) = 2 * (px d * (P * (px a - px d)) + py d * (P * (py a - py d))) := by grind
    rw [f1, e1, e2]; grind
  simp only [Int.mul_add] at l ⊢
  omega

theorem flip_convexG1 {h : Nat → Int} (hb : Bowl px py h) {a b c d : Nat} (h1 : 0 < T px py a b c) (h2 : 0 < T px py b a d) (hw : 0 < Wg px py h a b c d) : 0 < T px py a d c := by
  rcases Int.lt_or_le 0 (T px py a d c) with g | g
  · exact g
  · exfalso
    have e1 := T_sum (px := px) (py := py) a b c d
    have e2 : T px py d a b = - T px py b a d := by rw [← T_cyc2 a b d, ← T_swap]
    have e3 : T px py d c a = T px py a d c := by rw [T_cyc a d c]
    have bx := T_bary_x (px := px) (py := py) a b c d
    have bya := T_bary_y (px := px) (py := py) a b c d
    have hP : 0 < T px py d b c := by omega
    have := hb a b c d (T px py d b c) (- T px py d c a) (- T px py d a b) hP (by omega) (by omega) (by omega)
      (by rw [Int.neg_mul, Int.neg_mul]; omega) (by rw [Int.neg_mul, Int.neg_mul]; omega)
    unfold Wg at hw
    rw [Int.neg_mul, Int.neg_mul] at this
    rw [Int.mul_comm (h a - h d) _, Int.mul_comm (h b - h d) _, Int.mul_comm (h c - h d) _] at hw
    omega

theorem flip_convexG2 {h : Nat → Int} (hb : Bowl px py h) {a b c d : Nat} (h1 : 0 < T px py a b c) (h2 : 0 < T px py b a d) (hw : 0 < Wg px py h a b c d) : 0 < T px py d b c := by
  have := flip_convexG1 (px := px) (py := py) hb h2 h1 (by rw [Wg_swap]; exact hw)
  rw [T_cyc d b c]
  exact this

theorem Mesh.quadG (hm : Mesh px py n M) {h : Nat → Int} (hb : Bowl px py h) {a b c d : Nat} (e1 : M a b = some c) (e2 : M b a = some d) (hw : 0 < Wg px py h a b c d) : Quad px py M a b c d :=
  hm.quadT e1 e2 (flip_convexG1 hb (hm.pos _ _ _ e1) (hm.pos _ _ _ e2) hw) (flip_convexG2 hb (hm.pos _ _ _ e1) (hm.pos _ _ _ e2) hw)

/-- Three times what is beneath the triangles. -/
def VolG (px py h : Nat → Int) (n : Nat) (M : Nat → Nat → Option Nat) : Int := Sd n M fun u v w => T px py u v w * h w

theorem volG_nonneg (hm : Mesh px py n M) {h : Nat → Int} (hh : ∀ i, 0 ≤ h i) : 0 ≤ VolG px py h n M := sm2_nonneg fun u v _ _ => by
  cases hv : M u v with
  | none => exact Int.le_refl _
  | some w => exact Int.mul_nonneg (Int.le_of_lt (hm.pos _ _ _ hv)) (hh w)

theorem flip_volG (h : Nat → Int) (a b c d : Nat) :
    T px py a b c * (h a + h b + h c) + T px py b a d * (h a + h b + h d) =
      T px py a d c * (h a + h d + h c) + T px py d b c * (h d + h b + h c) + Wg px py h a b c d := by
  unfold Wg T tw; grind

theorem flip_VolG (hm : Mesh px py n M) (h : Nat → Int) {a b c d : Nat} (q : Quad px py M a b c d) : VolG px py h n (flipM M a b c d) = VolG px py h n M - Wg px py h a b c d := by
  have := flip_sum hm q fun u v w => T px py u v w * h w
  have v := flip_volG (px := px) (py := py) h a b c d
  unfold VolG
  rw [T_cyc b c a, T_cyc c a b, T_cyc a d b, T_cyc d b a] at this
  rw [T_cyc d c a, T_cyc c a d, T_cyc b c d, T_cyc c d b] at this
  simp only [Int.mul_add] at v
  have c1 : T px py b a d = T px py a d b := T_cyc _ _ _
  have c2 : T px py a d b = T px py d b a := T_cyc _ _ _
  have c3 : T px py a b c = T px py b c a := T_cyc _ _ _
  have c4 : T px py b c a = T px py c a b := T_cyc _ _ _
  have c5 : T px py a d c = T px py d c a := T_cyc _ _ _
  have c6 : T px py d c a = T px py c a d := T_cyc _ _ _
  have c7 : T px py d b c = T px py b c d := T_cyc _ _ _
  have c8 : T px py b c d = T px py c d b := T_cyc _ _ _
  grind

/-- Is a side wrong: it may be turned over (ok), and its two triangles are folded upward? -/
def bad (px py : Nat → Int) (ok : Nat → Nat → Bool) (h : Nat → Int) (M : Nat → Nat → Option Nat) (u v : Nat) : Bool :=
  ok u v && match M u v, M v u with
  | some c, some d => decide (0 < Wg px py h u v c d)
  | _, _ => false

theorem bad_inv {ok : Nat → Nat → Bool} {h : Nat → Int} {u v : Nat} (hb : bad px py ok h M u v = true) : ok u v = true ∧ ∃ c d, M u v = some c ∧ M v u = some d ∧ 0 < Wg px py h u v c d := by
  unfold bad at hb
  rw [Bool.and_eq_true] at hb
  refine ⟨hb.1, ?_⟩
  have h2 := hb.2
  split at h2
  · rename_i c d e1 e2
    exact ⟨c, d, e1, e2, of_decide_eq_true h2⟩
  · cases h2

theorem bad_of {ok : Nat → Nat → Bool} {h : Nat → Int} {u v c d : Nat} (k : ok u v = true) (e1 : M u v = some c) (e2 : M v u = some d) (hw : 0 < Wg px py h u v c d) : bad px py ok h M u v = true := by
  unfold bad
  rw [e1, e2, k]
  simp [hw]

theorem bad_back {ok : Nat → Nat → Bool} (hs : ∀ u v, ok u v = ok v u) {h : Nat → Int} (u v : Nat) : bad px py ok h M u v = bad px py ok h M v u := by
  unfold bad
  rw [hs u v]
  cases M u v <;> cases M v u <;> simp [Wg_swap]

theorem bad_congr {ok : Nat → Nat → Bool} {h : Nat → Int} {M' : Nat → Nat → Option Nat} {u v : Nat} (e1 : M' u v = M u v) (e2 : M' v u = M v u) : bad px py ok h M' u v = bad px py ok h M u v := by
  unfold bad; rw [e1, e2]

/-- All wrong sides wait. -/
def Waits (px py : Nat → Int) (ok : Nat → Nat → Bool) (h : Nat → Int) (M : Nat → Nat → Option Nat) (l : List (Nat × Nat)) : Prop := ∀ u v, u < v → bad px py ok h M u v = true → (u, v) ∈ l

theorem flip_other {a b c d u v : Nat} (k : ¬ ((u = a ∧ v = b) ∨ (u = b ∧ v = a) ∨ (u = b ∧ v = c) ∨ (u = c ∧ v = a) ∨ (u = a ∧ v = d) ∨ (u = d ∧ v = b) ∨ (u = c ∧ v = d) ∨ (u = d ∧ v = c))) : flipM M a b c d u v = M u v := by
  unfold flipM
  rw [if_neg (by omega), if_neg (by omega), if_neg (by omega), if_neg (by omega), if_neg (by omega), if_neg (by omega), if_neg (by omega)]

def up (u v : Nat) : Nat × Nat := (min u v, max u v)

theorem Waits.flip {ok : Nat → Nat → Bool} {h : Nat → Int} {l l' : List (Nat × Nat)} {a b c d : Nat} (hW : Waits px py ok h M l) (q : Quad px py M a b c d) (hw : 0 < Wg px py h a b c d)
    (hl : ∀ x ∈ l, x = up a b ∨ x ∈ l') (h1 : up a d ∈ l') (h2 : up d b ∈ l') (h3 : up b c ∈ l') (h4 : up c a ∈ l') : Waits px py ok h (flipM M a b c d) l' := by
  intro u v huv hbad
  have e : up u v = (u, v) := by unfold up; rw [Nat.min_eq_left (by omega), Nat.max_eq_right (by omega)]
  have es : ∀ x y, up x y = up y x := fun x y => by unfold up; rw [Nat.min_comm, Nat.max_comm]
  have e' : up v u = (u, v) := by rw [es]; exact e
  obtain ⟨q1, q2, q3, q4, q5, q6, q7, q8, n1, n2, n3, n4, n5, n6, _, _⟩ := q
  by_cases k1 : (u = a ∧ v = d) ∨ (u = d ∧ v = a)
  · rcases k1 with ⟨rfl, rfl⟩ | ⟨rfl, rfl⟩
    · rw [← e]; exact h1
    · rw [← e']; exact h1
  by_cases k2 : (u = d ∧ v = b) ∨ (u = b ∧ v = d)
  · rcases k2 with ⟨rfl, rfl⟩ | ⟨rfl, rfl⟩
    · rw [← e]; exact h2
    · rw [← e']; exact h2
  by_cases k3 : (u = b ∧ v = c) ∨ (u = c ∧ v = b)
  · rcases k3 with ⟨rfl, rfl⟩ | ⟨rfl, rfl⟩
    · rw [← e]; exact h3
    · rw [← e']; exact h3
  by_cases k4 : (u = c ∧ v = a) ∨ (u = a ∧ v = c)
  · rcases k4 with ⟨rfl, rfl⟩ | ⟨rfl, rfl⟩
    · rw [← e]; exact h4
    · rw [← e']; exact h4
  obtain ⟨_, c', d', f1, f2, f3⟩ := bad_inv hbad
  by_cases k5 : (u = a ∧ v = b) ∨ (u = b ∧ v = a)
  · rcases k5 with ⟨rfl, rfl⟩ | ⟨rfl, rfl⟩
    · unfold flipM at f1; simp at f1
    · unfold flipM at f1; simp at f1
  by_cases k6 : u = c ∧ v = d
  · obtain ⟨rfl, rfl⟩ := k6
    have g1 : flipM M a b u v u v = some b := by unfold flipM; simp [*, Ne.symm n1, Ne.symm n2, Ne.symm n3, Ne.symm n4, Ne.symm n5, Ne.symm n6]
    have g2 : flipM M a b u v v u = some a := by unfold flipM; simp [*, Ne.symm n1, Ne.symm n2, Ne.symm n3, Ne.symm n4, Ne.symm n5, Ne.symm n6]
    rw [g1] at f1
    rw [g2] at f2
    cases f1; cases f2
    rw [Wg_flip] at f3
    omega
  by_cases k7 : u = d ∧ v = c
  · obtain ⟨rfl, rfl⟩ := k7
    have g1 : flipM M a b v u v u = some b := by unfold flipM; simp [*, Ne.symm n1, Ne.symm n2, Ne.symm n3, Ne.symm n4, Ne.symm n5, Ne.symm n6]
    have g2 : flipM M a b v u u v = some a := by unfold flipM; simp [*, Ne.symm n1, Ne.symm n2, Ne.symm n3, Ne.symm n4, Ne.symm n5, Ne.symm n6]
    rw [g2] at f1
    rw [g1] at f2
    cases f1; cases f2
    rw [Wg_flip'] at f3
    omega
  have m1 : flipM M a b c d u v = M u v := flip_other (by rintro (g | g | g | g | g | g | g | g) <;> first | exact k5 (.inl g) | exact k5 (.inr g) | exact k3 (.inl g) | exact k4 (.inl g) | exact k1 (.inl g) | exact k2 (.inl g) | exact k6 g | exact k7 g)
  have m2 : flipM M a b c d v u = M v u := flip_other (by rintro (g | g | g | g | g | g | g | g) <;> first | exact k5 (.inr ⟨g.2, g.1⟩) | exact k5 (.inl ⟨g.2, g.1⟩) | exact k3 (.inr ⟨g.2, g.1⟩) | exact k4 (.inr ⟨g.2, g.1⟩) | exact k1 (.inr ⟨g.2, g.1⟩) | exact k2 (.inr ⟨g.2, g.1⟩) | exact k7 ⟨g.2, g.1⟩ | exact k6 ⟨g.2, g.1⟩)
  have hin := hW u v huv (by rw [← bad_congr m1 m2]; exact hbad)
  rcases hl _ hin with k | k
  · exfalso
    unfold up at k
    simp only [Prod.mk.injEq] at k
    rcases Nat.le_total a b with g | g
    · rw [Nat.min_eq_left g, Nat.max_eq_right g] at k; exact k5 (.inl k)
    · rw [Nat.min_eq_right g, Nat.max_eq_left g] at k; exact k5 (.inr k)
  · exact k

/-- Where nothing waits, no side is wrong. -/
theorem Waits.done {ok : Nat → Nat → Bool} (hs : ∀ u v, ok u v = ok v u) {h : Nat → Int} (hm : Mesh px py n M) (hW : Waits px py ok h M []) : ∀ u v, bad px py ok h M u v = false := by
  intro u v
  cases hb : bad px py ok h M u v with
  | false => rfl
  | true =>
    obtain ⟨_, c, d, e1, _, _⟩ := bad_inv hb
    have := T_ne12 (hm.pos _ _ _ e1)
    rcases Nat.lt_or_ge u v with k | k
    · cases hW u v k hb
    · rw [bad_back hs] at hb
      cases hW v u (by omega) hb
end Go.Proofs.YtdbebbbceeopaaaGreat.Geo

set_option linter.unusedSimpArgs false
namespace Go.Proofs.YtdbebbbceeopaaaGreat.Geo
variable {px py : Nat → Int} {n : Nat} {M : Nat → Nat → Option Nat} {X Y W : Int}

section
variable {i j d : Nat}

end

theorem T_111 (a b : Nat) : T px py a b a = 0 := by unfold T tw; grind
theorem T_122 (a b : Nat) : T px py a b b = 0 := by unfold T tw; grind
end Go.Proofs.YtdbebbbceeopaaaGreat.Geo
