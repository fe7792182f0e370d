import Derived.Test.YtdbebbbceeopaaaGreatN4
set_option linter.unusedSimpArgs false
namespace Go.Proofs.YtdbebbbceeopaaaGreat.Geo
variable {Pos Pos2 : Int → Int → Prop} {px py : Nat → Int} {n : Nat} {M : Nat → Nat → Option Nat} {X Y W : Int}
variable {l1 l2 : Nat} {r1 s1 r2 s2 : List Nat} {A1 A2 : Nat → Nat → Option Nat}

theorem Two.rim1 (H : Half Pos) (h : Two Pos Pos2 px py n l1 r1 s1 A1 l2 r2 s2 A2) (hw : Wide px py (l1 :: r1)) {u v : Nat} (e : Ed (l1 :: s1) u v) : (A1 u v ≠ none ∨ A2 u v ≠ none) ∧ A1 v u = none ∧ A2 v u = none := by
  obtain ⟨k, hs⟩ := h.i.gd.side u v e
  refine ⟨?_, h.i.f5 u v e, ?_⟩
  · rcases h.i.f7 u v e with g | g
    · exact .inl g
    · rcases h.j.f8 v u ((h.ed u v).1 g) with g' | g'
      · exact .inr g'
      · exfalso
        obtain ⟨_, hs2⟩ := h.j.gd.side v u g'
        refine line_flat (k.ne0 H) (fun p hp => ?_) hw
        have a1 := hs p hp
        have a2 := hs2 p ((h.mem p).1 hp)
        rw [T_swap] at a2
        omega
  · cases hm : A2 v u with
    | none => rfl
    | some w =>
      exfalso
      have m := h.j.mems hm
      have := h.j.pos _ _ _ hm
      have q := hs w ((h.mem w).2 m.2.2)
      rw [T_swap] at this
      omega

theorem ov_ne {A B : Nat → Nat → Option Nat} {u v : Nat} : ov A B u v ≠ none ↔ A u v ≠ none ∨ B u v ≠ none := by
  unfold ov
  cases A u v <;> simp

theorem ov_is_none {A B : Nat → Nat → Option Nat} {u v : Nat} : ov A B u v = none ↔ A u v = none ∧ B u v = none := by
  unfold ov
  cases A u v <;> simp

/-- The border of both sweeps together: the sides of their walks. -/
theorem Two.rim (H : Half Pos) (H2 : Half Pos2) (h : Two Pos Pos2 px py n l1 r1 s1 A1 l2 r2 s2 A2) (hw : Wide px py (l1 :: r1)) (u v : Nat) : Rim (ov A2 A1) u v ↔ Ed (l1 :: s1) u v ∨ Ed (l2 :: s2) u v := by
  have hw2 : Wide px py (l2 :: r2) := by
    obtain ⟨i, hi, j, hj, k, hk, ht⟩ := hw
    exact ⟨i, (h.mem i).1 hi, j, (h.mem j).1 hj, k, (h.mem k).1 hk, ht⟩
  constructor
  · rintro ⟨k1, k2⟩
    rw [ov_is_none] at k2
    rw [ov_ne] at k1
    rcases k1 with k1 | k1
    · cases hm : A2 u v with
      | none => exact absurd hm k1
      | some w => exact (h.symm.bd hm k2.1 k2.2).symm
    · cases hm : A1 u v with
      | none => exact absurd hm k1
      | some w => exact h.bd hm k2.2 k2.1
  · rintro (e | e)
    · obtain ⟨a, b, c⟩ := h.rim1 H hw e
      exact ⟨ov_ne.2 a.symm, ov_is_none.2 ⟨c, b⟩⟩
    · obtain ⟨a, b, c⟩ := h.symm.rim1 H2 hw2 e
      exact ⟨ov_ne.2 a, ov_is_none.2 ⟨b, c⟩⟩

/-- A walk passes all that lies between its ends. -/
theorem ed_span : ∀ (s : List Nat) (l : Nat), (∀ y ∈ l :: s, W * px y ≠ X) → ∀ m, (l :: s).getLast? = some m → W * px m < X → X < W * px l → ∃ u v, Ed (l :: s) u v ∧ W * px u < X ∧ X < W * px v
  | [], l, _, m, hm, h1, h2 => by
    simp at hm
    subst hm
    omega
  | b :: s, l, hg, m, hm, h1, h2 => by
    rw [List.getLast?_cons_cons] at hm
    have := hg b (by simp)
    rcases Int.lt_or_gt_of_ne this with k | k
    · exact ⟨b, l, .inl ⟨rfl, rfl⟩, k, h2⟩
    · obtain ⟨u, v, e, k1, k2⟩ := ed_span s b (fun y hy => hg y (List.mem_cons_of_mem _ hy)) m hm h1 k
      exact ⟨u, v, .inr e, k1, k2⟩

theorem ed_last : ∀ (s : List Nat) (l : Nat), s ≠ [] → ∀ m, (l :: s).getLast? = some m → ∃ v, Ed (l :: s) m v
  | [], _, h, _, _ => absurd rfl h
  | [b], l, _, m, hm => by
    simp at hm
    subst hm
    exact ⟨l, .inl ⟨rfl, rfl⟩⟩
  | b :: c :: s, l, _, m, hm => by
    rw [List.getLast?_cons_cons] at hm
    obtain ⟨v, e⟩ := ed_last (c :: s) b (by simp) m hm
    exact ⟨v, .inr e⟩

theorem ed_idx : ∀ (s : List Nat) (a b : Nat), Ed s a b → ∃ j, j + 1 < s.length ∧ b = s.getD j 0 ∧ a = s.getD (j + 1) 0
  | [], _, _, h => by cases h
  | [_], _, _, h => by cases h
  | l :: c :: s, a, b, h => by
    rcases h with ⟨rfl, rfl⟩ | h
    · exact ⟨0, by simp, rfl, rfl⟩
    · obtain ⟨j, h1, h2, h3⟩ := ed_idx (c :: s) a b h
      exact ⟨j + 1, by simp at h1 ⊢; omega, by simpa using h2, by simpa using h3⟩

theorem last_getD {s : List Nat} {m k : Nat} (h : s.getLast? = some m) (hk : s.length = k + 1) : s.getD k 0 = m := by
  rw [List.getLast?_eq_getElem?, hk] at h
  rw [List.getD_eq_getElem?_getD, show k = k + 1 - 1 by omega, h]
  rfl

/-- What holds of all of the hull's sides holds of both of its walks. -/
theorem hull_sides {s1 s2 : List Nat} {R L : Nat} {q1 q2 : List Nat} (e1 : s1 = R :: q1) (e2 : s2 = L :: q2) (hR : s2.getLast? = some R) (hL : s1.getLast? = some L) (n1 : q1 ≠ []) (n2 : q2 ≠ []) (Q : Nat → Nat → Prop)
    (h : ∀ i, i < (s1.reverse.dropLast ++ s2.reverse.dropLast).length → Q ((s1.reverse.dropLast ++ s2.reverse.dropLast).getD i 0) ((s1.reverse.dropLast ++ s2.reverse.dropLast).getD ((i + 1) % (s1.reverse.dropLast ++ s2.reverse.dropLast).length) 0)) :
    (∀ a b, Ed s1 a b → Q a b) ∧ (∀ a b, Ed s2 a b → Q a b) := by
  obtain ⟨m1, hm1⟩ : ∃ m1, m1 = q1.length := ⟨_, rfl⟩
  obtain ⟨m2, hm2⟩ : ∃ m2, m2 = q2.length := ⟨_, rfl⟩
  have p1 : 1 ≤ m1 := by cases q1 <;> simp at *; omega
  have p2 : 1 ≤ m2 := by cases q2 <;> simp at *; omega
  have len1 : s1.length = m1 + 1 := by rw [e1, hm1]; rfl
  have len2 : s2.length = m2 + 1 := by rw [e2, hm2]; rfl
  obtain ⟨m, hm⟩ : ∃ m, m = m1 + m2 := ⟨_, rfl⟩
  have hlen : (s1.reverse.dropLast ++ s2.reverse.dropLast).length = m := by simp [len1, len2]; omega
  rw [hlen] at h
  have f : ∀ i, i ≤ m1 → s1.reverse.getD i 0 = s1.getD (m1 - i) 0 := fun i hi => by rw [getD_rev _ _ (by omega), len1]; congr 1 <;> omega
  have g : ∀ i, i ≤ m2 → s2.reverse.getD i 0 = s2.getD (m2 - i) 0 := fun i hi => by rw [getD_rev _ _ (by omega), len2]; congr 1 <;> omega
  have a1 : s1.getD 0 0 = R := by rw [e1]; rfl
  have a2 : s2.getD 0 0 = L := by rw [e2]; rfl
  have a3 := last_getD hL len1
  have a4 := last_getD hR len2
  have hf : ∀ i, i < m1 → (s1.reverse.dropLast ++ s2.reverse.dropLast).getD i 0 = s1.getD (m1 - i) 0 := by
    intro i hi
    rw [getD_append, if_pos (by simp [len1]; omega), getD_dropLast _ _ (by simp [len1]; omega), f i (by omega)]
  have hg : ∀ i, i < m2 → (s1.reverse.dropLast ++ s2.reverse.dropLast).getD (m1 + i) 0 = s2.getD (m2 - i) 0 := by
    intro i hi
    have : (s1.reverse.dropLast).length = m1 := by simp [len1]
    rw [getD_append, if_neg (by omega), this, show m1 + i - m1 = i by omega, getD_dropLast _ _ (by simp [len2]; omega), g i (by omega)]
  constructor
  · intro a b e
    obtain ⟨j, hj, rfl, rfl⟩ := ed_idx s1 a b e
    have q := h (m1 - (j + 1)) (by omega)
    rw [hf _ (by omega), show m1 - (m1 - (j + 1)) = j + 1 by omega, show m1 - (j + 1) + 1 = m1 - j by omega, Nat.mod_eq_of_lt (by omega)] at q
    by_cases hj0 : j = 0
    · subst hj0
      have := hg 0 (by omega)
      rw [show m1 - 0 = m1 + 0 by omega, this, Nat.sub_zero, a4] at q
      rw [a1]; exact q
    · rw [hf _ (by omega), show m1 - (m1 - j) = j by omega] at q
      exact q
  · intro a b e
    obtain ⟨j, hj, rfl, rfl⟩ := ed_idx s2 a b e
    have q := h (m1 + (m2 - (j + 1))) (by omega)
    rw [hg _ (by omega), show m2 - (m2 - (j + 1)) = j + 1 by omega] at q
    by_cases hj0 : j = 0
    · subst hj0
      have := hf 0 (by omega)
      rw [show m1 + (m2 - (0 + 1)) + 1 = m by omega, Nat.mod_self, this, Nat.sub_zero, a3] at q
      rw [a2]; exact q
    · rw [Nat.mod_eq_of_lt (by omega), show m1 + (m2 - (j + 1)) + 1 = m1 + (m2 - j) by omega, hg _ (by omega), show m2 - (m2 - j) = j by omega] at q
      exact q

theorem gd_mid' (H : Half Pos) {r t : List Nat} {l b b' : Nat} (h : Gd Pos px py r (l :: b :: t)) (hbr : b ∈ r) (tri : ∀ p ∈ r, ∀ q ∈ r, p = q ∨ Lt Pos px py p q ∨ Lt Pos px py q p)
    (h0 : T px py b l b' = 0) (k : Lt Pos px py b b') : Gd Pos px py r (b' :: b :: t) := by
  refine ⟨k, fun p hp => ?_, h.2.2⟩
  have hp0 := h.2.1 p hp
  have z : cr (px l - px b) (py l - py b) (px b' - px b) (py b' - py b) = 0 := by rw [← T_cr]; exact h0
  have z' : cr (px b' - px b) (py b' - py b) (px l - px b) (py l - py b) = 0 := by rw [cr_anti]; omega
  rcases tri p hp b hbr with rfl | g | g
  · rw [T_one]; omega
  · rw [T_on] at hp0 ⊢
    exact H.tr _ _ _ _ _ _ g h.1 k hp0 (by omega)
  · rw [T_cr] at hp0 ⊢
    exact H.tr _ _ _ _ _ _ k h.1 g (by omega) hp0

/-- What holds of one walk's sides, and of any side on the line of one, holds of another's with the same ends. -/
theorem walk_all (H : Half Pos) {r : List Nat} (tri : ∀ p ∈ r, ∀ q ∈ r, p = q ∨ Lt Pos px py p q ∨ Lt Pos px py q p) (Q : Nat → Nat → Prop)
    (hQ : ∀ a b u v, Lt Pos px py a b → Lt Pos px py u v → T px py a b u = 0 → T px py a b v = 0 → Q a b → Q u v) : ∀ (N : Nat) (s s' : List Nat) (l : Nat), s.length + s'.length ≤ N → Gd Pos px py r (l :: s) → Gd Pos px py r (l :: s') →
    (∀ y ∈ l :: s, y ∈ r) → (∀ y ∈ l :: s', y ∈ r) → (l :: s).getLast? = (l :: s').getLast? → (∀ u v, Ed (l :: s') u v → Q u v) → ∀ u v, Ed (l :: s) u v → Q u v := by
  intro N
  induction N with
  | zero =>
    intro s s' l hN _ _ _ _ _ _
    rw [List.eq_nil_of_length_eq_zero (by omega : s.length = 0)]
    intro u v e
    cases e
  | succ N ih =>
    intro s s' l hN h h' hin hin' hlast hq
    cases s with
    | nil => intro u v e; cases e
    | cons b t =>
      cases s' with
      | nil =>
        exfalso
        rw [List.getLast?_cons_cons] at hlast
        have : l ∈ b :: t := List.mem_of_getLast? hlast
        exact lt_irrefl H (h.below H l this)
      | cons b' t' =>
        have hbr : b ∈ r := hin b (by simp)
        have hbr' : b' ∈ r := hin' b' (by simp)
        have e1 := h.2.1 b' hbr'
        have e2 := h'.2.1 b hbr
        have e3 : T px py b' l b = - T px py b l b' := by unfold T tw; grind
        have h0 : T px py b l b' = 0 := by omega
        have h0' : T px py b' l b = 0 := by omega
        rw [List.getLast?_cons_cons, List.getLast?_cons_cons] at hlast
        have qbl : Q b l := hQ b' l b l h'.1 h.1 h0' (T_two _ _) (hq b' l (.inl ⟨rfl, rfl⟩))
        have rest : ∀ u v, Ed (b :: t) u v → Q u v := by
          rcases tri b hbr b' hbr' with rfl | k | k
          · exact ih t t' b (by simp at hN; omega) h.2.2 h'.2.2 (fun y hy => hin y (List.mem_cons_of_mem _ hy)) (fun y hy => hin' y (List.mem_cons_of_mem _ hy)) hlast (fun u v e => hq u v (.inr e))
          · intro u v e
            exact ih (b :: t) t' b' (by simp at hN ⊢; omega) (gd_mid' H h hbr tri h0 k) h'.2.2 (fun y hy => by
              rcases List.mem_cons.1 hy with rfl | hy
              · exact hbr'
              · exact hin y (List.mem_cons_of_mem _ hy)) (fun y hy => hin' y (List.mem_cons_of_mem _ hy)) (by rw [List.getLast?_cons_cons]; exact hlast) (fun u v e => hq u v (.inr e)) u v (.inr e)
          · exact ih t (b' :: t') b (by simp at hN ⊢; omega) h.2.2 (gd_mid' H h' hbr' tri h0' k) (fun y hy => hin y (List.mem_cons_of_mem _ hy)) (fun y hy => by
              rcases List.mem_cons.1 hy with rfl | hy
              · exact hbr
              · exact hin' y (List.mem_cons_of_mem _ hy)) (by rw [List.getLast?_cons_cons]; exact hlast) (fun u v e => by
                rcases e with ⟨rfl, rfl⟩ | e
                · exact hQ u l u v h'.1 k (T_one _ _) h0' (hq u l (.inl ⟨rfl, rfl⟩))
                · exact hq u v (.inr e))
        intro u v e
        rcases e with ⟨rfl, rfl⟩ | e
        · exact qbl
        · exact rest u v e

/-- A place to the left of a side is so of each on its line with its direction. -/
theorem tp_same {x y : Int} {a b u v : Nat} (h1 : Lt Lex px py a b) (h2 : Lt Lex px py u v) (e1 : T px py a b u = 0) (e2 : T px py a b v = 0) (hq : 0 ≤ tp px py x y a b) : 0 ≤ tp px py x y u v := by
  have i1 : tp px py x y u v * (px b - px a) = tp px py x y a b * (px v - px u) := by
    unfold T tw at e1 e2
    unfold tp
    grind
  have i2 : tp px py x y u v * (py b - py a) = tp px py x y a b * (py v - py u) := by
    unfold T tw at e1 e2
    unfold tp
    grind
  have i3 : (px b - px a) * (py v - py u) = (py b - py a) * (px v - px u) := by
    unfold T tw at e1 e2
    grind
  unfold Lt Lex at h1 h2
  rcases h1 with h1 | ⟨h1, h1'⟩
  · refine nn_of_mul h1 ?_
    rw [Int.mul_comm, i1]
    exact Int.mul_nonneg hq (by omega)
  · rw [h1, Int.zero_mul] at i3
    have : px v - px u = 0 := by
      rcases Int.mul_eq_zero.1 i3.symm with k | k
      · omega
      · exact k
    refine nn_of_mul h1' ?_
    rw [Int.mul_comm, i2]
    exact Int.mul_nonneg hq (by omega)

theorem tp_same_back {x y : Int} {a b u v : Nat} (h1 : Lt Back px py a b) (h2 : Lt Back px py u v) (e1 : T px py a b u = 0) (e2 : T px py a b v = 0) (hq : 0 ≤ tp px py x y a b) : 0 ≤ tp px py x y u v := by
  rw [lt_back] at h1 h2
  have i1 : tp px py x y u v * (px b - px a) = tp px py x y a b * (px v - px u) := by
    unfold T tw at e1 e2
    unfold tp
    grind
  have i2 : tp px py x y u v * (py b - py a) = tp px py x y a b * (py v - py u) := by
    unfold T tw at e1 e2
    unfold tp
    grind
  have i3 : (px b - px a) * (py v - py u) = (py b - py a) * (px v - px u) := by
    unfold T tw at e1 e2
    grind
  unfold Lt Lex at h1 h2
  rcases h1 with h1 | ⟨h1, h1'⟩
  · refine nn_of_mul h1 ?_
    have e : (px a - px b) * tp px py x y u v = tp px py x y a b * (px u - px v) := by grind
    rw [e]
    exact Int.mul_nonneg hq (by omega)
  · have h0 : px b - px a = 0 := by omega
    rw [h0, Int.zero_mul] at i3
    have : px v - px u = 0 := by
      rcases Int.mul_eq_zero.1 i3.symm with k | k
      · omega
      · exact k
    refine nn_of_mul h1' ?_
    have e : (py a - py b) * tp px py x y u v = tp px py x y a b * (py u - py v) := by grind
    rw [e]
    exact Int.mul_nonneg hq (by omega)

/-- Where two sides meet in the place farthest to the right (or left), nothing to the left of both lies farther. -/
theorem end_range {x y : Int} {b R a : Nat} (ht : 0 < T px py b R a) (h1 : 0 ≤ tp px py x y b R) (h2 : 0 ≤ tp px py x y R a) : (px b ≤ px R → px a ≤ px R → x ≤ px R) ∧ (px R ≤ px b → px R ≤ px a → px R ≤ x) := by
  have id : (x - px R) * T px py b R a = (px a - px R) * tp px py x y b R + (px b - px R) * tp px py x y R a := by unfold tp T tw; grind
  constructor
  · intro k1 k2
    have m1 := Int.mul_nonneg (show 0 ≤ px R - px a by omega) h1
    have m2 := Int.mul_nonneg (show 0 ≤ px R - px b by omega) h2
    have : 0 ≤ T px py b R a * (px R - x) := by
      have e : T px py b R a * (px R - x) = (px R - px a) * tp px py x y b R + (px R - px b) * tp px py x y R a := by grind
      omega
    have := nn_of_mul ht this
    omega
  · intro k1 k2
    have m1 := Int.mul_nonneg (show 0 ≤ px a - px R by omega) h1
    have m2 := Int.mul_nonneg (show 0 ≤ px b - px R by omega) h2
    have : 0 ≤ T px py b R a * (x - px R) := by
      rw [Int.mul_comm]; omega
    have := nn_of_mul ht this
    omega

/-- A place within a triangle of points lies to the left of every side that has all to its left. -/
theorem within_left {gx gy : Int} {u v p q r : Nat} {all : List Nat} (hw : T px py p q r ≠ 0) (hne : ¬ (px v - px u = 0 ∧ py v - py u = 0)) (hp : p ∈ all) (hq : q ∈ all) (hr : r ∈ all) (hs : ∀ i ∈ all, 0 ≤ T px py u v i) (hT : 0 < T px py p q r)
    (k1 : 0 < tp px py gx gy p q) (k2 : 0 < tp px py gx gy q r) (k3 : 0 < tp px py gx gy r p) : 0 < tp px py gx gy u v := by
  have id : T px py p q r * tp px py gx gy u v = tp px py gx gy q r * T px py u v p + tp px py gx gy r p * T px py u v q + tp px py gx gy p q * T px py u v r := by unfold tp T tw; grind
  have m1 := Int.mul_nonneg (Int.le_of_lt k2) (hs p hp)
  have m2 := Int.mul_nonneg (Int.le_of_lt k3) (hs q hq)
  have m3 := Int.mul_nonneg (Int.le_of_lt k1) (hs r hr)
  refine pos_of_mul hT ?_
  rcases Int.lt_or_le 0 (T px py u v p) with g | g
  · have := Int.mul_pos k2 g; omega
  · rcases Int.lt_or_le 0 (T px py u v q) with g' | g'
    · have := Int.mul_pos k3 g'; omega
    · rcases Int.lt_or_le 0 (T px py u v r) with g'' | g''
      · have := Int.mul_pos k1 g''; omega
      · exfalso
        have a1 := hs p hp
        have a2 := hs q hq
        have a3 := hs r hr
        refine line_flat (all := [p, q, r]) hne (fun i hi => ?_) ⟨p, by simp, q, by simp, r, by simp, hw⟩
        simp only [List.mem_cons, List.not_mem_nil, or_false] at hi
        rcases hi with rfl | rfl | rfl <;> omega

end Go.Proofs.YtdbebbbceeopaaaGreat.Geo

set_option linter.unusedSimpArgs false
namespace Go.Proofs.YtdbebbbceeopaaaGreat.Geo
variable {px py : Nat → Int} {n : Nat} {M : Nat → Nat → Option Nat}

theorem Wn_s12 (a b c d : Nat) : Wn px py b a c d = - Wn px py a b c d := by unfold Wn sq T tw; grind
theorem Wn_s23 (a b c d : Nat) : Wn px py a c b d = - Wn px py a b c d := by unfold Wn sq T tw; grind
theorem Wn_s34 (a b c d : Nat) : Wn px py a b d c = - Wn px py a b c d := by unfold Wn sq T tw; grind

theorem z12 {a b c d : Nat} (h : Wn px py a b c d = 0) : Wn px py b a c d = 0 := by rw [Wn_s12]; omega
theorem z23 {a b c d : Nat} (h : Wn px py a b c d = 0) : Wn px py a c b d = 0 := by rw [Wn_s23]; omega
theorem z34 {a b c d : Nat} (h : Wn px py a b c d = 0) : Wn px py a b d c = 0 := by rw [Wn_s34]; omega

/-- It is enough to look at each four in one order. -/
theorem free_of (h : ∀ i j k m, i < n → j < i → k < j → m < k → Wn px py i j k m ≠ 0) : Free px py n := by
  intro a b c d ha hb hc hd n1 n2 n3 n4 n5 n6 e
  rcases Nat.lt_or_gt_of_ne n1 with p1 | p1 <;> rcases Nat.lt_or_gt_of_ne n2 with p2 | p2 <;> rcases Nat.lt_or_gt_of_ne n3 with p3 | p3 <;> rcases Nat.lt_or_gt_of_ne n4 with p4 | p4 <;> rcases Nat.lt_or_gt_of_ne n5 with p5 | p5 <;> rcases Nat.lt_or_gt_of_ne n6 with p6 | p6 <;> first
  | omega
  | exact h a b c d (by omega) (by omega) (by omega) (by omega) e
  | exact h a b d c (by omega) (by omega) (by omega) (by omega) (z34 e)
  | exact h a c b d (by omega) (by omega) (by omega) (by omega) (z23 e)
  | exact h a c d b (by omega) (by omega) (by omega) (by omega) (z34 (z23 e))
  | exact h a d b c (by omega) (by omega) (by omega) (by omega) (z23 (z34 e))
  | exact h a d c b (by omega) (by omega) (by omega) (by omega) (z23 (z34 (z23 e)))
  | exact h b a c d (by omega) (by omega) (by omega) (by omega) (z12 e)
  | exact h b a d c (by omega) (by omega) (by omega) (by omega) (z34 (z12 e))
  | exact h b c a d (by omega) (by omega) (by omega) (by omega) (z23 (z12 e))
  | exact h b c d a (by omega) (by omega) (by omega) (by omega) (z34 (z23 (z12 e)))
  | exact h b d a c (by omega) (by omega) (by omega) (by omega) (z23 (z34 (z12 e)))
  | exact h b d c a (by omega) (by omega) (by omega) (by omega) (z23 (z34 (z23 (z12 e))))
  | exact h c a b d (by omega) (by omega) (by omega) (by omega) (z12 (z23 e))
  | exact h c a d b (by omega) (by omega) (by omega) (by omega) (z34 (z12 (z23 e)))
  | exact h c b a d (by omega) (by omega) (by omega) (by omega) (z12 (z23 (z12 e)))
  | exact h c b d a (by omega) (by omega) (by omega) (by omega) (z34 (z12 (z23 (z12 e))))
  | exact h c d a b (by omega) (by omega) (by omega) (by omega) (z23 (z34 (z12 (z23 e))))
  | exact h c d b a (by omega) (by omega) (by omega) (by omega) (z23 (z34 (z12 (z23 (z12 e)))))
  | exact h d a b c (by omega) (by omega) (by omega) (by omega) (z12 (z23 (z34 e)))
  | exact h d a c b (by omega) (by omega) (by omega) (by omega) (z12 (z23 (z34 (z23 e))))
  | exact h d b a c (by omega) (by omega) (by omega) (by omega) (z12 (z23 (z34 (z12 e))))
  | exact h d b c a (by omega) (by omega) (by omega) (by omega) (z12 (z23 (z34 (z23 (z12 e)))))
  | exact h d c a b (by omega) (by omega) (by omega) (by omega) (z12 (z23 (z34 (z12 (z23 e)))))
  | exact h d c b a (by omega) (by omega) (by omega) (by omega) (z12 (z23 (z34 (z12 (z23 (z12 e))))))

/-- Points that are moved together. -/
theorem T_shift (x y : Int) (a b c : Nat) : T (fun i => px i + x) (fun i => py i + y) a b c = T px py a b c := by unfold T tw; grind
theorem Wn_shift (x y : Int) (a b c d : Nat) : Wn (fun i => px i + x) (fun i => py i + y) a b c d = Wn px py a b c d := by unfold Wn T tw sq; grind

theorem Mesh.unshift {x y : Int} (h : Mesh (fun i => px i + x) (fun i => py i + y) n M) : Mesh px py n M where
  cyc := h.cyc
  pos := fun a b c e => by have := h.pos a b c e; rwa [T_shift] at this
  lt := h.lt
  bor := fun a b c e k p hp => by have := h.bor a b c e k p hp; rwa [T_shift] at this
  uni := fun a b c a' b' c' e k e' k' h1 h2 h3 h4 => h.uni a b c a' b' c' e k e' k' (by (try dsimp only); omega) (by (try dsimp only); omega) (by (try dsimp only); omega) (by (try dsimp only); omega)

theorem Loc.unshift {x y : Int} (h : Loc (fun i => px i + x) (fun i => py i + y) M) : Loc px py M := fun a b c d e1 e2 => by have := h a b c d e1 e2; rwa [Wn_shift] at this

/-- The other way round. -/
def rv (n i : Nat) : Nat := n - 1 - i

theorem rv_rv {i : Nat} (h : i < n) : rv n (rv n i) = i := by unfold rv; omega
theorem rv_lt {i : Nat} (h : i < n) : rv n i < n := by unfold rv; omega

/-- A mesh of points whose list goes the other way round. -/
def revM (n : Nat) (M : Nat → Nat → Option Nat) : Nat → Nat → Option Nat := fun u v => if u < n ∧ v < n then (M (rv n u) (rv n v)).map (rv n) else none

theorem revM_some {u v w : Nat} (hl : ∀ a b c, M a b = some c → a < n ∧ b < n ∧ c < n) : revM n M u v = some w ↔ (u < n ∧ v < n ∧ w < n) ∧ M (rv n u) (rv n v) = some (rv n w) := by
  unfold revM
  constructor
  · intro h
    by_cases k : u < n ∧ v < n
    · rw [if_pos k] at h
      cases hm : M (rv n u) (rv n v) with
      | none => rw [hm] at h; cases h
      | some c =>
        rw [hm] at h
        have e : rv n c = w := Option.some.inj h
        have l := hl _ _ _ hm
        subst e
        exact ⟨⟨k.1, k.2, rv_lt l.2.2⟩, by rw [rv_rv l.2.2]⟩
    · rw [if_neg k] at h; cases h
  · rintro ⟨⟨h1, h2, h3⟩, e⟩
    rw [if_pos ⟨h1, h2⟩, e]
    simp [rv_rv h3]

theorem revM_none {u v : Nat} (hu : u < n) (hv : v < n) : revM n M u v = none ↔ M (rv n u) (rv n v) = none := by
  unfold revM
  rw [if_pos ⟨hu, hv⟩]
  cases M (rv n u) (rv n v) <;> simp

theorem T_rev (a b c : Nat) (ha : a < n) (hb : b < n) (hc : c < n) : T (fun i => px (rv n i)) (fun i => py (rv n i)) (rv n a) (rv n b) (rv n c) = T px py a b c := by
  unfold T
  simp only [rv_rv ha, rv_rv hb, rv_rv hc]

theorem Wn_rev (a b c d : Nat) (ha : a < n) (hb : b < n) (hc : c < n) (hd : d < n) : Wn (fun i => px (rv n i)) (fun i => py (rv n i)) (rv n a) (rv n b) (rv n c) (rv n d) = Wn px py a b c d := by
  unfold Wn
  rw [T_rev d b c hd hb hc, T_rev d c a hd hc ha, T_rev d a b hd ha hb]
  simp only [rv_rv ha, rv_rv hb, rv_rv hc, rv_rv hd]

theorem Mesh.unrev (h : Mesh (fun i => px (rv n i)) (fun i => py (rv n i)) n M) : Mesh px py n (revM n M) := by
  have hl : ∀ a b c, M a b = some c → a < n ∧ b < n ∧ c < n := fun a b c e => h.lts e
  constructor
  · intro a b c e
    rw [revM_some hl] at e ⊢
    exact ⟨⟨e.1.2.1, e.1.2.2, e.1.1⟩, h.cyc _ _ _ e.2⟩
  · intro a b c e
    rw [revM_some hl] at e
    have := h.pos _ _ _ e.2
    rwa [T_rev a b c e.1.1 e.1.2.1 e.1.2.2] at this
  · intro a b c e
    rw [revM_some hl] at e
    exact e.1.1
  · intro a b c e k p hp
    rw [revM_some hl] at e
    rw [revM_none e.1.2.1 e.1.1] at k
    have := h.bor _ _ _ e.2 k (rv n p) (rv_lt hp)
    rwa [T_rev a b p e.1.1 e.1.2.1 hp] at this
  · intro a b c a' b' c' e k e' k' h1 h2 h3 h4
    rw [revM_some hl] at e e'
    rw [revM_none e.1.2.1 e.1.1] at k
    rw [revM_none e'.1.2.1 e'.1.1] at k'
    have q := h.uni _ _ _ _ _ _ e.2 k e'.2 k' (by simp only [rv_rv e.1.1, rv_rv e.1.2.1]; exact h1) (by simp only [rv_rv e'.1.1, rv_rv e'.1.2.1]; exact h2) (by simp only [rv_rv e'.1.1, rv_rv e.1.2.1]; exact h3) (by simp only [rv_rv e.1.1, rv_rv e'.1.2.1]; exact h4)
    have q1 : rv n (rv n a) = rv n (rv n a') := by rw [q.1]
    have q2 : rv n (rv n b) = rv n (rv n b') := by rw [q.2]
    rw [rv_rv e.1.1, rv_rv e'.1.1] at q1
    rw [rv_rv e.1.2.1, rv_rv e'.1.2.1] at q2
    exact ⟨q1, q2⟩

theorem Loc.unrev (hm : Mesh (fun i => px (rv n i)) (fun i => py (rv n i)) n M) (h : Loc (fun i => px (rv n i)) (fun i => py (rv n i)) M) : Loc px py (revM n M) := by
  have hl : ∀ a b c, M a b = some c → a < n ∧ b < n ∧ c < n := fun a b c e => hm.lts e
  intro a b c d e1 e2
  rw [revM_some hl] at e1 e2
  have := h _ _ _ _ e1.2 e2.2
  rwa [Wn_rev a b c d e1.1.1 e1.1.2.1 e1.1.2.2 e2.1.2.2] at this

theorem Cor.unrev (hm : Mesh (fun i => px (rv n i)) (fun i => py (rv n i)) n M) (h : Cor n M) : Cor n (revM n M) := by
  have hl : ∀ a b c, M a b = some c → a < n ∧ b < n ∧ c < n := fun a b c e => hm.lts e
  intro p hp
  obtain ⟨x, y, e⟩ := h (rv n p) (rv_lt hp)
  have l := hl _ _ _ e
  refine ⟨rv n x, rv n y, (revM_some hl).2 ⟨⟨hp, rv_lt l.2.1, rv_lt l.2.2⟩, ?_⟩⟩
  rw [rv_rv l.2.1, rv_rv l.2.2]
  exact e

theorem sm_rev (f : Nat → Int) : ∀ n, sm n (fun i => f (n - 1 - i)) = sm n f := by
  have key : ∀ n (f : Nat → Int), sm (n + 1) f = f 0 + sm n (fun i => f (i + 1)) := by
    intro n
    induction n with
    | zero => intro f; simp [sm]
    | succ n ih =>
      intro f
      have e : sm (n + 1 + 1) f = sm (n + 1) f + f (n + 1) := by rw [sm]; try omega
      have e2 : sm (n + 1) (fun i => f (i + 1)) = sm n (fun i => f (i + 1)) + f (n + 1) := by rw [sm]; try omega
      rw [e, e2, ih]
      omega
  intro n
  induction n with
  | zero => rfl
  | succ n ih =>
    rw [key]
    have e : sm (n + 1) f = sm n f + f n := by rw [sm]; try omega
    have e2 : sm n (fun i => f (n + 1 - 1 - (i + 1))) = sm n (fun i => f (n - 1 - i)) := sm_congr fun i hi => by congr 1; omega
    rw [e, e2, ih]
    show f (n + 1 - 1 - 0) + _ = _
    rw [show n + 1 - 1 - 0 = n by omega]
    omega

end Go.Proofs.YtdbebbbceeopaaaGreat.Geo
