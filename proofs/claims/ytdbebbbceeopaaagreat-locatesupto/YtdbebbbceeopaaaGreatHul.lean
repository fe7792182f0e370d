import Derived.Test.YtdbebbbceeopaaaGreatGeo
set_option linter.unusedSimpArgs false
namespace Go.Proofs.YtdbebbbceeopaaaGreat.Geo
variable {Pos : Int → Int → Prop} {px py : Nat → Int}

theorem good_idx {all : List Nat} : ∀ (s : List Nat), Good Pos px py all s → ∀ i, i + 1 < s.length → (Lt Pos px py (s.getD (i + 1) 0) (s.getD i 0) ∧ (∀ p ∈ all, 0 ≤ T px py (s.getD (i + 1) 0) (s.getD i 0) p)) ∧ (i + 2 < s.length → 0 < T px py (s.getD (i + 2) 0) (s.getD (i + 1) 0) (s.getD i 0)) := by
  intro s
  induction s with
  | nil => intro _ i hi; simp at hi
  | cons l r ih =>
    intro hg i hi
    cases r with
    | nil => simp at hi
    | cons b r =>
      obtain ⟨h1, h2, h3, h4⟩ := hg
      cases i with
      | zero =>
        refine ⟨⟨h1, h2⟩, ?_⟩
        intro h
        cases r with
        | nil => simp at h
        | cons c r => exact h3 c rfl
      | succ i =>
        have := ih h4 i (by simpa using hi)
        refine ⟨this.1, fun h => this.2 (by simp only [List.length_cons] at h ⊢; omega)⟩

/-- A walk, its beginning first. -/
structure Walk (Pos : Int → Int → Prop) (px py : Nat → Int) (all f : List Nat) : Prop where
  lt : ∀ j, j + 1 < f.length → Lt Pos px py (f.getD j 0) (f.getD (j + 1) 0)
  side : ∀ j, j + 1 < f.length → ∀ p ∈ all, 0 ≤ T px py (f.getD j 0) (f.getD (j + 1) 0) p
  turn : ∀ j, j + 2 < f.length → 0 < T px py (f.getD j 0) (f.getD (j + 1) 0) (f.getD (j + 2) 0)

theorem getD_rev (s : List Nat) (j : Nat) (h : j < s.length) : s.reverse.getD j 0 = s.getD (s.length - 1 - j) 0 := by
  rw [List.getD_eq_getElem?_getD, List.getD_eq_getElem?_getD, List.getElem?_reverse h]

theorem walk_of {all s : List Nat} (h : Good Pos px py all s) : Walk Pos px py all s.reverse := by
  have key := good_idx s h
  refine ⟨?_, ?_, ?_⟩
  · intro j hj
    rw [List.length_reverse] at hj
    rw [getD_rev s j (by omega), getD_rev s (j + 1) hj]
    have := (key (s.length - 1 - (j + 1)) (by omega)).1.1
    rw [show s.length - 1 - (j + 1) + 1 = s.length - 1 - j by omega] at this
    exact this
  · intro j hj p hp
    rw [List.length_reverse] at hj
    rw [getD_rev s j (by omega), getD_rev s (j + 1) hj]
    have := (key (s.length - 1 - (j + 1)) (by omega)).1.2 p hp
    rw [show s.length - 1 - (j + 1) + 1 = s.length - 1 - j by omega] at this
    exact this
  · intro j hj
    rw [List.length_reverse] at hj
    rw [getD_rev s j (by omega), getD_rev s (j + 1) (by omega), getD_rev s (j + 2) hj]
    have := (key (s.length - 1 - (j + 2)) (by omega)).2 (by omega)
    rw [show s.length - 1 - (j + 2) + 1 = s.length - 1 - (j + 1) by omega, show s.length - 1 - (j + 2) + 2 = s.length - 1 - j by omega] at this
    exact this

theorem Walk.lts (H : Half Pos) {all f : List Nat} (h : Walk Pos px py all f) : ∀ d i, i + d + 1 < f.length → Lt Pos px py (f.getD i 0) (f.getD (i + d + 1) 0) := by
  intro d
  induction d with
  | zero => intro i hi; exact h.lt i hi
  | succ d ih =>
    intro i hi
    exact (ih i (by omega)).trans H (h.lt (i + d + 1) (by omega))

theorem Walk.ltij (H : Half Pos) {all f : List Nat} (h : Walk Pos px py all f) (i j : Nat) (hij : i < j) (hj : j < f.length) : Lt Pos px py (f.getD i 0) (f.getD j 0) := by
  have := h.lts H (j - i - 1) i (by omega)
  rw [show i + (j - i - 1) + 1 = j by omega] at this
  exact this

/-- Not all on one line. -/
def Wide (px py : Nat → Int) (all : List Nat) : Prop := ∃ i ∈ all, ∃ j ∈ all, ∃ k ∈ all, T px py i j k ≠ 0

theorem line_flat {all : List Nat} {b R : Nat} (hne : ¬ (px R - px b = 0 ∧ py R - py b = 0)) (h : ∀ p ∈ all, T px py b R p = 0) : ¬ Wide px py all := by
  rintro ⟨i, hi, j, hj, k, hk, ht⟩
  apply ht
  have ei := h i hi
  have ej := h j hj
  have ek := h k hk
  rw [T_back] at ei ej ek
  obtain ⟨ux, hux⟩ : ∃ ux, ux = px R - px b := ⟨_, rfl⟩
  obtain ⟨uy, huy⟩ : ∃ uy, uy = py R - py b := ⟨_, rfl⟩
  rw [← hux, ← huy] at hne ei ej ek
  have ea : cr (px j - px i) (py j - py i) ux uy = 0 := by
    unfold cr at *
    simp only [Int.sub_mul] at *
    omega
  have eb : cr (px k - px i) (py k - py i) ux uy = 0 := by
    unfold cr at *
    simp only [Int.sub_mul] at *
    omega
  have i1 := cr_id1 (px j - px i) (py j - py i) ux uy (px k - px i) (py k - py i)
  have i2 := cr_id2 (px j - px i) (py j - py i) ux uy (px k - px i) (py k - py i)
  rw [ea, cr_anti (px k - px i) (py k - py i) ux uy, eb] at i1 i2
  rw [T_cr]
  simp only [Int.zero_mul, Int.neg_zero, Int.add_zero] at i1 i2
  rcases Int.mul_eq_zero.1 i1 with e | e
  · exact e
  · rcases Int.mul_eq_zero.1 i2 with e' | e'
    · exact e'
    · exact absurd ⟨e, e'⟩ hne

theorem Lt.ne0 (H : Half Pos) {b R : Nat} (h : Lt Pos px py b R) : ¬ (px R - px b = 0 ∧ py R - py b = 0) := by
  rintro ⟨e1, e2⟩
  unfold Lt at h
  rw [e1, e2] at h
  exact H.no0 h

/-- Where one walk ends and the other begins there is a left turn too. -/
theorem corner (H : Half Pos) {all : List Nat} {b R a : Nat} (hw : Wide px py all) (ha : a ∈ all) (hbR : Lt Pos px py b R) (haR : Lt Pos px py a R) (hmax : ∀ p ∈ all, p = R ∨ Lt Pos px py p R)
    (e1 : ∀ p ∈ all, 0 ≤ T px py b R p) (e2 : ∀ p ∈ all, 0 ≤ T px py R a p) : 0 < T px py b R a := by
  by_cases h : 0 < T px py b R a
  · exact h
  · exfalso
    have h0 := e1 a ha
    refine line_flat (hbR.ne0 H) (fun p hp => ?_) hw
    have f1 := e1 p hp
    have f2 := e2 p hp
    rcases hmax p hp with rfl | hpR
    · exact T_two _ _
    · have q1 : 0 ≤ cr (px R - px p) (py R - py p) (px R - px b) (py R - py b) := by rw [← T_back]; exact f1
      have q2 : 0 ≤ cr (px R - px a) (py R - py a) (px R - px p) (py R - py p) := by
        have : T px py R a p = cr (px R - px a) (py R - py a) (px R - px p) (py R - py p) := by
          rw [T_cr]; unfold cr
          simp only [Int.sub_mul, Int.mul_sub]
          simp only [Int.mul_comm]
          omega
        rw [← this]; exact f2
      by_cases hpos : 0 < T px py b R p
      · have := H.trs _ _ _ _ _ _ haR hpR hbR q2 q1 (Or.inr (by rw [← T_back]; exact hpos))
        rw [← T_back] at this
        omega
      · omega


/-- What the corners of a hull are. -/
structure IsHull (px py : Nat → Int) (n : Nat) (h : List Nat) : Prop where
  len : 3 ≤ h.length
  lt : ∀ i, i < h.length → h.getD i 0 < n
  inj : ∀ i j, i < j → j < h.length → h.getD i 0 ≠ h.getD j 0
  side : ∀ i, i < h.length → ∀ p, p < n → 0 ≤ T px py (h.getD i 0) (h.getD ((i + 1) % h.length) 0) p
  turn : ∀ i, i < h.length → 0 < T px py (h.getD i 0) (h.getD ((i + 1) % h.length) 0) (h.getD ((i + 2) % h.length) 0)
  first : ∀ p, p < n → p = h.getD 0 0 ∨ Lt Lex px py (h.getD 0 0) p

def Back (x y : Int) : Prop := Lex (-x) (-y)

theorem half_back' : Half Back := half_back

theorem lt_back {a b : Nat} : Lt Back px py a b ↔ Lt Lex px py b a := by
  unfold Lt Back
  rw [show -(px b - px a) = px a - px b by omega, show -(py b - py a) = py a - py b by omega]

theorem getD_dropLast (f : List Nat) (i : Nat) (h : i + 1 < f.length) : f.dropLast.getD i 0 = f.getD i 0 := by
  rw [List.getD_eq_getElem?_getD, List.getD_eq_getElem?_getD, List.getElem?_dropLast, if_pos (by omega)]

theorem getD_append (a b : List Nat) (i : Nat) : (a ++ b).getD i 0 = if i < a.length then a.getD i 0 else b.getD (i - a.length) 0 := by
  rw [List.getD_eq_getElem?_getD, List.getElem?_append]
  split <;> rw [List.getD_eq_getElem?_getD]

theorem isHull_of {n : Nat} {all f g : List Nat} (hall : ∀ p, p ∈ all ↔ p < n) (hw : Wide px py all) (W1 : Walk Lex px py all f) (W2 : Walk Back px py all g) (m1 m2 : Nat) (hf : f.length = m1 + 1) (hg : g.length = m2 + 1) (h1 : 1 ≤ m1) (h2 : 1 ≤ m2)
    (hfi : ∀ i, i < f.length → f.getD i 0 ∈ all) (hgi : ∀ i, i < g.length → g.getD i 0 ∈ all)
    (e0 : g.getD m2 0 = f.getD 0 0) (e1 : g.getD 0 0 = f.getD m1 0) (hmin : ∀ p ∈ all, p = f.getD 0 0 ∨ Lt Lex px py (f.getD 0 0) p) (hmax : ∀ p ∈ all, p = f.getD m1 0 ∨ Lt Lex px py p (f.getD m1 0)) :
    IsHull px py n (f.dropLast ++ g.dropLast) := by
  obtain ⟨m, hm⟩ : ∃ m, m = m1 + m2 := ⟨_, rfl⟩
  have hlen : (f.dropLast ++ g.dropLast).length = m := by simp [hf, hg]; omega
  obtain ⟨c, hc⟩ : ∃ c : Nat → Nat, c = fun i => if i < m1 then f.getD i 0 else g.getD (i - m1) 0 := ⟨_, rfl⟩
  have cf : ∀ i, i ≤ m1 → c i = f.getD i 0 := by
    intro i hi
    rw [hc]
    by_cases h : i < m1
    · simp only [h, if_true]
    · have : i = m1 := by omega
      subst this
      simp only [Nat.lt_irrefl, if_false, Nat.sub_self]
      exact e1
  have cg : ∀ i, m1 ≤ i → c i = g.getD (i - m1) 0 := by
    intro i hi
    rw [hc]
    simp only [show ¬ i < m1 by omega, if_false]
  have hH : ∀ i, i < m → (f.dropLast ++ g.dropLast).getD i 0 = c i := by
    intro i hi
    rw [getD_append]
    have hfl : f.dropLast.length = m1 := by simp [hf]
    rw [hfl, hc]
    by_cases h : i < m1
    · simp only [h, if_true]
      exact getD_dropLast f i (by omega)
    · simp only [h, if_false]
      exact getD_dropLast g (i - m1) (by omega)
  have cm : c m = c 0 := by
    rw [cg m (by omega), cf 0 (by omega), hm, Nat.add_sub_cancel_left, e0]
  have hs : ∀ i, i < m → ∀ p ∈ all, 0 ≤ T px py (c i) (c (i + 1)) p := by
    intro i hi p hp
    by_cases h : i < m1
    · rw [cf i (by omega), cf (i + 1) (by omega)]
      exact W1.side i (by omega) p hp
    · rw [cg i (by omega), cg (i + 1) (by omega), show i + 1 - m1 = (i - m1) + 1 by omega]
      exact W2.side (i - m1) (by omega) p hp
  have hc1 : ∀ i, i < m → (f.dropLast ++ g.dropLast).getD ((i + 1) % m) 0 = c (i + 1) := by
    intro i hi
    by_cases h : i + 1 < m
    · rw [Nat.mod_eq_of_lt h, hH _ h]
    · have : i + 1 = m := by omega
      rw [this, Nat.mod_self, hH 0 (by omega), cm]
  have h3 : 3 ≤ m := by
    by_cases h : 3 ≤ m
    · exact h
    · exfalso
      have k1 : m1 = 1 := by omega
      have k2 : m2 = 1 := by omega
      subst k1 k2
      have a1 := hs 0 (by omega)
      have a2 := hs 1 (by omega)
      rw [show (1 : Nat) + 1 = m by omega, cm] at a2
      refine line_flat (b := c 0) (R := c 1) ?_ (fun p hp => ?_) hw
      · rw [cf 0 (by omega), cf 1 (by omega)]
        exact (W1.lt 0 (by omega)).ne0 half_lex
      · have b1 := a1 p hp
        have b2 := a2 p hp
        rw [T_swap] at b2
        rw [Nat.zero_add] at b1
        omega
  have hcm : ∀ i, i ≤ m → c i ∈ all := by
    intro i hi
    by_cases h : i < m1
    · rw [cf i (by omega)]; exact hfi i (by omega)
    · rw [cg i (by omega)]; exact hgi _ (by omega)
  have ht : ∀ i, i + 1 < m → 0 < T px py (c i) (c (i + 1)) (c (i + 2)) := by
    intro i hi
    by_cases h : i + 2 ≤ m1
    · rw [cf i (by omega), cf (i + 1) (by omega), cf (i + 2) (by omega)]
      exact W1.turn i (by omega)
    · by_cases h' : i + 1 = m1
      · have r := corner half_lex (all := all) (b := c i) (R := c (i + 1)) (a := c (i + 2)) hw (hcm _ (by omega)) (by
            rw [cf i (by omega), cf (i + 1) (by omega)]; exact W1.lt i (by omega)) (by
            rw [cg (i + 1) (by omega), cg (i + 2) (by omega), ← lt_back, show i + 2 - m1 = (i + 1 - m1) + 1 by omega]
            exact W2.lt (i + 1 - m1) (by omega)) (by
            intro p hp
            rw [cf (i + 1) (by omega), h']
            exact hmax p hp) (hs i (by omega)) (hs (i + 1) (by omega))
        exact r
      · rw [cg i (by omega), cg (i + 1) (by omega), cg (i + 2) (by omega), show i + 1 - m1 = (i - m1) + 1 by omega, show i + 2 - m1 = (i - m1) + 2 by omega]
        exact W2.turn (i - m1) (by omega)
  have htl : 0 < T px py (c (m - 1)) (c m) (c 1) := by
    have r := corner half_back' (all := all) (b := c (m - 1)) (R := c m) (a := c 1) hw (hcm _ (by omega)) (by
        rw [cg (m - 1) (by omega), cg m (by omega), show m - m1 = (m - 1 - m1) + 1 by omega]
        exact W2.lt (m - 1 - m1) (by omega)) (by
        rw [lt_back, cm, cf 0 (by omega), cf 1 (by omega)]
        exact W1.lt 0 (by omega)) (by
        intro p hp
        rw [lt_back, cm, cf 0 (by omega)]
        exact hmin p hp) (by
        have := hs (m - 1) (by omega)
        rw [show m - 1 + 1 = m by omega] at this
        exact this) (by
        rw [cm]
        exact hs 0 (by omega))
    exact r
  have hinj : ∀ i j, i < j → j < m → c i ≠ c j := by
    intro i j hij hj e
    by_cases hj1 : j < m1
    · rw [cf i (by omega), cf j (by omega)] at e
      have := W1.ltij half_lex i j hij (by omega)
      rw [e] at this
      exact lt_irrefl half_lex this
    · by_cases hi1 : m1 ≤ i
      · rw [cg i hi1, cg j (by omega)] at e
        have := W2.ltij half_back' (i - m1) (j - m1) (by omega) (by omega)
        rw [e] at this
        exact lt_irrefl half_back' this
      · by_cases hj0 : j = m1
        · subst hj0
          rw [cf i (by omega), cf j (by omega)] at e
          have := W1.ltij half_lex i j hij (by omega)
          rw [e] at this
          exact lt_irrefl half_lex this
        · by_cases hi0 : i = 0
          · subst hi0
            rw [← cm, cg m (by omega), cg j (by omega)] at e
            have := W2.ltij half_back' (j - m1) (m - m1) (by omega) (by omega)
            rw [e] at this
            exact lt_irrefl half_back' this
          · -- a point within both walks
            have t := ht (i - 1) (by omega)
            rw [show i - 1 + 1 = i by omega, show i - 1 + 2 = i + 1 by omega] at t
            have z := W1.lt (i - 1) (by omega)
            rw [show i - 1 + 1 = i by omega, ← cf (i - 1) (by omega), ← cf i (by omega)] at z
            have w := W1.lt i (by omega)
            rw [← cf i (by omega), ← cf (i + 1) (by omega)] at w
            have u := W2.lt (j - m1) (by omega)
            rw [show j - m1 + 1 = j + 1 - m1 by omega, ← cg j (by omega), ← cg (j + 1) (by omega), lt_back, ← e] at u
            have s1 := hs j hj (c (i + 1)) (hcm _ (by omega))
            rw [← e] at s1
            have s2 := hs (i - 1) (by omega) (c (j + 1)) (hcm _ (by omega))
            rw [show i - 1 + 1 = i by omega, T_back] at s2
            have s3 : 0 ≤ cr (px (c (i + 1)) - px (c i)) (py (c (i + 1)) - py (c i)) (px (c i) - px (c (j + 1))) (py (c i) - py (c (j + 1))) := by
              have q : T px py (c i) (c (j + 1)) (c (i + 1)) = cr (px (c (i + 1)) - px (c i)) (py (c (i + 1)) - py (c i)) (px (c i) - px (c (j + 1))) (py (c i) - py (c (j + 1))) := by
                rw [T_cr]; unfold cr
                simp only [Int.sub_mul, Int.mul_sub]
                simp only [Int.mul_comm]
                omega
              rw [← q]; exact s1
            have fin := half_lex.tr _ _ _ _ _ _ w u z s3 s2
            rw [T_sh] at t
            rw [cr_anti] at fin
            omega
  refine ⟨by rw [hlen]; exact h3, ?_, ?_, ?_, ?_, ?_⟩
  · intro i hi
    rw [hlen] at hi
    rw [hH i hi]
    exact (hall _).1 (hcm i (by omega))
  · intro i j hij hj
    rw [hlen] at hj
    rw [hH i (by omega), hH j hj]
    exact hinj i j hij hj
  · intro i hi p hp
    rw [hlen] at hi ⊢
    rw [hH i hi, hc1 i hi]
    exact hs i hi p ((hall p).2 hp)
  · intro i hi
    rw [hlen] at hi ⊢
    rw [hH i hi, hc1 i hi]
    by_cases h : i + 1 < m
    · have : (f.dropLast ++ g.dropLast).getD ((i + 2) % m) 0 = c (i + 2) := hc1 (i + 1) h
      rw [this]
      exact ht i h
    · have hi' : i = m - 1 := by omega
      subst hi'
      rw [show m - 1 + 2 = m + 1 by omega, Nat.add_mod_left, Nat.mod_eq_of_lt (by omega), hH 1 (by omega), show m - 1 + 1 = m by omega]
      exact htl
  · intro p hp
    rw [hH 0 (by omega), cf 0 (by omega)]
    exact hmin p ((hall p).2 hp)

end Go.Proofs.YtdbebbbceeopaaaGreat.Geo
