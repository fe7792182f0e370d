
namespace Go.Proofs.YtdbebbbceeopaaaGreat

/-- How three points turn. -/
def tw (ax ay bx bya cx cy : Int) : Int := (bx - ax) * (cy - ay) - (bya - ay) * (cx - ax)

/-- How the points numbered a, b, c turn. -/
def T (px py : Nat → Int) (a b c : Nat) : Int := tw (px a) (py a) (px b) (py b) (px c) (py c)

/-- A walk (its end first) without what does not turn left towards x. -/
def popS (t : Nat → Nat → Nat → Int) (x : Nat) : List Nat → List Nat
  | l :: b :: r => if 0 < t b l x then l :: b :: r else popS t x (b :: r)
  | [l] => [l]
  | [] => []

/-- The walk along places in an order that keeps the left turns, its end first. -/
def stk (t : Nat → Nat → Nat → Int) (os : List Nat) : List Nat := os.foldl (fun s x => x :: popS t x s) []

theorem stk_snoc (t : Nat → Nat → Nat → Int) (os : List Nat) (x : Nat) : stk t (os ++ [x]) = x :: popS t x (stk t os) := by
  unfold stk; rw [List.foldl_append]; rfl

theorem stk_take (t : Nat → Nat → Nat → Int) (os : List Nat) (k : Nat) (h : k < os.length) : stk t (os.take (k + 1)) = os[k] :: popS t os[k] (stk t (os.take k)) := by
  rw [List.take_succ_eq_append_getElem h, stk_snoc]

theorem popS_len (t : Nat → Nat → Nat → Int) (x : Nat) (s : List Nat) : (popS t x s).length ≤ s.length := by
  induction s with
  | nil => exact Nat.le_refl _
  | cons l r ih =>
    cases r with
    | nil => exact Nat.le_refl _
    | cons b r =>
      unfold popS
      split
      · exact Nat.le_refl _
      · exact Nat.le_trans ih (Nat.le_succ _)

theorem stk_len (t : Nat → Nat → Nat → Int) (os : List Nat) (k : Nat) (hk : k ≤ os.length) : (stk t (os.take k)).length ≤ k := by
  induction k with
  | zero => simp [stk]
  | succ k ih =>
    rw [stk_take t os k (by omega)]
    have := popS_len t os[k] (stk t (os.take k))
    have := ih (by omega)
    simp only [List.length_cons]
    omega

theorem popS_mem (t : Nat → Nat → Nat → Int) (x : Nat) (s : List Nat) : ∀ y ∈ popS t x s, y ∈ s := by
  induction s with
  | nil => exact fun y h => h
  | cons l r ih =>
    cases r with
    | nil => exact fun y h => h
    | cons b r =>
      unfold popS
      split
      · exact fun y h => h
      · exact fun y h => List.mem_cons_of_mem _ (ih y h)

theorem stk_mem (t : Nat → Nat → Nat → Int) (os : List Nat) (k : Nat) (hk : k ≤ os.length) : ∀ y ∈ stk t (os.take k), y ∈ os := by
  induction k with
  | zero => simp [stk]
  | succ k ih =>
    intro y hy
    rw [stk_take t os k (by omega)] at hy
    rcases List.mem_cons.1 hy with rfl | hy
    · exact List.getElem_mem _
    · exact ih (by omega) y (popS_mem t _ _ y hy)

end Go.Proofs.YtdbebbbceeopaaaGreat

set_option linter.unusedSimpArgs false
namespace Go.Proofs.YtdbebbbceeopaaaGreat.Geo

/-- The cross product. -/
def cr (ux uy vx vy : Int) : Int := ux * vy - uy * vx

theorem cr_id1 (ux uy vx vy wx wy : Int) : cr ux uy wx wy * vx = cr ux uy vx vy * wx + cr vx vy wx wy * ux := by
  unfold cr
  simp only [Int.sub_mul]
  simp only [Int.mul_assoc, Int.mul_comm, Int.mul_left_comm]
  omega

theorem cr_id2 (ux uy vx vy wx wy : Int) : cr ux uy wx wy * vy = cr ux uy vx vy * wy + cr vx vy wx wy * uy := by
  unfold cr
  simp only [Int.sub_mul]
  simp only [Int.mul_assoc, Int.mul_comm, Int.mul_left_comm]
  omega

theorem cr_anti (ux uy vx vy : Int) : cr vx vy ux uy = - cr ux uy vx vy := by
  unfold cr
  simp only [Int.mul_comm]
  omega

theorem cr_neg (ux uy vx vy : Int) : cr (-ux) (-uy) (-vx) (-vy) = cr ux uy vx vy := by
  unfold cr
  simp only [Int.neg_mul_neg]

/-- To the right, or straight up. -/
def Lex (x y : Int) : Prop := 0 < x ∨ (x = 0 ∧ 0 < y)

theorem lex_comb (p q ux uy wx wy : Int) (hp : 0 ≤ p) (hq : 0 ≤ q) (hpq : 0 < p ∨ 0 < q) (hu : Lex ux uy) (hw : Lex wx wy) : Lex (p * wx + q * ux) (p * wy + q * uy) := by
  have a1 : 0 ≤ wx := by rcases hw with h | h <;> omega
  have a2 : 0 ≤ ux := by rcases hu with h | h <;> omega
  have b1 := Int.mul_nonneg hp a1
  have b2 := Int.mul_nonneg hq a2
  by_cases h : 0 < p * wx + q * ux
  · exact Or.inl h
  · right
    refine ⟨by omega, ?_⟩
    have c1 : p * wx = 0 := by omega
    have c2 : q * ux = 0 := by omega
    have d1 : 0 ≤ p * wy := by
      rcases Int.mul_eq_zero.1 c1 with e | e
      · rw [e]; omega
      · rcases hw with h | h
        · omega
        · exact Int.mul_nonneg hp (by omega)
    have d2 : 0 ≤ q * uy := by
      rcases Int.mul_eq_zero.1 c2 with e | e
      · rw [e]; omega
      · rcases hu with h | h
        · omega
        · exact Int.mul_nonneg hq (by omega)
    rcases hpq with hp' | hq'
    · have e : wx = 0 := by
        rcases Int.mul_eq_zero.1 c1 with e | e
        · omega
        · exact e
      have : 0 < wy := by rcases hw with h | h <;> omega
      have := Int.mul_pos hp' this
      omega
    · have e : ux = 0 := by
        rcases Int.mul_eq_zero.1 c2 with e | e
        · omega
        · exact e
      have : 0 < uy := by rcases hu with h | h <;> omega
      have := Int.mul_pos hq' this
      omega

theorem lex_pos_of (s vx vy : Int) (hv : Lex vx vy) (h : Lex (s * vx) (s * vy)) : 0 < s := by
  have a : 0 ≤ vx := by rcases hv with h | h <;> omega
  by_cases hs : 0 < s
  · exact hs
  · exfalso
    rcases h with h | ⟨h1, h2⟩
    · have : s * vx ≤ 0 := Int.mul_nonpos_of_nonpos_of_nonneg (by omega) a
      omega
    · rcases Int.mul_eq_zero.1 h1 with e | e
      · rw [e] at h2; omega
      · have : 0 < vy := by rcases hv with h | h <;> omega
        have : s * vy ≤ 0 := Int.mul_nonpos_of_nonpos_of_nonneg (by omega) (by omega)
        omega

theorem lex_tr_strict (ux uy vx vy wx wy : Int) (hu : Lex ux uy) (hv : Lex vx vy) (hw : Lex wx wy) (h1 : 0 ≤ cr ux uy vx vy) (h2 : 0 ≤ cr vx vy wx wy) (h : 0 < cr ux uy vx vy ∨ 0 < cr vx vy wx wy) : 0 < cr ux uy wx wy := by
  refine lex_pos_of _ vx vy hv ?_
  rw [cr_id1 ux uy vx vy wx wy, cr_id2 ux uy vx vy wx wy]
  exact lex_comb _ _ _ _ _ _ h1 h2 h hu hw

theorem lex_tr (ux uy vx vy wx wy : Int) (hu : Lex ux uy) (hv : Lex vx vy) (hw : Lex wx wy) (h1 : 0 ≤ cr ux uy vx vy) (h2 : 0 ≤ cr vx vy wx wy) : 0 ≤ cr ux uy wx wy := by
  by_cases h : 0 < cr ux uy vx vy ∨ 0 < cr vx vy wx wy
  · exact Int.le_of_lt (lex_tr_strict ux uy vx vy wx wy hu hv hw h1 h2 h)
  · have e1 : cr ux uy vx vy = 0 := by omega
    have e2 : cr vx vy wx wy = 0 := by omega
    have i1 := cr_id1 ux uy vx vy wx wy
    have i2 := cr_id2 ux uy vx vy wx wy
    rw [e1, e2] at i1 i2
    simp only [Int.zero_mul, Int.add_zero] at i1 i2
    rcases hv with h | ⟨_, h⟩
    · rcases Int.mul_eq_zero.1 i1 with e | e <;> omega
    · rcases Int.mul_eq_zero.1 i2 with e | e <;> omega

theorem lex_add (ux uy vx vy : Int) (hu : Lex ux uy) (hv : Lex vx vy) : Lex (ux + vx) (uy + vy) := by
  rcases hu with h | h <;> rcases hv with h' | h'
  · exact Or.inl (by omega)
  · exact Or.inl (by omega)
  · exact Or.inl (by omega)
  · exact Or.inr ⟨by omega, by omega⟩

/-- A half of the plane, seen from one point: what the walk needs of 'to the right'. -/
structure Half (Pos : Int → Int → Prop) : Prop where
  trs : ∀ ux uy vx vy wx wy, Pos ux uy → Pos vx vy → Pos wx wy → 0 ≤ cr ux uy vx vy → 0 ≤ cr vx vy wx wy → (0 < cr ux uy vx vy ∨ 0 < cr vx vy wx wy) → 0 < cr ux uy wx wy
  tr : ∀ ux uy vx vy wx wy, Pos ux uy → Pos vx vy → Pos wx wy → 0 ≤ cr ux uy vx vy → 0 ≤ cr vx vy wx wy → 0 ≤ cr ux uy wx wy
  add : ∀ ux uy vx vy, Pos ux uy → Pos vx vy → Pos (ux + vx) (uy + vy)
  no0 : ¬ Pos 0 0

theorem half_lex : Half Lex := ⟨fun _ _ _ _ _ _ => lex_tr_strict _ _ _ _ _ _, fun _ _ _ _ _ _ => lex_tr _ _ _ _ _ _, fun _ _ _ _ => lex_add _ _ _ _, by unfold Lex; omega⟩

theorem half_back : Half (fun x y => Lex (-x) (-y)) := by
  refine ⟨fun ux uy vx vy wx wy hu hv hw h1 h2 h => ?_, fun ux uy vx vy wx wy hu hv hw h1 h2 => ?_, fun ux uy vx vy hu hv => ?_, by unfold Lex; omega⟩
  · rw [← cr_neg] at h1 h2 h ⊢
    rw [← cr_neg vx vy] at h
    exact lex_tr_strict _ _ _ _ _ _ hu hv hw h1 h2 h
  · rw [← cr_neg] at h1 h2 ⊢
    exact lex_tr _ _ _ _ _ _ hu hv hw h1 h2
  · have := lex_add _ _ _ _ hu hv
    rw [show -(ux + vx) = -ux + -vx by omega, show -(uy + vy) = -uy + -vy by omega]
    exact this

variable {Pos : Int → Int → Prop} {px py : Nat → Int}

theorem T_cr (a b c : Nat) : T px py a b c = cr (px b - px a) (py b - py a) (px c - px a) (py c - py a) := rfl

theorem T_sh (a b c : Nat) : T px py a b c = cr (px b - px a) (py b - py a) (px c - px b) (py c - py b) := by
  rw [T_cr]; unfold cr
  simp only [Int.sub_mul, Int.mul_sub]
  simp only [Int.mul_comm]
  omega

theorem T_back (a b p : Nat) : T px py a b p = cr (px b - px p) (py b - py p) (px b - px a) (py b - py a) := by
  rw [T_cr]; unfold cr
  simp only [Int.sub_mul, Int.mul_sub]
  simp only [Int.mul_comm]
  omega

theorem T_on (l x p : Nat) : T px py l x p = cr (px l - px p) (py l - py p) (px x - px l) (py x - py l) := by
  rw [T_cr]; unfold cr
  simp only [Int.sub_mul, Int.mul_sub]
  simp only [Int.mul_comm]
  omega

theorem T_one (a b : Nat) : T px py a b a = 0 := by rw [T_cr]; unfold cr; simp

theorem T_two (a b : Nat) : T px py a b b = 0 := by
  rw [T_sh]; unfold cr; simp

theorem T_cyc (a b c : Nat) : T px py a b c = T px py b c a := by
  rw [T_cr, T_cr]; unfold cr
  simp only [Int.sub_mul, Int.mul_sub]
  simp only [Int.mul_comm]
  omega

theorem T_swap (a b c : Nat) : T px py b a c = - T px py a b c := by
  rw [T_cr, T_cr]; unfold cr
  simp only [Int.sub_mul, Int.mul_sub]
  simp only [Int.mul_comm]
  omega

/-- p ahead of q, as 'Pos' has it. -/
def Lt (Pos : Int → Int → Prop) (px py : Nat → Int) (p q : Nat) : Prop := Pos (px q - px p) (py q - py p)

theorem Lt.trans (H : Half Pos) {a b c : Nat} (h1 : Lt Pos px py a b) (h2 : Lt Pos px py b c) : Lt Pos px py a c := by
  have := H.add _ _ _ _ h1 h2
  unfold Lt
  rw [show px c - px a = (px b - px a) + (px c - px b) by omega, show py c - py a = (py b - py a) + (py c - py b) by omega]
  exact this

theorem lt_irrefl (H : Half Pos) {a : Nat} (h : Lt Pos px py a a) : False := by
  unfold Lt at h
  rw [Int.sub_self, Int.sub_self] at h
  exact H.no0 h

/-- A walk (its end first) all of whose sides have all of 'all' to the left, or on them, and which turns left everywhere. -/
def Good (Pos : Int → Int → Prop) (px py : Nat → Int) (all : List Nat) : List Nat → Prop
  | l :: b :: r => Lt Pos px py b l ∧ (∀ p ∈ all, 0 ≤ T px py b l p) ∧ (∀ c, r.head? = some c → 0 < T px py c b l) ∧ Good Pos px py all (b :: r)
  | [_] => True
  | [] => True

theorem good_ext (H : Half Pos) (all : List Nat) (x : Nat) (s : List Nat) : ∀ l b, Good Pos px py all (l :: b :: s) → 0 ≤ T px py b l x → Lt Pos px py l x → Good Pos px py (all ++ [x]) (l :: b :: s) := by
  induction s with
  | nil =>
    intro l b ⟨h1, h2, h3, h4⟩ hx hlx
    refine ⟨h1, ?_, h3, trivial⟩
    intro p hp
    rcases List.mem_append.1 hp with hp | hp
    · exact h2 p hp
    · rw [List.mem_singleton.1 hp]; exact hx
  | cons c r ih =>
    intro l b ⟨h1, h2, h3, h4⟩ hx hlx
    have hcb : 0 < T px py c b l := h3 c rfl
    have hltcb : Lt Pos px py c b := h4.1
    have hbx : Lt Pos px py b x := h1.trans H hlx
    have key : 0 < T px py c b x := by
      have e1 : 0 < cr (px b - px c) (py b - py c) (px l - px b) (py l - py b) := by rw [← T_sh]; exact hcb
      have e2 : 0 ≤ cr (px l - px b) (py l - py b) (px x - px l) (py x - py l) := by rw [← T_sh]; exact hx
      have e3 := H.trs _ _ _ _ _ _ hltcb h1 hlx (Int.le_of_lt e1) e2 (Or.inl e1)
      rw [T_sh]
      have e4 : cr (px b - px c) (py b - py c) (px x - px b) (py x - py b) = cr (px b - px c) (py b - py c) (px l - px b) (py l - py b) + cr (px b - px c) (py b - py c) (px x - px l) (py x - py l) := by
        unfold cr
        simp only [Int.sub_mul, Int.mul_sub]
        simp only [Int.mul_comm]
        omega
      omega
    refine ⟨h1, ?_, h3, ih b c h4 (Int.le_of_lt key) hbx⟩
    intro p hp
    rcases List.mem_append.1 hp with hp | hp
    · exact h2 p hp
    · rw [List.mem_singleton.1 hp]; exact hx

theorem pop_good (H : Half Pos) (all : List Nat) (x : Nat) (hx : ∀ p ∈ all, Lt Pos px py p x) (tri : ∀ p ∈ all, ∀ q ∈ all, p = q ∨ Lt Pos px py p q ∨ Lt Pos px py q p) (s : List Nat) :
    ∀ l, (∀ y ∈ l :: s, y ∈ all) → Good Pos px py all (l :: s) → (∀ p ∈ all, Lt Pos px py l p → 0 ≤ T px py l x p) → (∀ m, (l :: s).getLast? = some m → ∀ p ∈ all, p = m ∨ Lt Pos px py m p) →
      popS (T px py) x (l :: s) ≠ [] ∧ (popS (T px py) x (l :: s)).getLast? = (l :: s).getLast? ∧ Good Pos px py (all ++ [x]) (x :: popS (T px py) x (l :: s)) := by
  induction s with
  | nil =>
    intro l hin hg htop hbot
    refine ⟨by simp [popS], by simp [popS], ?_⟩
    show Good Pos px py (all ++ [x]) [x, l]
    refine ⟨hx l (hin l (by simp)), ?_, by simp, trivial⟩
    intro p hp
    rcases List.mem_append.1 hp with hp | hp
    · rcases hbot l rfl p hp with rfl | h
      · rw [T_one]; omega
      · exact htop p hp h
    · rw [List.mem_singleton.1 hp, T_two]; omega
  | cons b r ih =>
    intro l hin hg htop hbot
    obtain ⟨h1, h2, h3, h4⟩ := hg
    have hl : l ∈ all := hin l (by simp)
    have hb : b ∈ all := hin b (by simp)
    have hlx := hx l hl
    by_cases hT : 0 < T px py b l x
    · have e : popS (T px py) x (l :: b :: r) = l :: b :: r := by unfold popS; rw [if_pos hT]
      rw [e]
      refine ⟨by simp, rfl, ?_⟩
      refine ⟨hlx, ?_, ?_, good_ext H all x r l b ⟨h1, h2, h3, h4⟩ (Int.le_of_lt hT) hlx⟩
      · intro p hp
        rcases List.mem_append.1 hp with hp | hp
        · rcases tri p hp l hl with rfl | h | h
          · rw [T_one]; omega
          · have e1 : 0 ≤ cr (px l - px p) (py l - py p) (px l - px b) (py l - py b) := by rw [← T_back]; exact h2 p hp
            have e2 : 0 ≤ cr (px l - px b) (py l - py b) (px x - px l) (py x - py l) := by rw [← T_sh]; exact Int.le_of_lt hT
            rw [T_on]
            exact H.tr _ _ _ _ _ _ h h1 hlx e1 e2
          · exact htop p hp h
        · rw [List.mem_singleton.1 hp, T_two]; omega
      · intro c hc
        simp at hc
        subst hc
        exact hT
    · have e : popS (T px py) x (l :: b :: r) = popS (T px py) x (b :: r) := by
        rw [popS, if_neg hT]
      rw [e, List.getLast?_cons_cons]
      refine ih b (fun y hy => hin y (List.mem_cons_of_mem _ hy)) h4 ?_ (fun m hm => hbot m (by rw [List.getLast?_cons_cons]; exact hm))
      intro p hp hbp
      have e1 : 0 ≤ cr (px x - px b) (py x - py b) (px l - px b) (py l - py b) := by
        rw [cr_anti, ← T_cr]; omega
      have e2 : 0 ≤ cr (px l - px b) (py l - py b) (px p - px b) (py p - py b) := by rw [← T_cr]; exact h2 p hp
      rw [T_cr]
      exact H.tr _ _ _ _ _ _ (hx b hb) h1 hbp e1 e2

/-- The chain along an order. -/
theorem stk_good (H : Half Pos) (os : List Nat) (hos : os.Pairwise (Lt Pos px py)) : ∀ k, 0 < k → k ≤ os.length →
    ∃ s, stk (T px py) (os.take k) = os[k - 1]! :: s ∧ (os[k - 1]! :: s).getLast? = some os[0]! ∧ Good Pos px py (os.take k) (os[k - 1]! :: s) := by
  intro k
  induction k with
  | zero => intro h; omega
  | succ k ih =>
    intro _ hk
    by_cases h0 : k = 0
    · subst h0
      have hl : 0 < os.length := by omega
      refine ⟨[], ?_, ?_, trivial⟩
      · rw [stk_take _ _ _ hl]
        simp [stk, popS, hl]
      · simp
    · obtain ⟨s, e1, e2, e3⟩ := ih (by omega) (by omega)
      have hkl : k < os.length := by omega
      have hx : os[k + 1 - 1]! = os[k] := by simp [hkl]
      have hx0 : os[k]! = os[k] := by simp [hkl]
      have htop : os[k - 1]! = os[k - 1] := by
        have : k - 1 < os.length := by omega
        simp [this]
      have mem_idx : ∀ p ∈ os.take k, ∃ i, ∃ h : i < os.length, i < k ∧ os[i] = p := by
        intro p hp
        obtain ⟨i, hi, rfl⟩ := List.getElem_of_mem hp
        have hi' : i < k ∧ i < os.length := by rw [List.length_take] at hi; omega
        exact ⟨i, hi'.2, hi'.1, by simp⟩
      have ord : ∀ i j, (hi : i < os.length) → (hj : j < os.length) → i < j → Lt Pos px py os[i] os[j] := fun i j hi hj hij => List.pairwise_iff_getElem.1 hos i j hi hj hij
      have hpop := pop_good H (os.take k) os[k] (by
          intro p hp
          obtain ⟨i, hi, hik, rfl⟩ := mem_idx p hp
          exact ord i k hi hkl hik) (by
          intro p hp q hq
          obtain ⟨i, hi, hik, rfl⟩ := mem_idx p hp
          obtain ⟨j, hj, hjk, rfl⟩ := mem_idx q hq
          rcases Nat.lt_trichotomy i j with h | h | h
          · exact Or.inr (Or.inl (ord i j hi hj h))
          · subst h; exact Or.inl rfl
          · exact Or.inr (Or.inr (ord j i hj hi h))) s os[k - 1]! (by
          intro y hy
          have : y ∈ stk (T px py) (os.take k) := by rw [e1]; exact hy
          have := stk_mem (T px py) (os.take k) (os.take k).length (Nat.le_refl _) y (by rw [List.take_length]; exact this)
          exact this) e3 (by
          intro p hp hlt
          exfalso
          obtain ⟨i, hi, hik, rfl⟩ := mem_idx p hp
          rw [htop] at hlt
          by_cases h : i = k - 1
          · subst h
            exact lt_irrefl H hlt
          · have := ord i (k - 1) hi (by omega) (by omega)
            exact lt_irrefl H (this.trans H hlt)) (by
          intro m hm p hp
          rw [e2] at hm
          cases hm
          obtain ⟨i, hi, hik, rfl⟩ := mem_idx p hp
          have h0' : os[0]! = os[0] := by simp [show 0 < os.length by omega]
          rw [h0']
          by_cases h : i = 0
          · subst h; exact Or.inl rfl
          · exact Or.inr (ord 0 i (by omega) hi (by omega)))
      obtain ⟨q1, q2, q3⟩ := hpop
      refine ⟨popS (T px py) os[k] (os[k - 1]! :: s), ?_, ?_, ?_⟩
      · rw [stk_take _ _ _ hkl, hx, e1]
      · rw [hx]
        cases hc : popS (T px py) os[k] (os[k - 1]! :: s) with
        | nil => exact absurd hc q1
        | cons a b =>
          rw [List.getLast?_cons_cons, ← hc, q2, e2]
      · rw [hx, List.take_succ_eq_append_getElem hkl]
        exact q3

end Go.Proofs.YtdbebbbceeopaaaGreat.Geo

set_option linter.unusedSimpArgs false
namespace Go.Proofs.YtdbebbbceeopaaaGreat.Geo
variable {Pos : Int → Int → Prop} {px py : Nat → Int}

theorem good_idx {all : List Nat} : ∀ (s : List Nat), Good Pos px py all s → ∀ i, i + 1 < s.length → (Lt Pos px py (s.getD (i + 1) 0) (s.getD i 0) ∧ (∀ p ∈ all, 0 ≤ T px py (s.getD (i + 1) 0) (s.getD i 0) p)) ∧ (i + 2 < s.length → 0 < T px py (s.getD (i + 2) 0) (s.getD (i + 1) 0) (s.getD i 0)) := by
  intro s
  induction s with
  | nil => intro _ i hi; simp at hi
  | cons l r ih =>
    intro hg i hi
    cases r with
    | nil => simp at hi
    | cons b r =>
      obtain ⟨h1, h2, h3, h4⟩ := hg
      cases i with
      | zero =>
        refine ⟨⟨h1, h2⟩, ?_⟩
        intro h
        cases r with
        | nil => simp at h
        | cons c r => exact h3 c rfl
      | succ i =>
        have := ih h4 i (by simpa using hi)
        refine ⟨this.1, fun h => this.2 (by simp only [List.length_cons] at h ⊢; omega)⟩

/-- A walk, its beginning first. -/
structure Walk (Pos : Int → Int → Prop) (px py : Nat → Int) (all f : List Nat) : Prop where
  lt : ∀ j, j + 1 < f.length → Lt Pos px py (f.getD j 0) (f.getD (j + 1) 0)
  side : ∀ j, j + 1 < f.length → ∀ p ∈ all, 0 ≤ T px py (f.getD j 0) (f.getD (j + 1) 0) p
  turn : ∀ j, j + 2 < f.length → 0 < T px py (f.getD j 0) (f.getD (j + 1) 0) (f.getD (j + 2) 0)

theorem getD_rev (s : List Nat) (j : Nat) (h : j < s.length) : s.reverse.getD j 0 = s.getD (s.length - 1 - j) 0 := by
  rw [List.getD_eq_getElem?_getD, List.getD_eq_getElem?_getD, List.getElem?_reverse h]

theorem walk_of {all s : List Nat} (h : Good Pos px py all s) : Walk Pos px py all s.reverse := by
  have key := good_idx s h
  refine ⟨?_, ?_, ?_⟩
  · intro j hj
    rw [List.length_reverse] at hj
    rw [getD_rev s j (by omega), getD_rev s (j + 1) hj]
    have := (key (s.length - 1 - (j + 1)) (by omega)).1.1
    rw [show s.length - 1 - (j + 1) + 1 = s.length - 1 - j by omega] at this
    exact this
  · intro j hj p hp
    rw [List.length_reverse] at hj
    rw [getD_rev s j (by omega), getD_rev s (j + 1) hj]
    have := (key (s.length - 1 - (j + 1)) (by omega)).1.2 p hp
    rw [show s.length - 1 - (j + 1) + 1 = s.length - 1 - j by omega] at this
    exact this
  · intro j hj
    rw [List.length_reverse] at hj
    rw [getD_rev s j (by omega), getD_rev s (j + 1) (by omega), getD_rev s (j + 2) hj]
    have := (key (s.length - 1 - (j + 2)) (by omega)).2 (by omega)
    rw [show s.length - 1 - (j + 2) + 1 = s.length - 1 - (j + 1) by omega, show s.length - 1 - (j + 2) + 2 = s.length - 1 - j by omega] at this
    exact this

theorem Walk.lts (H : Half Pos) {all f : List Nat} (h : Walk Pos px py all f) : ∀ d i, i + d + 1 < f.length → Lt Pos px py (f.getD i 0) (f.getD (i + d + 1) 0) := by
  intro d
  induction d with
  | zero => intro i hi; exact h.lt i hi
  | succ d ih =>
    intro i hi
    exact (ih i (by omega)).trans H (h.lt (i + d + 1) (by omega))

theorem Walk.ltij (H : Half Pos) {all f : List Nat} (h : Walk Pos px py all f) (i j : Nat) (hij : i < j) (hj : j < f.length) : Lt Pos px py (f.getD i 0) (f.getD j 0) := by
  have := h.lts H (j - i - 1) i (by omega)
  rw [show i + (j - i - 1) + 1 = j by omega] at this
  exact this

/-- Not all on one line. -/
def Wide (px py : Nat → Int) (all : List Nat) : Prop := ∃ i ∈ all, ∃ j ∈ all, ∃ k ∈ all, T px py i j k ≠ 0

theorem line_flat {all : List Nat} {b R : Nat} (hne : ¬ (px R - px b = 0 ∧ py R - py b = 0)) (h : ∀ p ∈ all, T px py b R p = 0) : ¬ Wide px py all := by
  rintro ⟨i, hi, j, hj, k, hk, ht⟩
  apply ht
  have ei := h i hi
  have ej := h j hj
  have ek := h k hk
  rw [T_back] at ei ej ek
  obtain ⟨ux, hux⟩ : ∃ ux, ux = px R - px b := ⟨_, rfl⟩
  obtain ⟨uy, huy⟩ : ∃ uy, uy = py R - py b := ⟨_, rfl⟩
  rw [← hux, ← huy] at hne ei ej ek
  have ea : cr (px j - px i) (py j - py i) ux uy = 0 := by
    unfold cr at *
    simp only [Int.sub_mul] at *
    omega
  have eb : cr (px k - px i) (py k - py i) ux uy = 0 := by
    unfold cr at *
    simp only [Int.sub_mul] at *
    omega
  have i1 := cr_id1 (px j - px i) (py j - py i) ux uy (px k - px i) (py k - py i)
  have i2 := cr_id2 (px j - px i) (py j - py i) ux uy (px k - px i) (py k - py i)
  rw [ea, cr_anti (px k - px i) (py k - py i) ux uy, eb] at i1 i2
  rw [T_cr]
  simp only [Int.zero_mul, Int.neg_zero, Int.add_zero] at i1 i2
  rcases Int.mul_eq_zero.1 i1 with e | e
  · exact e
  · rcases Int.mul_eq_zero.1 i2 with e' | e'
    · exact e'
    · exact absurd ⟨e, e'⟩ hne

theorem Lt.ne0 (H : Half Pos) {b R : Nat} (h : Lt Pos px py b R) : ¬ (px R - px b = 0 ∧ py R - py b = 0) := by
  rintro ⟨e1, e2⟩
  unfold Lt at h
  rw [e1, e2] at h
  exact H.no0 h

/-- Where one walk ends and the other begins there is a left turn too. -/
theorem corner (H : Half Pos) {all : List Nat} {b R a : Nat} (hw : Wide px py all) (ha : a ∈ all) (hbR : Lt Pos px py b R) (haR : Lt Pos px py a R) (hmax : ∀ p ∈ all, p = R ∨ Lt Pos px py p R)
    (e1 : ∀ p ∈ all, 0 ≤ T px py b R p) (e2 : ∀ p ∈ all, 0 ≤ T px py R a p) : 0 < T px py b R a := by
  by_cases h : 0 < T px py b R a
  · exact h
  · exfalso
    have h0 := e1 a ha
    refine line_flat (hbR.ne0 H) (fun p hp => ?_) hw
    have f1 := e1 p hp
    have f2 := e2 p hp
    rcases hmax p hp with rfl | hpR
    · exact T_two _ _
    · have q1 : 0 ≤ cr (px R - px p) (py R - py p) (px R - px b) (py R - py b) := by rw [← T_back]; exact f1
      have q2 : 0 ≤ cr (px R - px a) (py R - py a) (px R - px p) (py R - py p) := by
        have : T px py R a p = cr (px R - px a) (py R - py a) (px R - px p) (py R - py p) := by
          rw [T_cr]; unfold cr
          simp only [Int.sub_mul, Int.mul_sub]
          simp only [Int.mul_comm]
          omega
        rw [← this]; exact f2
      by_cases hpos : 0 < T px py b R p
      · have := H.trs _ _ _ _ _ _ haR hpR hbR q2 q1 (Or.inr (by rw [← T_back]; exact hpos))
        rw [← T_back] at this
        omega
      · omega

/-- What the corners of a hull are. -/
structure IsHull (px py : Nat → Int) (n : Nat) (h : List Nat) : Prop where
  len : 3 ≤ h.length
  lt : ∀ i, i < h.length → h.getD i 0 < n
  inj : ∀ i j, i < j → j < h.length → h.getD i 0 ≠ h.getD j 0
  side : ∀ i, i < h.length → ∀ p, p < n → 0 ≤ T px py (h.getD i 0) (h.getD ((i + 1) % h.length) 0) p
  turn : ∀ i, i < h.length → 0 < T px py (h.getD i 0) (h.getD ((i + 1) % h.length) 0) (h.getD ((i + 2) % h.length) 0)
  first : ∀ p, p < n → p = h.getD 0 0 ∨ Lt Lex px py (h.getD 0 0) p

def Back (x y : Int) : Prop := Lex (-x) (-y)

theorem half_back' : Half Back := half_back

theorem lt_back {a b : Nat} : Lt Back px py a b ↔ Lt Lex px py b a := by
  unfold Lt Back
  rw [show -(px b - px a) = px a - px b by omega, show -(py b - py a) = py a - py b by omega]

theorem getD_dropLast (f : List Nat) (i : Nat) (h : i + 1 < f.length) : f.dropLast.getD i 0 = f.getD i 0 := by
  rw [List.getD_eq_getElem?_getD, List.getD_eq_getElem?_getD, List.getElem?_dropLast, if_pos (by omega)]

theorem getD_append (a b : List Nat) (i : Nat) : (a ++ b).getD i 0 = if i < a.length then a.getD i 0 else b.getD (i - a.length) 0 := by
  rw [List.getD_eq_getElem?_getD, List.getElem?_append]
  split <;> rw [List.getD_eq_getElem?_getD]

theorem isHull_of {n : Nat} {all f g : List Nat} (hall : ∀ p, p ∈ all ↔ p < n) (hw : Wide px py all) (W1 : Walk Lex px py all f) (W2 : Walk Back px py all g) (m1 m2 : Nat) (hf : f.length = m1 + 1) (hg : g.length = m2 + 1) (h1 : 1 ≤ m1) (h2 : 1 ≤ m2)
    (hfi : ∀ i, i < f.length → f.getD i 0 ∈ all) (hgi : ∀ i, i < g.length → g.getD i 0 ∈ all)
    (e0 : g.getD m2 0 = f.getD 0 0) (e1 : g.getD 0 0 = f.getD m1 0) (hmin : ∀ p ∈ all, p = f.getD 0 0 ∨ Lt Lex px py (f.getD 0 0) p) (hmax : ∀ p ∈ all, p = f.getD m1 0 ∨ Lt Lex px py p (f.getD m1 0)) :
    IsHull px py n (f.dropLast ++ g.dropLast) := by
  obtain ⟨m, hm⟩ : ∃ m, m = m1 + m2 := ⟨_, rfl⟩
  have hlen : (f.dropLast ++ g.dropLast).length = m := by simp [hf, hg]; omega
  obtain ⟨c, hc⟩ : ∃ c : Nat → Nat, c = fun i => if i < m1 then f.getD i 0 else g.getD (i - m1) 0 := ⟨_, rfl⟩
  have cf : ∀ i, i ≤ m1 → c i = f.getD i 0 := by
    intro i hi
    rw [hc]
    by_cases h : i < m1
    · simp only [h, if_true]
    · have : i = m1 := by omega
      subst this
      simp only [Nat.lt_irrefl, if_false, Nat.sub_self]
      exact e1
  have cg : ∀ i, m1 ≤ i → c i = g.getD (i - m1) 0 := by
    intro i hi
    rw [hc]
    simp only [show ¬ i < m1 by omega, if_false]
  have hH : ∀ i, i < m → (f.dropLast ++ g.dropLast).getD i 0 = c i := by
    intro i hi
    rw [getD_append]
    have hfl : f.dropLast.length = m1 := by simp [hf]
    rw [hfl, hc]
    by_cases h : i < m1
    · simp only [h, if_true]
      exact getD_dropLast f i (by omega)
    · simp only [h, if_false]
      exact getD_dropLast g (i - m1) (by omega)
  have cm : c m = c 0 := by
    rw [cg m (by omega), cf 0 (by omega), hm, Nat.add_sub_cancel_left, e0]
  have hs : ∀ i, i < m → ∀ p ∈ all, 0 ≤ T px py (c i) (c (i + 1)) p := by
    intro i hi p hp
    by_cases h : i < m1
    · rw [cf i (by omega), cf (i + 1) (by omega)]
      exact W1.side i (by omega) p hp
    · rw [cg i (by omega), cg (i + 1) (by omega), show i + 1 - m1 = (i - m1) + 1 by omega]
      exact W2.side (i - m1) (by omega) p hp
  have hc1 : ∀ i, i < m → (f.dropLast ++ g.dropLast).getD ((i + 1) % m) 0 = c (i + 1) := by
    intro i hi
    by_cases h : i + 1 < m
    · rw [Nat.mod_eq_of_lt h, hH _ h]
    · have : i + 1 = m := by omega
      rw [this, Nat.mod_self, hH 0 (by omega), cm]
  have h3 : 3 ≤ m := by
    by_cases h : 3 ≤ m
    · exact h
    · exfalso
      have k1 : m1 = 1 := by omega
      have k2 : m2 = 1 := by omega
      subst k1 k2
      have a1 := hs 0 (by omega)
      have a2 := hs 1 (by omega)
      rw [show (1 : Nat) + 1 = m by omega, cm] at a2
      refine line_flat (b := c 0) (R := c 1) ?_ (fun p hp => ?_) hw
      · rw [cf 0 (by omega), cf 1 (by omega)]
        exact (W1.lt 0 (by omega)).ne0 half_lex
      · have b1 := a1 p hp
        have b2 := a2 p hp
        rw [T_swap] at b2
        rw [Nat.zero_add] at b1
        omega
  have hcm : ∀ i, i ≤ m → c i ∈ all := by
    intro i hi
    by_cases h : i < m1
    · rw [cf i (by omega)]; exact hfi i (by omega)
    · rw [cg i (by omega)]; exact hgi _ (by omega)
  have ht : ∀ i, i + 1 < m → 0 < T px py (c i) (c (i + 1)) (c (i + 2)) := by
    intro i hi
    by_cases h : i + 2 ≤ m1
    · rw [cf i (by omega), cf (i + 1) (by omega), cf (i + 2) (by omega)]
      exact W1.turn i (by omega)
    · by_cases h' : i + 1 = m1
      · have r := corner half_lex (all := all) (b := c i) (R := c (i + 1)) (a := c (i + 2)) hw (hcm _ (by omega)) (by
            rw [cf i (by omega), cf (i + 1) (by omega)]; exact W1.lt i (by omega)) (by
            rw [cg (i + 1) (by omega), cg (i + 2) (by omega), ← lt_back, show i + 2 - m1 = (i + 1 - m1) + 1 by omega]
            exact W2.lt (i + 1 - m1) (by omega)) (by
            intro p hp
            rw [cf (i + 1) (by omega), h']
            exact hmax p hp) (hs i (by omega)) (hs (i + 1) (by omega))
        exact r
      · rw [cg i (by omega), cg (i + 1) (by omega), cg (i + 2) (by omega), show i + 1 - m1 = (i - m1) + 1 by omega, show i + 2 - m1 = (i - m1) + 2 by omega]
        exact W2.turn (i - m1) (by omega)
  have htl : 0 < T px py (c (m - 1)) (c m) (c 1) := by
    have r := corner half_back' (all := all) (b := c (m - 1)) (R := c m) (a := c 1) hw (hcm _ (by omega)) (by
        rw [cg (m - 1) (by omega), cg m (by omega), show m - m1 = (m - 1 - m1) + 1 by omega]
        exact W2.lt (m - 1 - m1) (by omega)) (by
        rw [lt_back, cm, cf 0 (by omega), cf 1 (by omega)]
        exact W1.lt 0 (by omega)) (by
        intro p hp
        rw [lt_back, cm, cf 0 (by omega)]
        exact hmin p hp) (by
        have := hs (m - 1) (by omega)
        rw [show m - 1 + 1 = m by omega] at this
        exact this) (by
        rw [cm]
        exact hs 0 (by omega))
    exact r
  have hinj : ∀ i j, i < j → j < m → c i ≠ c j := by
    intro i j hij hj e
    by_cases hj1 : j < m1
    · rw [cf i (by omega), cf j (by omega)] at e
      have := W1.ltij half_lex i j hij (by omega)
      rw [e] at this
      exact lt_irrefl half_lex this
    · by_cases hi1 : m1 ≤ i
      · rw [cg i hi1, cg j (by omega)] at e
        have := W2.ltij half_back' (i - m1) (j - m1) (by omega) (by omega)
        rw [e] at this
        exact lt_irrefl half_back' this
      · by_cases hj0 : j = m1
        · subst hj0
          rw [cf i (by omega), cf j (by omega)] at e
          have := W1.ltij half_lex i j hij (by omega)
          rw [e] at this
          exact lt_irrefl half_lex this
        · by_cases hi0 : i = 0
          · subst hi0
            rw [← cm, cg m (by omega), cg j (by omega)] at e
            have := W2.ltij half_back' (j - m1) (m - m1) (by omega) (by omega)
            rw [e] at this
            exact lt_irrefl half_back' this
          · -- a point within both walks
            have t := ht (i - 1) (by omega)
            rw [show i - 1 + 1 = i by omega, show i - 1 + 2 = i + 1 by omega] at t
            have z := W1.lt (i - 1) (by omega)
            rw [show i - 1 + 1 = i by omega, ← cf (i - 1) (by omega), ← cf i (by omega)] at z
            have w := W1.lt i (by omega)
            rw [← cf i (by omega), ← cf (i + 1) (by omega)] at w
            have u := W2.lt (j - m1) (by omega)
            rw [show j - m1 + 1 = j + 1 - m1 by omega, ← cg j (by omega), ← cg (j + 1) (by omega), lt_back, ← e] at u
            have s1 := hs j hj (c (i + 1)) (hcm _ (by omega))
            rw [← e] at s1
            have s2 := hs (i - 1) (by omega) (c (j + 1)) (hcm _ (by omega))
            rw [show i - 1 + 1 = i by omega, T_back] at s2
            have s3 : 0 ≤ cr (px (c (i + 1)) - px (c i)) (py (c (i + 1)) - py (c i)) (px (c i) - px (c (j + 1))) (py (c i) - py (c (j + 1))) := by
              have q : T px py (c i) (c (j + 1)) (c (i + 1)) = cr (px (c (i + 1)) - px (c i)) (py (c (i + 1)) - py (c i)) (px (c i) - px (c (j + 1))) (py (c i) - py (c (j + 1))) := by
                rw [T_cr]; unfold cr
                simp only [Int.sub_mul, Int.mul_sub]
                simp only [Int.mul_comm]
                omega
              rw [← q]; exact s1
            have fin := half_lex.tr _ _ _ _ _ _ w u z s3 s2
            rw [T_sh] at t
            rw [cr_anti] at fin
            omega
  refine ⟨by rw [hlen]; exact h3, ?_, ?_, ?_, ?_, ?_⟩
  · intro i hi
    rw [hlen] at hi
    rw [hH i hi]
    exact (hall _).1 (hcm i (by omega))
  · intro i j hij hj
    rw [hlen] at hj
    rw [hH i (by omega), hH j hj]
    exact hinj i j hij hj
  · intro i hi p hp
    rw [hlen] at hi ⊢
    rw [hH i hi, hc1 i hi]
    exact hs i hi p ((hall p).2 hp)
  · intro i hi
    rw [hlen] at hi ⊢
    rw [hH i hi, hc1 i hi]
    by_cases h : i + 1 < m
    · have : (f.dropLast ++ g.dropLast).getD ((i + 2) % m) 0 = c (i + 2) := hc1 (i + 1) h
      rw [this]
      exact ht i h
    · have hi' : i = m - 1 := by omega
      subst hi'
      rw [show m - 1 + 2 = m + 1 by omega, Nat.add_mod_left, Nat.mod_eq_of_lt (by omega), hH 1 (by omega), show m - 1 + 1 = m by omega]
      exact htl
  · intro p hp
    rw [hH 0 (by omega), cf 0 (by omega)]
    exact hmin p ((hall p).2 hp)

end Go.Proofs.YtdbebbbceeopaaaGreat.Geo

set_option linter.unusedSimpArgs false
namespace Go.Proofs.YtdbebbbceeopaaaGreat.Geo

theorem mul_self_nonneg' (x : Int) : 0 ≤ x * x := by
  rcases Int.le_total 0 x with h | h
  · exact Int.mul_nonneg h h
  · exact Int.mul_nonneg_of_nonpos_of_nonpos h h

/-- The square of a way's length. -/
def sq (x y : Int) : Int := x * x + y * y

theorem sq_nonneg' (x y : Int) : 0 ≤ sq x y := by
  have := mul_self_nonneg' x
  have := mul_self_nonneg' y
  unfold sq; omega

theorem nonneg_of_mul {p x : Int} (hp : 0 < p) (h : 0 ≤ p * x) : 0 ≤ x := by
  rcases Int.lt_or_le x 0 with h' | h'
  · have := Int.mul_neg_of_pos_of_neg hp h'
    omega
  · exact h'

theorem pos_of_mul {p x : Int} (hp : 0 < p) (h : 0 < p * x) : 0 < x := by
  rcases Int.lt_or_le 0 x with h' | h'
  · exact h'
  · have := Int.mul_nonpos_of_nonneg_of_nonpos (Int.le_of_lt hp) h'
    omega

/-- The square is convex. -/
theorem sq_conv (P Q R a1 a2 b1 b2 c1 c2 : Int) (hP : 0 < P) (hQ : 0 ≤ Q) (hR : 0 ≤ R) (hs : Q + R ≤ P) (e1 : P * a1 = Q * b1 + R * c1) (e2 : P * a2 = Q * b2 + R * c2) :
    P * sq a1 a2 ≤ Q * sq b1 b2 + R * sq c1 c2 := by
  have h1 : (P * a1) * (P * a1) = (Q * b1 + R * c1) * (Q * b1 + R * c1) := by rw [e1]
  have h2 : (P * a2) * (P * a2) = (Q * b2 + R * c2) * (Q * b2 + R * c2) := by rw [e2]
  have key : P * (Q * sq b1 b2 + R * sq c1 c2 - P * sq a1 a2) = (P - Q - R) * (Q * sq b1 b2 + R * sq c1 c2) + Q * R * sq (b1 - c1) (b2 - c2) := by
    unfold sq; grind
  have n1 : 0 ≤ Q * sq b1 b2 := Int.mul_nonneg hQ (sq_nonneg' _ _)
  have n2 : 0 ≤ R * sq c1 c2 := Int.mul_nonneg hR (sq_nonneg' _ _)
  have n3 : 0 ≤ (P - Q - R) * (Q * sq b1 b2 + R * sq c1 c2) := Int.mul_nonneg (by omega) (by omega)
  have n4 : 0 ≤ Q * R * sq (b1 - c1) (b2 - c2) := Int.mul_nonneg (Int.mul_nonneg hQ hR) (sq_nonneg' _ _)
  have := nonneg_of_mul hP (show 0 ≤ P * (Q * sq b1 b2 + R * sq c1 c2 - P * sq a1 a2) by omega)
  omega

section
variable (px py : Nat → Int)

/-- Above 0: d lies within the circle through a, b, c. -/
def Wn (a b c d : Nat) : Int :=
  sq (px a - px d) (py a - py d) * T px py d b c + sq (px b - px d) (py b - py d) * T px py d c a + sq (px c - px d) (py c - py d) * T px py d a b

end

variable {px py : Nat → Int}

theorem T_sum (a b c d : Nat) : T px py d b c + T px py d c a + T px py d a b = T px py a b c := by
  unfold T tw; grind

theorem T_bary_x (a b c d : Nat) : T px py d b c * (px a - px d) + T px py d c a * (px b - px d) + T px py d a b * (px c - px d) = 0 := by
  unfold T tw; grind

theorem T_bary_y (a b c d : Nat) : T px py d b c * (py a - py d) + T px py d c a * (py b - py d) + T px py d a b * (py c - py d) = 0 := by
  unfold T tw; grind

theorem Wn_cyc (a b c d : Nat) : Wn px py a b c d = Wn px py b c a d := by
  unfold Wn; omega

theorem T_cyc2 (a b c : Nat) : T px py a b c = T px py c a b := by rw [T_cyc c a b]

/-- What lies beneath the triangles, lifted: a flip makes it less by just what tells that the side is pointed. -/
def lift (px py : Nat → Int) (a : Nat) : Int := sq (px a) (py a)

theorem flip_area (a b c d : Nat) : T px py a b c + T px py b a d = T px py a d c + T px py d b c := by
  unfold T tw; grind

end Go.Proofs.YtdbebbbceeopaaaGreat.Geo

set_option linter.unusedSimpArgs false
namespace Go.Proofs.YtdbebbbceeopaaaGreat.Geo

/-- The sum over all numbers below n. -/
def sm : Nat → (Nat → Int) → Int
  | 0, _ => 0
  | n + 1, f => sm n f + f n

theorem sm_congr {n : Nat} {f g : Nat → Int} (h : ∀ i, i < n → f i = g i) : sm n f = sm n g := by
  induction n with
  | zero => rfl
  | succ n ih => rw [sm, sm, ih (fun i hi => h i (by omega)), h n (by omega)]

theorem sm_add (n : Nat) (f g : Nat → Int) : sm n (fun i => f i + g i) = sm n f + sm n g := by
  induction n with
  | zero => rfl
  | succ n ih => rw [sm, sm, sm, ih]; omega

theorem sm_zero (n : Nat) : sm n (fun _ => 0) = 0 := by
  induction n with
  | zero => rfl
  | succ n ih => rw [sm, ih]; rfl

theorem sm_le {n : Nat} {f g : Nat → Int} (h : ∀ i, i < n → f i ≤ g i) : sm n f ≤ sm n g := by
  induction n with
  | zero => exact Int.le_refl _
  | succ n ih => rw [sm, sm]; have := ih (fun i hi => h i (by omega)); have := h n (by omega); omega

theorem sm_nonneg {n : Nat} {f : Nat → Int} (h : ∀ i, i < n → 0 ≤ f i) : 0 ≤ sm n f := by
  have := sm_le (f := fun _ => 0) (g := f) h
  rw [sm_zero] at this
  exact this

theorem sm_swap (n m : Nat) (f : Nat → Nat → Int) : sm n (fun i => sm m (fun j => f i j)) = sm m (fun j => sm n (fun i => f i j)) := by
  induction n with
  | zero => simp only [sm]; rw [sm_zero]
  | succ n ih => simp only [sm]; rw [ih, sm_add]

/-- One place's part of a sum. -/
theorem sm_part {n k : Nat} {f : Nat → Int} (hk : k < n) : sm n f = f k + sm n (fun i => if i = k then 0 else f i) := by
  induction n with
  | zero => omega
  | succ n ih =>
    rw [sm, sm]
    by_cases e : k = n
    · subst e
      have : sm k (fun i => if i = k then 0 else f i) = sm k f := sm_congr fun i hi => by rw [if_neg (by omega)]
      rw [this, if_pos rfl]; omega
    · rw [ih (by omega), if_neg (by omega)]; omega

theorem sm_ge_one {n k : Nat} {f : Nat → Int} (hk : k < n) (h : ∀ i, i < n → 0 ≤ f i) : f k ≤ sm n f := by
  rw [sm_part hk]
  have : 0 ≤ sm n (fun i => if i = k then 0 else f i) := sm_nonneg fun i hi => by by_cases e : i = k <;> simp [e]; exact h i hi
  omega

/-- At most one place has something, and that at most one. -/
theorem sm_le_one {n : Nat} {f : Nat → Int} (h1 : ∀ i, i < n → f i ≤ 1) (h2 : ∀ i j, i < n → j < n → 0 < f i → 0 < f j → i = j) : sm n f ≤ 1 := by
  induction n with
  | zero => simp [sm]
  | succ n ih =>
    rw [sm]
    by_cases hn : 0 < f n
    · have : sm n f ≤ sm n (fun _ => 0) := sm_le fun i hi => by
        rcases Int.lt_or_le 0 (f i) with h | h
        · have := h2 i n (by omega) (by omega) h hn; omega
        · exact h
      rw [sm_zero] at this
      have := h1 n (by omega)
      omega
    · have := ih (fun i hi => h1 i (by omega)) (fun i j hi hj => h2 i j (by omega) (by omega))
      omega

/-- Over all pairs. -/
def sm2 (n : Nat) (f : Nat → Nat → Int) : Int := sm n fun a => sm n fun b => f a b

theorem sm2_congr {n : Nat} {f g : Nat → Nat → Int} (h : ∀ a b, a < n → b < n → f a b = g a b) : sm2 n f = sm2 n g := sm_congr fun a ha => sm_congr fun b hb => h a b ha hb
theorem sm2_swap (n : Nat) (f : Nat → Nat → Int) : sm2 n f = sm2 n (fun a b => f b a) := sm_swap n n f
theorem sm2_add (n : Nat) (f g : Nat → Nat → Int) : sm2 n (fun a b => f a b + g a b) = sm2 n f + sm2 n g := by
  unfold sm2
  rw [← sm_add]
  exact sm_congr fun a _ => sm_add n _ _
theorem sm2_le {n : Nat} {f g : Nat → Nat → Int} (h : ∀ a b, a < n → b < n → f a b ≤ g a b) : sm2 n f ≤ sm2 n g := sm_le fun a ha => sm_le fun b hb => h a b ha hb

theorem sm2_le_one {n : Nat} {f : Nat → Nat → Int} (h1 : ∀ a b, a < n → b < n → f a b ≤ 1) (h2 : ∀ a b a' b', a < n → b < n → a' < n → b' < n → 0 < f a b → 0 < f a' b' → a = a' ∧ b = b') : sm2 n f ≤ 1 := by
  have key : ∀ a, a < n → 0 < sm n (fun b => f a b) → ∃ b, b < n ∧ 0 < f a b := by
    intro a ha h
    rcases Classical.em (∃ b, b < n ∧ 0 < f a b) with h' | h'
    · exact h'
    · have : sm n (fun b => f a b) ≤ sm n (fun _ => 0) := sm_le fun b hb => by
        rcases Int.lt_or_le 0 (f a b) with h'' | h''
        · exact absurd ⟨b, hb, h''⟩ h'
        · exact h''
      rw [sm_zero] at this
      omega
  refine sm_le_one (fun a ha => sm_le_one (fun b hb => h1 a b ha hb) fun b b' hb hb' h h' => (h2 a b a b' ha hb ha hb' h h').2) fun a a' ha ha' h h' => ?_
  obtain ⟨b, hb, hf⟩ := key a ha h
  obtain ⟨b', hb', hf'⟩ := key a' ha' h'
  exact (h2 a b a' b' ha hb ha' hb' hf hf').1

/-- Different pairs' parts of a sum. -/
theorem sm2_part {n a b : Nat} {f : Nat → Nat → Int} (ha : a < n) (hb : b < n) : sm2 n f = f a b + sm2 n (fun u v => if u = a ∧ v = b then 0 else f u v) := by
  unfold sm2
  rw [sm_part ha (f := fun u => sm n fun v => f u v), sm_part ha (f := fun u => sm n fun v => if u = a ∧ v = b then 0 else f u v), sm_part hb (f := fun v => f a v)]
  have e1 : sm n (fun v => if a = a ∧ v = b then 0 else f a v) = sm n (fun v => if v = b then 0 else f a v) := sm_congr fun v _ => by simp
  have e2 : sm n (fun u => if u = a then 0 else sm n fun v => f u v) = sm n (fun u => if u = a then 0 else sm n fun v => if u = a ∧ v = b then 0 else f u v) := sm_congr fun u _ => by
    by_cases e : u = a
    · rw [if_pos e, if_pos e]
    · rw [if_neg e, if_neg e]
      exact sm_congr fun v _ => by rw [if_neg (fun h => e h.1)]
  rw [e1, e2]; omega

theorem sm2_nonneg {n : Nat} {f : Nat → Nat → Int} (h : ∀ a b, a < n → b < n → 0 ≤ f a b) : 0 ≤ sm2 n f := sm_nonneg fun a ha => sm_nonneg fun b hb => h a b ha hb

theorem sm2_ge_list {n : Nat} : ∀ (l : List (Nat × Nat)) (f : Nat → Nat → Int), (∀ a b, a < n → b < n → 0 ≤ f a b) → l.Nodup → (∀ k ∈ l, k.1 < n ∧ k.2 < n ∧ 1 ≤ f k.1 k.2) → (l.length : Int) ≤ sm2 n f
  | [], f, h, _, _ => by simpa using sm2_nonneg h
  | (a, b) :: r, f, h, hd, hl => by
    obtain ⟨ha, hb, hk⟩ := hl (a, b) (by simp)
    rw [sm2_part ha hb]
    have := sm2_ge_list r (fun u v => if u = a ∧ v = b then 0 else f u v) (fun u v (hu : u < n) (hv : v < n) => by by_cases e : u = a ∧ v = b <;> simp [e]; exact h u v hu hv) (List.nodup_cons.1 hd).2 (fun j hj => by
      have hj' := hl j (by simp [hj])
      have hne : ¬ (j.1 = a ∧ j.2 = b) := fun e => (List.nodup_cons.1 hd).1 (by have : j = (a, b) := Prod.ext e.1 e.2; exact this ▸ hj)
      exact ⟨hj'.1, hj'.2.1, by rw [if_neg hne]; exact hj'.2.2⟩)
    rw [List.length_cons]
    push_cast
    dsimp only at hk
    omega

end Go.Proofs.YtdbebbbceeopaaaGreat.Geo

set_option linter.unusedSimpArgs false
namespace Go.Proofs.YtdbebbbceeopaaaGreat.Geo

/-- The turn of a, b and the place (X / W, Y / W), W times. -/
def TQ (px py : Nat → Int) (X Y W : Int) (a b : Nat) : Int := (px b - px a) * (Y - W * py a) - (py b - py a) * (X - W * px a)

/-- Does the side from a to b pass below the place: 1, to the right; -1, to the left? -/
def crs (px py : Nat → Int) (X Y W : Int) (a b : Nat) : Int :=
  if W * px a < X ∧ X < W * px b ∧ 0 < TQ px py X Y W a b then 1 else if W * px b < X ∧ X < W * px a ∧ TQ px py X Y W a b < 0 then -1 else 0

variable {px py : Nat → Int} {X Y W : Int}

theorem TQ_swap (a b : Nat) : TQ px py X Y W b a = - TQ px py X Y W a b := by unfold TQ; grind

theorem crs_anti (a b : Nat) : crs px py X Y W b a = - crs px py X Y W a b := by
  unfold crs
  rw [TQ_swap]
  generalize TQ px py X Y W a b = t
  generalize W * px a = A
  generalize W * px b = B
  split
  · rename_i h; rw [if_neg (by omega), if_pos (by omega)]; rfl
  · rename_i h
    split
    · rename_i h'; rw [if_pos (by omega)]
    · rename_i h'; rw [if_neg (by omega), if_neg (by omega)]; rfl

theorem TQ_id (a b c : Nat) : TQ px py X Y W a b * (px c - px a) + TQ px py X Y W c a * (px b - px a) = T px py a b c * (X - W * px a) := by unfold TQ T tw; grind

theorem TQ_sum (a b c : Nat) : TQ px py X Y W a b + TQ px py X Y W b c + TQ px py X Y W c a = W * T px py a b c := by unfold TQ T tw; grind

theorem TQ_bary (a b c : Nat) : TQ px py X Y W b c * (W * px a - X) + TQ px py X Y W c a * (W * px b - X) + TQ px py X Y W a b * (W * px c - X) = 0 := by unfold TQ; grind

theorem lt_of_W (hW : 0 < W) {x y : Int} (h : W * x < W * y) : x < y := Int.lt_of_mul_lt_mul_left h (Int.le_of_lt hW)

theorem odd_left (hW : 0 < W) {a b c : Nat} (hT : 0 < T px py a b c) (hA : W * px a < X) (hB : X < W * px b) (hC : X < W * px c) (h : TQ px py X Y W c a < 0) : 0 < TQ px py X Y W a b := by
  have e := TQ_id (px := px) (py := py) (X := X) (Y := Y) (W := W) a b c
  have h1 : px a < px b := lt_of_W hW (by omega)
  have h2 : px a < px c := lt_of_W hW (by omega)
  have h3 : 0 < T px py a b c * (X - W * px a) := Int.mul_pos hT (by omega)
  have h4 : TQ px py X Y W c a * (px b - px a) < 0 := Int.mul_neg_of_neg_of_pos h (by omega)
  refine pos_of_mul (p := px c - px a) (by omega) ?_
  rw [Int.mul_comm]; omega

theorem odd_right (hW : 0 < W) {a b c : Nat} (hT : 0 < T px py a b c) (hA : X < W * px a) (hB : W * px b < X) (hC : W * px c < X) (h : TQ px py X Y W a b < 0) : 0 < TQ px py X Y W c a := by
  have e := TQ_id (px := px) (py := py) (X := X) (Y := Y) (W := W) a b c
  have h1 : px b < px a := lt_of_W hW (by omega)
  have h2 : px c < px a := lt_of_W hW (by omega)
  have h3 : 0 < T px py a b c * (W * px a - X) := Int.mul_pos hT (by omega)
  have h3' : T px py a b c * (W * px a - X) = - (T px py a b c * (X - W * px a)) := by rw [← Int.mul_neg]; congr 1; omega
  have h4 : 0 < TQ px py X Y W a b * (px c - px a) := Int.mul_pos_of_neg_of_neg h (by omega)
  refine pos_of_mul (p := px a - px b) (by omega) ?_
  have h5 : (px a - px b) * TQ px py X Y W c a = - (TQ px py X Y W c a * (px b - px a)) := by rw [← Int.mul_neg, Int.mul_comm]; congr 1; omega
  omega

/-- A triangle that turns left is passed below not less often to the right than to the left, and once more, if the place lies in it. -/
theorem tri_wind (hW : 0 < W) {a b c : Nat} (hT : 0 < T px py a b c) (ga : W * px a ≠ X) (gb : W * px b ≠ X) (gc : W * px c ≠ X) :
    0 ≤ crs px py X Y W a b + crs px py X Y W b c + crs px py X Y W c a ∧
    (0 < TQ px py X Y W a b → 0 < TQ px py X Y W b c → 0 < TQ px py X Y W c a → 1 ≤ crs px py X Y W a b + crs px py X Y W b c + crs px py X Y W c a) := by
  have hT2 : 0 < T px py b c a := by rw [← T_cyc]; exact hT
  have hT3 : 0 < T px py c a b := by rw [← T_cyc]; exact hT2
  have a1 := odd_left (px := px) (py := py) (X := X) (Y := Y) hW hT
  have a2 := odd_right (px := px) (py := py) (X := X) (Y := Y) hW hT
  have b1 := odd_left (px := px) (py := py) (X := X) (Y := Y) hW hT2
  have b2 := odd_right (px := px) (py := py) (X := X) (Y := Y) hW hT2
  have c1 := odd_left (px := px) (py := py) (X := X) (Y := Y) hW hT3
  have c2 := odd_right (px := px) (py := py) (X := X) (Y := Y) hW hT3
  have hb := TQ_bary (px := px) (py := py) (X := X) (Y := Y) (W := W) a b c
  have n1 : 0 < TQ px py X Y W a b → 0 < TQ px py X Y W b c → 0 < TQ px py X Y W c a → ¬ (W * px a < X ∧ W * px b < X ∧ W * px c < X) := by
    rintro h1 h2 h3 ⟨k1, k2, k3⟩
    have := Int.mul_neg_of_pos_of_neg h2 (show W * px a - X < 0 by omega)
    have := Int.mul_neg_of_pos_of_neg h3 (show W * px b - X < 0 by omega)
    have := Int.mul_neg_of_pos_of_neg h1 (show W * px c - X < 0 by omega)
    omega
  have n2 : 0 < TQ px py X Y W a b → 0 < TQ px py X Y W b c → 0 < TQ px py X Y W c a → ¬ (X < W * px a ∧ X < W * px b ∧ X < W * px c) := by
    rintro h1 h2 h3 ⟨k1, k2, k3⟩
    have := Int.mul_pos h2 (show 0 < W * px a - X by omega)
    have := Int.mul_pos h3 (show 0 < W * px b - X by omega)
    have := Int.mul_pos h1 (show 0 < W * px c - X by omega)
    omega
  clear hb hT hT2 hT3 hW
  have R : ∀ u v : Nat, W * px u < X → X < W * px v → crs px py X Y W u v = if 0 < TQ px py X Y W u v then 1 else 0 := fun u v h1 h2 => by
    unfold crs
    split
    · rename_i h; rw [if_pos h.2.2]
    · rename_i h; rw [if_neg (by omega), if_neg (fun k => h ⟨h1, h2, k⟩)]
  have L : ∀ u v : Nat, W * px v < X → X < W * px u → crs px py X Y W u v = if TQ px py X Y W u v < 0 then -1 else 0 := fun u v h1 h2 => by
    unfold crs
    rw [if_neg (by omega)]
    split
    · rename_i h; rw [if_pos h.2.2]
    · rename_i h; rw [if_neg (fun k => h ⟨h1, h2, k⟩)]
  have Z : ∀ u v : Nat, (W * px v < X ∧ W * px u < X) ∨ (X < W * px v ∧ X < W * px u) → crs px py X Y W u v = 0 := fun u v h => by
    unfold crs
    rw [if_neg (by omega), if_neg (by omega)]
  rcases Int.lt_or_gt_of_ne ga with ha | ha <;> rcases Int.lt_or_gt_of_ne gb with hb | hb <;> rcases Int.lt_or_gt_of_ne gc with hc | hc
  · rw [Z a b (.inl ⟨hb, ha⟩), Z b c (.inl ⟨hc, hb⟩), Z c a (.inl ⟨ha, hc⟩)]
    exact ⟨by omega, fun h1 h2 h3 => absurd ⟨ha, hb, hc⟩ (n1 h1 h2 h3)⟩
  · rw [Z a b (.inl ⟨hb, ha⟩), R b c hb hc, L c a ha hc]
    have := c2 hc ha hb
    constructor
    · split <;> split <;> omega
    · intro h1 h2 h3; rw [if_pos h2, if_neg (by omega)]; omega
  · rw [R a b ha hb, L b c hc hb, Z c a (.inl ⟨ha, hc⟩)]
    have := b2 hb hc ha
    constructor
    · split <;> split <;> omega
    · intro h1 h2 h3; rw [if_pos h1, if_neg (by omega)]; omega
  · rw [R a b ha hb, Z b c (.inr ⟨hc, hb⟩), L c a ha hc]
    have := a1 ha hb hc
    constructor
    · split <;> split <;> omega
    · intro h1 h2 h3; rw [if_pos h1, if_neg (by omega)]; omega
  · rw [L a b hb ha, Z b c (.inl ⟨hc, hb⟩), R c a hc ha]
    have := a2 ha hb hc
    constructor
    · split <;> split <;> omega
    · intro h1 h2 h3; rw [if_pos h3, if_neg (by omega)]; omega
  · rw [L a b hb ha, R b c hb hc, Z c a (.inr ⟨ha, hc⟩)]
    have := b1 hb hc ha
    constructor
    · split <;> split <;> omega
    · intro h1 h2 h3; rw [if_pos h2, if_neg (by omega)]; omega
  · rw [Z a b (.inr ⟨hb, ha⟩), L b c hc hb, R c a hc ha]
    have := c1 hc ha hb
    constructor
    · split <;> split <;> omega
    · intro h1 h2 h3; rw [if_pos h3, if_neg (by omega)]; omega
  · rw [Z a b (.inr ⟨hb, ha⟩), Z b c (.inr ⟨hc, hb⟩), Z c a (.inr ⟨ha, hc⟩)]
    exact ⟨by omega, fun h1 h2 h3 => absurd ⟨ha, hb, hc⟩ (n2 h1 h2 h3)⟩

/-- What an option's thing gives, or nothing. -/
def el (o : Option Nat) (f : Nat → Int) : Int := match o with | some w => f w | none => 0

theorem sm_single {n k : Nat} {f : Nat → Int} (hk : k < n) : sm n (fun w => if w = k then f w else 0) = f k := by
  rw [sm_part hk, if_pos rfl]
  have : sm n (fun i => if i = k then 0 else if i = k then f i else 0) = sm n (fun _ => 0) := sm_congr fun i _ => by by_cases e : i = k <;> simp [e]
  rw [this, sm_zero]; omega

theorem sum_el {n : Nat} {o : Option Nat} {x : Nat → Int} (h : ∀ w, o = some w → w < n) : sm n (fun w => if o = some w then x w else 0) = el o x := by
  cases o with
  | none => simp [el, sm_zero]
  | some k =>
    have := sm_single (f := x) (h k rfl)
    rw [el, ← this]
    exact sm_congr fun w _ => by simp [eq_comm]

/-- Triangles side by side: for each side the corner across from it. -/
structure Mesh (px py : Nat → Int) (n : Nat) (M : Nat → Nat → Option Nat) : Prop where
  cyc : ∀ a b c, M a b = some c → M b c = some a
  pos : ∀ a b c, M a b = some c → 0 < T px py a b c
  lt : ∀ a b c, M a b = some c → a < n
  bor : ∀ a b c, M a b = some c → M b a = none → ∀ p, p < n → 0 ≤ T px py a b p
  uni : ∀ a b c a' b' c', M a b = some c → M b a = none → M a' b' = some c' → M b' a' = none → px a < px b → px a' < px b' → px a' < px b → px a < px b' → a = a' ∧ b = b'

variable {n : Nat} {M : Nat → Nat → Option Nat}

theorem Mesh.lts (h : Mesh px py n M) {a b c : Nat} (e : M a b = some c) : a < n ∧ b < n ∧ c < n :=
  ⟨h.lt a b c e, h.lt b c a (h.cyc _ _ _ e), h.lt c a b (h.cyc _ _ _ (h.cyc _ _ _ e))⟩

theorem Mesh.cyc_iff (h : Mesh px py n M) (a b c : Nat) : M a b = some c ↔ M b c = some a :=
  ⟨h.cyc a b c, fun e => h.cyc _ _ _ (h.cyc _ _ _ e)⟩

/-- A triangle's corners may be counted from any one of them on. -/
theorem Mesh.rot (h : Mesh px py n M) (K : Nat → Nat → Nat → Int) : sm2 n (fun u v => el (M u v) (fun w => K u v w)) = sm2 n (fun u v => el (M u v) (fun w => K v w u)) := by
  have e1 : sm2 n (fun u v => el (M u v) (fun w => K v w u)) = sm n (fun u => sm n fun v => sm n fun w => if M v w = some u then K v w u else 0) := sm2_congr fun u v _ _ => by
    rw [← sum_el (n := n) fun w hw => (h.lts hw).2.2]
    exact sm_congr fun w _ => by simp only [h.cyc_iff u v w]
  have e2 : sm2 n (fun u v => el (M u v) (fun w => K u v w)) = sm n (fun v => sm n fun w => sm n fun u => if M v w = some u then K v w u else 0) := sm2_congr fun u v _ _ => by
    rw [← sum_el (n := n) fun w hw => (h.lts hw).2.2]
  rw [e1, e2, sm_swap n n (fun u v => sm n fun w => if M v w = some u then K v w u else 0)]
  exact sm_congr fun v _ => sm_swap n n _

/-- Sides that two triangles have fall away. -/
theorem Mesh.cancel (k : Nat → Nat → Int) (hk : ∀ a b, k b a = - k a b) :
    sm2 n (fun u v => el (M u v) (fun _ => k u v)) = sm2 n (fun u v => if M u v ≠ none ∧ M v u = none then k u v else 0) := by
  have e1 := sm2_swap n (fun u v => el (M u v) (fun _ => k u v))
  have e2 := sm2_swap n (fun u v => if M u v ≠ none ∧ M v u = none then k u v else 0)
  have e3 := sm2_add n (fun u v => el (M u v) (fun _ => k u v)) (fun u v => el (M v u) (fun _ => k v u))
  have e4 := sm2_add n (fun u v => if M u v ≠ none ∧ M v u = none then k u v else 0) (fun u v => if M v u ≠ none ∧ M u v = none then k v u else 0)
  have e5 : sm2 n (fun u v => el (M u v) (fun _ => k u v) + el (M v u) (fun _ => k v u)) = sm2 n (fun u v => (if M u v ≠ none ∧ M v u = none then k u v else 0) + (if M v u ≠ none ∧ M u v = none then k v u else 0)) := sm2_congr fun u v _ _ => by
    have := hk u v
    cases M u v <;> cases M v u <;> simp [el]
    omega
  omega

/-- No place lies within two triangles. -/
theorem Mesh.disj (h : Mesh px py n M) (hW : 0 < W) (hg : ∀ v, v < n → W * px v ≠ X) {a b c a' b' c' : Nat} (e : M a b = some c) (e' : M a' b' = some c')
    (i1 : 0 < TQ px py X Y W a b) (i2 : 0 < TQ px py X Y W b c) (i3 : 0 < TQ px py X Y W c a) (j1 : 0 < TQ px py X Y W a' b') (j2 : 0 < TQ px py X Y W b' c') (j3 : 0 < TQ px py X Y W c' a') :
    (a' = a ∧ b' = b) ∨ (a' = b ∧ b' = c) ∨ (a' = c ∧ b' = a) := by
  rcases Classical.em ((a' = a ∧ b' = b) ∨ (a' = b ∧ b' = c) ∨ (a' = c ∧ b' = a)) with hh | hh
  · exact hh
  · exfalso
    have hne : ∀ {u v w : Nat}, M u v = some w → u ≠ v := fun {u v w} e he => by
      have := h.pos _ _ _ e
      subst he
      rw [show T px py u u w = 0 by rw [T_cyc, T_one]] at this
      omega
    have eb := h.cyc _ _ _ e
    have ec := h.cyc _ _ _ eb
    have l1 := h.lts e
    have l2 := h.lts e'
    let F : Nat → Nat → Int := fun u v => el (M u v) (fun w => crs px py X Y W u v + crs px py X Y W v w + crs px py X Y W w u)
    have hF0 : ∀ u v, u < n → v < n → 0 ≤ F u v := by
      intro u v hu hv
      show 0 ≤ el (M u v) _
      cases hm : M u v with
      | none => exact Int.le_refl _
      | some w => exact (tri_wind hW (h.pos _ _ _ hm) (hg u hu) (hg v hv) (hg w (h.lts hm).2.2)).1
    have hF1 : ∀ u v w, M u v = some w → 0 < TQ px py X Y W u v → 0 < TQ px py X Y W v w → 0 < TQ px py X Y W w u → 1 ≤ F u v := by
      intro u v w hm k1 k2 k3
      have l := h.lts hm
      show 1 ≤ el (M u v) _
      rw [hm]
      exact (tri_wind hW (h.pos _ _ _ hm) (hg u l.1) (hg v l.2.1) (hg w l.2.2)).2 k1 k2 k3
    have big := sm2_ge_list [(a, b), (b, c), (c, a), (a', b')] F hF0 (by
        have := hne e
        have := hne eb
        have := hne ec
        simp only [List.nodup_cons, List.mem_cons, Prod.mk.injEq, List.not_mem_nil, or_false, not_or, List.nodup_nil, and_true, not_false_eq_true]
        omega) (by
        intro k hk
        simp only [List.mem_cons, List.not_mem_nil, or_false] at hk
        rcases hk with rfl | rfl | rfl | rfl
        · exact ⟨l1.1, l1.2.1, hF1 _ _ _ e i1 i2 i3⟩
        · exact ⟨l1.2.1, l1.2.2, hF1 _ _ _ eb i2 i3 i1⟩
        · exact ⟨l1.2.2, l1.1, hF1 _ _ _ ec i3 i1 i2⟩
        · exact ⟨l2.1, l2.2.1, hF1 _ _ _ e' j1 j2 j3⟩)
    have s1 : sm2 n F = sm2 n (fun u v => el (M u v) (fun _ => crs px py X Y W u v)) + sm2 n (fun u v => el (M u v) (fun w => crs px py X Y W v w)) + sm2 n (fun u v => el (M u v) (fun w => crs px py X Y W w u)) := by
      rw [← sm2_add, ← sm2_add]
      refine sm2_congr fun u v _ _ => ?_
      show el (M u v) _ = _
      cases M u v <;> simp [el]
    have r1 := h.rot (fun u v _ => crs px py X Y W u v)
    have r2 := h.rot (fun _ v w => crs px py X Y W v w)
    have s2 := Mesh.cancel (n := n) (M := M) (fun u v => crs px py X Y W u v) (fun u v => crs_anti u v)
    have s3 : sm2 n (fun u v => if M u v ≠ none ∧ M v u = none then crs px py X Y W u v else 0) ≤ sm2 n (fun u v => if (M u v ≠ none ∧ M v u = none) ∧ W * px u < X ∧ X < W * px v then 1 else 0) := sm2_le fun u v _ _ => by
      by_cases k1 : M u v ≠ none ∧ M v u = none
      · rw [if_pos k1]
        unfold crs
        split
        · rename_i k2; rw [if_pos ⟨k1, k2.1, k2.2.1⟩]; exact Int.le_refl _
        · split
          · split <;> decide
          · split <;> decide
      · rw [if_neg k1, if_neg (fun k => k1 k.1)]; exact Int.le_refl _
    have s4 : sm2 n (fun u v => if (M u v ≠ none ∧ M v u = none) ∧ W * px u < X ∧ X < W * px v then 1 else 0) ≤ 1 := by
      refine sm2_le_one (fun u v _ _ => by split <;> decide) fun u v u' v' _ _ _ _ k k' => ?_
      have q : (M u v ≠ none ∧ M v u = none) ∧ W * px u < X ∧ X < W * px v := by
        rcases Classical.em ((M u v ≠ none ∧ M v u = none) ∧ W * px u < X ∧ X < W * px v) with h | h
        · exact h
        · rw [if_neg h] at k; omega
      have q' : (M u' v' ≠ none ∧ M v' u' = none) ∧ W * px u' < X ∧ X < W * px v' := by
        rcases Classical.em ((M u' v' ≠ none ∧ M v' u' = none) ∧ W * px u' < X ∧ X < W * px v') with h | h
        · exact h
        · rw [if_neg h] at k'; omega
      obtain ⟨⟨m1, m2⟩, m3, m4⟩ := q
      obtain ⟨⟨m1', m2'⟩, m3', m4'⟩ := q'
      cases hm : M u v with
      | none => exact absurd hm m1
      | some w =>
        cases hm' : M u' v' with
        | none => exact absurd hm' m1'
        | some w' => exact h.uni u v w u' v' w' hm m2 hm' m2' (lt_of_W hW (by omega)) (lt_of_W hW (by omega)) (lt_of_W hW (by omega)) (lt_of_W hW (by omega))
    simp only [List.length_cons, List.length_nil] at big
    omega

end Go.Proofs.YtdbebbbceeopaaaGreat.Geo

set_option linter.unusedSimpArgs false
namespace Go.Proofs.YtdbebbbceeopaaaGreat.Geo
variable {px py : Nat → Int}

end Go.Proofs.YtdbebbbceeopaaaGreat.Geo
