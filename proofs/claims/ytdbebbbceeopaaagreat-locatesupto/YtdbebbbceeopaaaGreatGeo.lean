import Derived.Test.YtdbebbbceeopaaaGreatChain
set_option linter.unusedSimpArgs false
namespace Go.Proofs.YtdbebbbceeopaaaGreat.Geo

/-- The cross product. -/
def cr (ux uy vx vy : Int) : Int := ux * vy - uy * vx

theorem cr_id1 (ux uy vx vy wx wy : Int) : cr ux uy wx wy * vx = cr ux uy vx vy * wx + cr vx vy wx wy * ux := by
  unfold cr
  simp only [Int.sub_mul]
  simp only [Int.mul_assoc, Int.mul_comm, Int.mul_left_comm]
  omega

theorem cr_id2 (ux uy vx vy wx wy : Int) : cr ux uy wx wy * vy = cr ux uy vx vy * wy + cr vx vy wx wy * uy := by
  unfold cr
  simp only [Int.sub_mul]
  simp only [Int.mul_assoc, Int.mul_comm, Int.mul_left_comm]
  omega

theorem cr_anti (ux uy vx vy : Int) : cr vx vy ux uy = - cr ux uy vx vy := by
  unfold cr
  simp only [Int.mul_comm]
  omega

theorem cr_neg (ux uy vx vy : Int) : cr (-ux) (-uy) (-vx) (-vy) = cr ux uy vx vy := by
  unfold cr
  simp only [Int.neg_mul_neg]

/-- To the right, or straight up. -/
def Lex (x y : Int) : Prop := 0 < x ∨ (x = 0 ∧ 0 < y)

theorem lex_comb (p q ux uy wx wy : Int) (hp : 0 ≤ p) (hq : 0 ≤ q) (hpq : 0 < p ∨ 0 < q) (hu : Lex ux uy) (hw : Lex wx wy) : Lex (p * wx + q * ux) (p * wy + q * uy) := by
  have a1 : 0 ≤ wx := by rcases hw with h | h <;> omega
  have a2 : 0 ≤ ux := by rcases hu with h | h <;> omega
  have b1 := Int.mul_nonneg hp a1
  have b2 := Int.mul_nonneg hq a2
  by_cases h : 0 < p * wx + q * ux
  · exact Or.inl h
  · right
    refine ⟨by omega, ?_⟩
    have c1 : p * wx = 0 := by omega
    have c2 : q * ux = 0 := by omega
    have d1 : 0 ≤ p * wy := by
      rcases Int.mul_eq_zero.1 c1 with e | e
      · rw [e]; omega
      · rcases hw with h | h
        · omega
        · exact Int.mul_nonneg hp (by omega)
    have d2 : 0 ≤ q * uy := by
      rcases Int.mul_eq_zero.1 c2 with e | e
      · rw [e]; omega
      · rcases hu with h | h
        · omega
        · exact Int.mul_nonneg hq (by omega)
    rcases hpq with hp' | hq'
    · have e : wx = 0 := by
        rcases Int.mul_eq_zero.1 c1 with e | e
        · omega
        · exact e
      have : 0 < wy := by rcases hw with h | h <;> omega
      have := Int.mul_pos hp' this
      omega
    · have e : ux = 0 := by
        rcases Int.mul_eq_zero.1 c2 with e | e
        · omega
        · exact e
      have : 0 < uy := by rcases hu with h | h <;> omega
      have := Int.mul_pos hq' this
      omega

theorem lex_pos_of (s vx vy : Int) (hv : Lex vx vy) (h : Lex (s * vx) (s * vy)) : 0 < s := by
  have a : 0 ≤ vx := by rcases hv with h | h <;> omega
  by_cases hs : 0 < s
  · exact hs
  · exfalso
    rcases h with h | ⟨h1, h2⟩
    · have : s * vx ≤ 0 := Int.mul_nonpos_of_nonpos_of_nonneg (by omega) a
      omega
    · rcases Int.mul_eq_zero.1 h1 with e | e
      · rw [e] at h2; omega
      · have : 0 < vy := by rcases hv with h | h <;> omega
        have : s * vy ≤ 0 := Int.mul_nonpos_of_nonpos_of_nonneg (by omega) (by omega)
        omega

theorem lex_tr_strict (ux uy vx vy wx wy : Int) (hu : Lex ux uy) (hv : Lex vx vy) (hw : Lex wx wy) (h1 : 0 ≤ cr ux uy vx vy) (h2 : 0 ≤ cr vx vy wx wy) (h : 0 < cr ux uy vx vy ∨ 0 < cr vx vy wx wy) : 0 < cr ux uy wx wy := by
  refine lex_pos_of _ vx vy hv ?_
  rw [cr_id1 ux uy vx vy wx wy, cr_id2 ux uy vx vy wx wy]
  exact lex_comb _ _ _ _ _ _ h1 h2 h hu hw

theorem lex_tr (ux uy vx vy wx wy : Int) (hu : Lex ux uy) (hv : Lex vx vy) (hw : Lex wx wy) (h1 : 0 ≤ cr ux uy vx vy) (h2 : 0 ≤ cr vx vy wx wy) : 0 ≤ cr ux uy wx wy := by
  by_cases h : 0 < cr ux uy vx vy ∨ 0 < cr vx vy wx wy
  · exact Int.le_of_lt (lex_tr_strict ux uy vx vy wx wy hu hv hw h1 h2 h)
  · have e1 : cr ux uy vx vy = 0 := by omega
    have e2 : cr vx vy wx wy = 0 := by omega
    have i1 := cr_id1 ux uy vx vy wx wy
    have i2 := cr_id2 ux uy vx vy wx wy
    rw [e1, e2] at i1 i2
    simp only [Int.zero_mul, Int.add_zero] at i1 i2
    rcases hv with h | ⟨_, h⟩
    · rcases Int.mul_eq_zero.1 i1 with e | e <;> omega
    · rcases Int.mul_eq_zero.1 i2 with e | e <;> omega

theorem lex_add (ux uy vx vy : Int) (hu : Lex ux uy) (hv : Lex vx vy) : Lex (ux + vx) (uy + vy) := by
  rcases hu with h | h <;> rcases hv with h' | h'
  · exact Or.inl (by omega)
  · exact Or.inl (by omega)
  · exact Or.inl (by omega)
  · exact Or.inr ⟨by omega, by omega⟩

/-- A half of the plane, seen from one point: what the walk needs of 'to the right'. -/
structure Half (Pos : Int → Int → Prop) : Prop where
  trs : ∀ ux uy vx vy wx wy, Pos ux uy → Pos vx vy → Pos wx wy → 0 ≤ cr ux uy vx vy → 0 ≤ cr vx vy wx wy → (0 < cr ux uy vx vy ∨ 0 < cr vx vy wx wy) → 0 < cr ux uy wx wy
  tr : ∀ ux uy vx vy wx wy, Pos ux uy → Pos vx vy → Pos wx wy → 0 ≤ cr ux uy vx vy → 0 ≤ cr vx vy wx wy → 0 ≤ cr ux uy wx wy
  add : ∀ ux uy vx vy, Pos ux uy → Pos vx vy → Pos (ux + vx) (uy + vy)
  no0 : ¬ Pos 0 0

theorem half_lex : Half Lex := ⟨fun _ _ _ _ _ _ => lex_tr_strict _ _ _ _ _ _, fun _ _ _ _ _ _ => lex_tr _ _ _ _ _ _, fun _ _ _ _ => lex_add _ _ _ _, by unfold Lex; omega⟩

theorem half_back : Half (fun x y => Lex (-x) (-y)) := by
  refine ⟨fun ux uy vx vy wx wy hu hv hw h1 h2 h => ?_, fun ux uy vx vy wx wy hu hv hw h1 h2 => ?_, fun ux uy vx vy hu hv => ?_, by unfold Lex; omega⟩
  · rw [← cr_neg] at h1 h2 h ⊢
    rw [← cr_neg vx vy] at h
    exact lex_tr_strict _ _ _ _ _ _ hu hv hw h1 h2 h
  · rw [← cr_neg] at h1 h2 ⊢
    exact lex_tr _ _ _ _ _ _ hu hv hw h1 h2
  · have := lex_add _ _ _ _ hu hv
    rw [show -(ux + vx) = -ux + -vx by omega, show -(uy + vy) = -uy + -vy by omega]
    exact this


variable {Pos : Int → Int → Prop} {px py : Nat → Int}

theorem T_cr (a b c : Nat) : T px py a b c = cr (px b - px a) (py b - py a) (px c - px a) (py c - py a) := rfl

theorem T_sh (a b c : Nat) : T px py a b c = cr (px b - px a) (py b - py a) (px c - px b) (py c - py b) := by
  rw [T_cr]; unfold cr
  simp only [Int.sub_mul, Int.mul_sub]
  simp only [Int.mul_comm]
  omega

theorem T_back (a b p : Nat) : T px py a b p = cr (px b - px p) (py b - py p) (px b - px a) (py b - py a) := by
  rw [T_cr]; unfold cr
  simp only [Int.sub_mul, Int.mul_sub]
  simp only [Int.mul_comm]
  omega

theorem T_on (l x p : Nat) : T px py l x p = cr (px l - px p) (py l - py p) (px x - px l) (py x - py l) := by
  rw [T_cr]; unfold cr
  simp only [Int.sub_mul, Int.mul_sub]
  simp only [Int.mul_comm]
  omega

theorem T_one (a b : Nat) : T px py a b a = 0 := by rw [T_cr]; unfold cr; simp

theorem T_two (a b : Nat) : T px py a b b = 0 := by
  rw [T_sh]; unfold cr; simp

theorem T_cyc (a b c : Nat) : T px py a b c = T px py b c a := by
  rw [T_cr, T_cr]; unfold cr
  simp only [Int.sub_mul, Int.mul_sub]
  simp only [Int.mul_comm]
  omega

theorem T_swap (a b c : Nat) : T px py b a c = - T px py a b c := by
  rw [T_cr, T_cr]; unfold cr
  simp only [Int.sub_mul, Int.mul_sub]
  simp only [Int.mul_comm]
  omega

/-- p ahead of q, as 'Pos' has it. -/
def Lt (Pos : Int → Int → Prop) (px py : Nat → Int) (p q : Nat) : Prop := Pos (px q - px p) (py q - py p)

theorem Lt.trans (H : Half Pos) {a b c : Nat} (h1 : Lt Pos px py a b) (h2 : Lt Pos px py b c) : Lt Pos px py a c := by
  have := H.add _ _ _ _ h1 h2
  unfold Lt
  rw [show px c - px a = (px b - px a) + (px c - px b) by omega, show py c - py a = (py b - py a) + (py c - py b) by omega]
  exact this

theorem lt_irrefl (H : Half Pos) {a : Nat} (h : Lt Pos px py a a) : False := by
  unfold Lt at h
  rw [Int.sub_self, Int.sub_self] at h
  exact H.no0 h

/-- A walk (its end first) all of whose sides have all of 'all' to the left, or on them, and which turns left everywhere. -/
def Good (Pos : Int → Int → Prop) (px py : Nat → Int) (all : List Nat) : List Nat → Prop
  | l :: b :: r => Lt Pos px py b l ∧ (∀ p ∈ all, 0 ≤ T px py b l p) ∧ (∀ c, r.head? = some c → 0 < T px py c b l) ∧ Good Pos px py all (b :: r)
  | [_] => True
  | [] => True

theorem good_ext (H : Half Pos) (all : List Nat) (x : Nat) (s : List Nat) : ∀ l b, Good Pos px py all (l :: b :: s) → 0 ≤ T px py b l x → Lt Pos px py l x → Good Pos px py (all ++ [x]) (l :: b :: s) := by
  induction s with
  | nil =>
    intro l b ⟨h1, h2, h3, h4⟩ hx hlx
    refine ⟨h1, ?_, h3, trivial⟩
    intro p hp
    rcases List.mem_append.1 hp with hp | hp
    · exact h2 p hp
    · rw [List.mem_singleton.1 hp]; exact hx
  | cons c r ih =>
    intro l b ⟨h1, h2, h3, h4⟩ hx hlx
    have hcb : 0 < T px py c b l := h3 c rfl
    have hltcb : Lt Pos px py c b := h4.1
    have hbx : Lt Pos px py b x := h1.trans H hlx
    have key : 0 < T px py c b x := by
      have e1 : 0 < cr (px b - px c) (py b - py c) (px l - px b) (py l - py b) := by rw [← T_sh]; exact hcb
      have e2 : 0 ≤ cr (px l - px b) (py l - py b) (px x - px l) (py x - py l) := by rw [← T_sh]; exact hx
      have e3 := H.trs _ _ _ _ _ _ hltcb h1 hlx (Int.le_of_lt e1) e2 (Or.inl e1)
      rw [T_sh]
      have e4 : cr (px b - px c) (py b - py c) (px x - px b) (py x - py b) = cr (px b - px c) (py b - py c) (px l - px b) (py l - py b) + cr (px b - px c) (py b - py c) (px x - px l) (py x - py l) := by
        unfold cr
        simp only [Int.sub_mul, Int.mul_sub]
        simp only [Int.mul_comm]
        omega
      omega
    refine ⟨h1, ?_, h3, ih b c h4 (Int.le_of_lt key) hbx⟩
    intro p hp
    rcases List.mem_append.1 hp with hp | hp
    · exact h2 p hp
    · rw [List.mem_singleton.1 hp]; exact hx

theorem pop_good (H : Half Pos) (all : List Nat) (x : Nat) (hx : ∀ p ∈ all, Lt Pos px py p x) (tri : ∀ p ∈ all, ∀ q ∈ all, p = q ∨ Lt Pos px py p q ∨ Lt Pos px py q p) (s : List Nat) :
    ∀ l, (∀ y ∈ l :: s, y ∈ all) → Good Pos px py all (l :: s) → (∀ p ∈ all, Lt Pos px py l p → 0 ≤ T px py l x p) → (∀ m, (l :: s).getLast? = some m → ∀ p ∈ all, p = m ∨ Lt Pos px py m p) →
      popS (T px py) x (l :: s) ≠ [] ∧ (popS (T px py) x (l :: s)).getLast? = (l :: s).getLast? ∧ Good Pos px py (all ++ [x]) (x :: popS (T px py) x (l :: s)) := by
  induction s with
  | nil =>
    intro l hin hg htop hbot
    refine ⟨by simp [popS], by simp [popS], ?_⟩
    show Good Pos px py (all ++ [x]) [x, l]
    refine ⟨hx l (hin l (by simp)), ?_, by simp, trivial⟩
    intro p hp
    rcases List.mem_append.1 hp with hp | hp
    · rcases hbot l rfl p hp with rfl | h
      · rw [T_one]; omega
      · exact htop p hp h
    · rw [List.mem_singleton.1 hp, T_two]; omega
  | cons b r ih =>
    intro l hin hg htop hbot
    obtain ⟨h1, h2, h3, h4⟩ := hg
    have hl : l ∈ all := hin l (by simp)
    have hb : b ∈ all := hin b (by simp)
    have hlx := hx l hl
    by_cases hT : 0 < T px py b l x
    · have e : popS (T px py) x (l :: b :: r) = l :: b :: r := by unfold popS; rw [if_pos hT]
      rw [e]
      refine ⟨by simp, rfl, ?_⟩
      refine ⟨hlx, ?_, ?_, good_ext H all x r l b ⟨h1, h2, h3, h4⟩ (Int.le_of_lt hT) hlx⟩
      · intro p hp
        rcases List.mem_append.1 hp with hp | hp
        · rcases tri p hp l hl with rfl | h | h
          · rw [T_one]; omega
          · have e1 : 0 ≤ cr (px l - px p) (py l - py p) (px l - px b) (py l - py b) := by rw [← T_back]; exact h2 p hp
            have e2 : 0 ≤ cr (px l - px b) (py l - py b) (px x - px l) (py x - py l) := by rw [← T_sh]; exact Int.le_of_lt hT
            rw [T_on]
            exact H.tr _ _ _ _ _ _ h h1 hlx e1 e2
          · exact htop p hp h
        · rw [List.mem_singleton.1 hp, T_two]; omega
      · intro c hc
        simp at hc
        subst hc
        exact hT
    · have e : popS (T px py) x (l :: b :: r) = popS (T px py) x (b :: r) := by
        rw [popS, if_neg hT]
      rw [e, List.getLast?_cons_cons]
      refine ih b (fun y hy => hin y (List.mem_cons_of_mem _ hy)) h4 ?_ (fun m hm => hbot m (by rw [List.getLast?_cons_cons]; exact hm))
      intro p hp hbp
      have e1 : 0 ≤ cr (px x - px b) (py x - py b) (px l - px b) (py l - py b) := by
        rw [cr_anti, ← T_cr]; omega
      have e2 : 0 ≤ cr (px l - px b) (py l - py b) (px p - px b) (py p - py b) := by rw [← T_cr]; exact h2 p hp
      rw [T_cr]
      exact H.tr _ _ _ _ _ _ (hx b hb) h1 hbp e1 e2

/-- The chain along an order. -/
theorem stk_good (H : Half Pos) (os : List Nat) (hos : os.Pairwise (Lt Pos px py)) : ∀ k, 0 < k → k ≤ os.length →
    ∃ s, stk (T px py) (os.take k) = os[k - 1]! :: s ∧ (os[k - 1]! :: s).getLast? = some os[0]! ∧ Good Pos px py (os.take k) (os[k - 1]! :: s) := by
  intro k
  induction k with
  | zero => intro h; omega
  | succ k ih =>
    intro _ hk
    by_cases h0 : k = 0
    · subst h0
      have hl : 0 < os.length := by omega
      refine ⟨[], ?_, ?_, trivial⟩
      · rw [stk_take _ _ _ hl]
        simp [stk, popS, hl]
      · simp
    · obtain ⟨s, e1, e2, e3⟩ := ih (by omega) (by omega)
      have hkl : k < os.length := by omega
      have hx : os[k + 1 - 1]! = os[k] := by simp [hkl]
      have hx0 : os[k]! = os[k] := by simp [hkl]
      have htop : os[k - 1]! = os[k - 1] := by
        have : k - 1 < os.length := by omega
        simp [this]
      have mem_idx : ∀ p ∈ os.take k, ∃ i, ∃ h : i < os.length, i < k ∧ os[i] = p := by
        intro p hp
        obtain ⟨i, hi, rfl⟩ := List.getElem_of_mem hp
        have hi' : i < k ∧ i < os.length := by rw [List.length_take] at hi; omega
        exact ⟨i, hi'.2, hi'.1, by simp⟩
      have ord : ∀ i j, (hi : i < os.length) → (hj : j < os.length) → i < j → Lt Pos px py os[i] os[j] := fun i j hi hj hij => List.pairwise_iff_getElem.1 hos i j hi hj hij
      have hpop := pop_good H (os.take k) os[k] (by
          intro p hp
          obtain ⟨i, hi, hik, rfl⟩ := mem_idx p hp
          exact ord i k hi hkl hik) (by
          intro p hp q hq
          obtain ⟨i, hi, hik, rfl⟩ := mem_idx p hp
          obtain ⟨j, hj, hjk, rfl⟩ := mem_idx q hq
          rcases Nat.lt_trichotomy i j with h | h | h
          · exact Or.inr (Or.inl (ord i j hi hj h))
          · subst h; exact Or.inl rfl
          · exact Or.inr (Or.inr (ord j i hj hi h))) s os[k - 1]! (by
          intro y hy
          have : y ∈ stk (T px py) (os.take k) := by rw [e1]; exact hy
          have := stk_mem (T px py) (os.take k) (os.take k).length (Nat.le_refl _) y (by rw [List.take_length]; exact this)
          exact this) e3 (by
          intro p hp hlt
          exfalso
          obtain ⟨i, hi, hik, rfl⟩ := mem_idx p hp
          rw [htop] at hlt
          by_cases h : i = k - 1
          · subst h
            exact lt_irrefl H hlt
          · have := ord i (k - 1) hi (by omega) (by omega)
            exact lt_irrefl H (this.trans H hlt)) (by
          intro m hm p hp
          rw [e2] at hm
          cases hm
          obtain ⟨i, hi, hik, rfl⟩ := mem_idx p hp
          have h0' : os[0]! = os[0] := by simp [show 0 < os.length by omega]
          rw [h0']
          by_cases h : i = 0
          · subst h; exact Or.inl rfl
          · exact Or.inr (ord 0 i (by omega) hi (by omega)))
      obtain ⟨q1, q2, q3⟩ := hpop
      refine ⟨popS (T px py) os[k] (os[k - 1]! :: s), ?_, ?_, ?_⟩
      · rw [stk_take _ _ _ hkl, hx, e1]
      · rw [hx]
        cases hc : popS (T px py) os[k] (os[k - 1]! :: s) with
        | nil => exact absurd hc q1
        | cons a b =>
          rw [List.getLast?_cons_cons, ← hc, q2, e2]
      · rw [hx, List.take_succ_eq_append_getElem hkl]
        exact q3

end Go.Proofs.YtdbebbbceeopaaaGreat.Geo
