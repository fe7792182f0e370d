import Derived.Laws.ComplexArith
namespace Go.Proofs.YtdbebbbceeopaaaGreat.Flt
open Ieee

/-- The word b of a double stands for the whole number n. -/
def Is (b : Nat) (n : Int) : Prop :=
  ∃ s m p, ∃ k : Nat, double.read b = .number s m p ∧ 0 ≤ p + k ∧ signed s m (p + k).toNat = n * 2 ^ k

theorem signed_eq (s : Bool) (m u : Nat) : signed s m u = (if s then -1 else 1) * (m : Int) * 2 ^ u := by
  unfold signed
  rw [Nat.shiftLeft_eq]
  cases s
  · simp
  · simp [Int.neg_mul]

theorem signed_add (s : Bool) (m u v : Nat) : signed s m (u + v) = signed s m u * 2 ^ v := by
  rw [signed_eq, signed_eq, Int.pow_add, Int.mul_assoc, Int.mul_assoc, Int.mul_assoc]

theorem signed_mul (s t : Bool) (m n u v : Nat) : signed (s ^^ t) (m * n) (u + v) = signed s m u * signed t n v := by
  rw [signed_eq, signed_eq, signed_eq, Int.pow_add]
  have e : (if (s ^^ t) = true then (-1 : Int) else 1) = (if s then -1 else 1) * (if t then -1 else 1) := by cases s <;> cases t <;> rfl
  rw [e]
  push_cast
  simp only [Int.mul_assoc, Int.mul_comm, Int.mul_left_comm]

theorem signed_not (s : Bool) (m u : Nat) : signed (!s) m u = -signed s m u := by
  unfold signed; cases s <;> simp

theorem two_pos (k : Nat) : (0 : Int) < 2 ^ k := Int.pow_pos (by decide)

theorem lift {s : Bool} {m : Nat} {p n : Int} {k : Nat} (h0 : 0 ≤ p + k) (h : signed s m (p + k).toNat = n * 2 ^ k) (j : Nat) :
    0 ≤ p + (k + j : Nat) ∧ signed s m (p + (k + j : Nat)).toNat = n * 2 ^ (k + j) := by
  refine ⟨by omega, ?_⟩
  rw [show (p + (k + j : Nat)).toNat = (p + k).toNat + j by omega, signed_add, h, Int.pow_add, Int.mul_assoc]

/-- A number that the format has is written as itself. -/
theorem log2_of {m k : Nat} (h1 : 2 ^ k ≤ m) (h2 : m < 2 ^ (k + 1)) : m.log2 = k := by
  have hm : m ≠ 0 := by have := Nat.two_pow_pos k; omega
  have a := (Nat.le_log2 hm).2 h1
  have b := (Nat.log2_lt hm).2 h2
  omega

theorem f_sw : double.signWeight = 2 ^ 63 := rfl
theorem f_bi : double.binade = 2 ^ 52 := rfl
theorem f_in : double.infRung = 2047 * 2 ^ 52 := rfl
theorem f_le : double.leastPlace = -1074 := by decide
theorem read_word (neg : Bool) (R e M : Nat) (hR : R = e * 2 ^ 52 + M) (h1 : 2 ^ 52 ≤ M) (h2 : M < 2 ^ 53) (he : e < 2000) :
    double.read (double.word neg R) = .number neg M (-1074 + (e : Int)) := by
  have r1 : double.word neg R % 2 ^ 63 = R := by
    unfold Format.word
    rw [f_sw]
    cases neg
    · rw [if_neg (by decide)]; omega
    · rw [if_pos rfl]; omega
  have r2 : (double.word neg R / 2 ^ 63 % 2 == 1) = neg := by
    unfold Format.word
    rw [f_sw]
    cases neg
    · rw [if_neg (by decide), beq_eq_false_iff_ne]; omega
    · rw [if_pos rfl, beq_iff_eq]; omega
  have q1 : 2 ^ 52 + R % 2 ^ 52 = M := by omega
  have q2 : R / 2 ^ 52 - 1 = e := by omega
  unfold Format.read
  rw [f_sw, f_bi, f_in, f_le]
  dsimp only
  rw [r1, r2, if_neg (by omega), if_pos (by omega), q1, q2]

theorem write_exact (neg : Bool) (mag : Nat) (place : Int) (k N : Nat) (h0 : 0 ≤ place + k) (h : mag * 2 ^ (place + k).toNat = N * 2 ^ k) (hN : N < 2 ^ 53) :
    ∃ m p, ∃ k' : Nat, double.read (double.write (.number neg mag place)) = .number neg m p ∧ 0 ≤ p + k' ∧ m * 2 ^ (p + k').toNat = N * 2 ^ k' := by
  show ∃ m p, ∃ k' : Nat, double.read (double.nearest neg mag place) = .number neg m p ∧ _
  have hsw := f_sw
  have hbi := f_bi
  have hin := f_in
  have hle := f_le
  by_cases hz : mag = 0
  · subst hz
    have hN0 : N = 0 := by
      have : N * 2 ^ k = 0 := by rw [← h]; simp
      rcases Nat.mul_eq_zero.1 this with h | h
      · exact h
      · exact absurd h (by have := Nat.two_pow_pos k; omega)
    subst hN0
    obtain ⟨K, hK⟩ : ∃ K : Nat, K = 1074 := ⟨_, rfl⟩
    refine ⟨0, -1074, K, ?_, by omega, by rw [Nat.zero_mul, Nat.zero_mul]⟩
    unfold Format.nearest Format.read Format.word
    rw [hsw, hbi, hle]
    cases neg <;> simp
  · have hNp : N ≠ 0 := by
      intro e; subst e
      rw [Nat.zero_mul] at h
      rcases Nat.mul_eq_zero.1 h with h | h
      · exact hz h
      · exact absurd h (by have := Nat.two_pow_pos (place + k).toNat; omega)
    -- the place of the first digit
    have hlog : (place + k).toNat + mag.log2 = N.log2 + k := by
      have a1 : (mag * 2 ^ (place + k).toNat).log2 = mag.log2 + (place + k).toNat := by
        refine log2_of ?_ ?_
        · rw [Nat.pow_add]; exact Nat.mul_le_mul_right _ (Nat.log2_self_le hz)
        · rw [show mag.log2 + (place + k).toNat + 1 = (mag.log2 + 1) + (place + k).toNat by omega, Nat.pow_add]
          exact Nat.mul_lt_mul_of_pos_right Nat.lt_log2_self (Nat.two_pow_pos _)
      have a2 : (N * 2 ^ k).log2 = N.log2 + k := by
        refine log2_of ?_ ?_
        · rw [Nat.pow_add]; exact Nat.mul_le_mul_right _ (Nat.log2_self_le hNp)
        · rw [show N.log2 + k + 1 = (N.log2 + 1) + k by omega, Nat.pow_add]
          exact Nat.mul_lt_mul_of_pos_right Nat.lt_log2_self (Nat.two_pow_pos _)
      rw [h] at a1; omega
    have hNl : N.log2 ≤ 52 := by
      have := (Nat.log2_lt hNp).2 hN; omega
    have hlast : max (place + mag.log2 - (52 : Nat)) (-1074) = (N.log2 : Int) - 52 := by omega
    obtain ⟨L, hL⟩ : ∃ L : Nat, L = N.log2 := ⟨_, rfl⟩
    rw [← hL] at hlog hNl hlast
    -- what is kept: N * 2 ^ (52 - L)
    have hkept : Toward.even.cut neg (mag <<< (place - ((L : Int) - 52)).toNat) (((L : Int) - 52) - place).toNat = N * 2 ^ (52 - L) := by
      by_cases hp : (L : Int) - 52 ≤ place
      · have e1 : (((L : Int) - 52) - place).toNat = 0 := by omega
        rw [e1, Nat.shiftLeft_eq]
        have e2 : mag * 2 ^ (place - ((L : Int) - 52)).toNat = N * 2 ^ (52 - L) := by
          have e3 : (place - ((L : Int) - 52)).toNat + k = (place + k).toNat + (52 - L) := by omega
          have e4 : mag * 2 ^ (place - ((L : Int) - 52)).toNat * 2 ^ k = N * 2 ^ (52 - L) * 2 ^ k := by
            rw [Nat.mul_assoc, ← Nat.pow_add, e3, Nat.pow_add, ← Nat.mul_assoc, h, Nat.mul_assoc, Nat.mul_assoc, Nat.mul_comm (2 ^ k)]
          exact Nat.eq_of_mul_eq_mul_right (Nat.two_pow_pos k) e4
        rw [e2]
        unfold Toward.cut
        simp [Nat.mod_one]
      · have e1 : (place - ((L : Int) - 52)).toNat = 0 := by omega
        obtain ⟨d, hd⟩ : ∃ d : Nat, d = (((L : Int) - 52) - place).toNat := ⟨_, rfl⟩
        rw [← hd, e1]
        have e2 : mag = N * 2 ^ (52 - L) * 2 ^ d := by
          have e3 : k = (place + k).toNat + ((52 - L) + d) := by omega
          have e4 : mag * 2 ^ (place + k).toNat = N * 2 ^ (52 - L) * 2 ^ d * 2 ^ (place + k).toNat := by
            rw [h]
            rw [Nat.mul_assoc, Nat.mul_assoc, ← Nat.pow_add, ← Nat.pow_add, show (52 - L) + (d + (place + k).toNat) = k from by omega]
          exact Nat.eq_of_mul_eq_mul_right (Nat.two_pow_pos _) e4
        have e5 : d ≤ mag.log2 := by omega
        unfold Toward.cut
        have e6 : min d ((mag <<< 0).log2 + 2) = d := by rw [Nat.shiftLeft_zero]; omega
        rw [e6]
        have e7 : (1 : Nat) <<< d = 2 ^ d := by rw [Nat.shiftLeft_eq, Nat.one_mul]
        rw [e7, Nat.shiftLeft_zero]
        have e8 : mag % 2 ^ d = 0 := by rw [e2]; exact Nat.mul_mod_left _ _
        have e9 : mag / 2 ^ d = N * 2 ^ (52 - L) := by rw [e2]; exact Nat.mul_div_cancel _ (Nat.two_pow_pos d)
        dsimp only
        rw [e8, e9]
        have : 0 < 2 ^ d := Nat.two_pow_pos d
        simp
    have hk1 : 2 ^ 52 ≤ N * 2 ^ (52 - L) := by
      have : 2 ^ L ≤ N := by rw [hL]; exact Nat.log2_self_le hNp
      have e : 2 ^ L * 2 ^ (52 - L) = 2 ^ 52 := by rw [← Nat.pow_add, show L + (52 - L) = 52 from by omega]
      rw [← e]
      exact Nat.mul_le_mul_right _ this
    have hk2 : N * 2 ^ (52 - L) < 2 ^ 53 := by
      have : N < 2 ^ (L + 1) := by rw [hL]; exact Nat.lt_log2_self
      have e : 2 ^ (L + 1) * 2 ^ (52 - L) = 2 ^ 53 := by rw [← Nat.pow_add, show L + 1 + (52 - L) = 53 from by omega]
      rw [← e]
      exact Nat.mul_lt_mul_of_pos_right this (Nat.two_pow_pos _)
    obtain ⟨M, hM⟩ : ∃ M, M = N * 2 ^ (52 - L) := ⟨_, rfl⟩
    refine ⟨M, (L : Int) - 52, 52, ?_, by omega, ?_⟩
    · unfold Format.nearest
      rw [if_neg hz]
      have hfb : ((double.fractionBits : Nat) : Int) = (52 : Nat) := rfl
      dsimp only
      rw [hfb, hle, hlast, hkept, ← hM, hbi, hin]
      rw [← hM] at hk1 hk2
      have e1 : ((L : Int) - 52 - -1074).toNat = L + 1022 := by omega
      rw [e1]
      have e2 : (L + 1022) * 2 ^ 52 + M ≤ 2047 * 2 ^ 52 := by omega
      rw [Nat.min_eq_left e2]
      rw [read_word neg _ (L + 1022) M rfl hk1 hk2 (by omega), show (-1074 : Int) + ((L + 1022 : Nat) : Int) = (L : Int) - 52 from by omega]
    · rw [hM, show ((L : Int) - 52 + (52 : Nat)).toNat = L by omega, Nat.mul_assoc, ← Nat.pow_add, show 52 - L + L = 52 from by omega]

theorem write_is (neg : Bool) (mag : Nat) (place n : Int) (k : Nat) (h0 : 0 ≤ place + k) (h : signed neg mag (place + k).toNat = n * 2 ^ k) (h1 : -2 ^ 53 < n) (h2 : n < 2 ^ 53) :
    Is (double.write (.number neg mag place)) n := by
  have hk := two_pos k
  have hN : mag * 2 ^ (place + k).toNat = n.natAbs * 2 ^ k := by
    have e : ((mag * 2 ^ (place + k).toNat : Nat) : Int).natAbs = (n * 2 ^ k).natAbs := by
      rw [← h, signed_eq]
      push_cast
      cases neg <;> simp [Int.natAbs_mul]
    rw [Int.natAbs_natCast, Int.natAbs_mul] at e
    rw [e]
    congr 1
  obtain ⟨m, p, k', a1, a2, a3⟩ := write_exact neg mag place k n.natAbs h0 hN (by omega)
  refine ⟨neg, m, p, k', a1, a2, ?_⟩
  have hs : (if neg then -1 else 1) * (n.natAbs : Int) = n := by
    have e1 : (if neg then (-1 : Int) else 1) * ((mag * 2 ^ (place + k).toNat : Nat) : Int) = n * 2 ^ k := by
      rw [← h, signed_eq]; push_cast; rw [Int.mul_assoc]
    rw [hN] at e1
    push_cast at e1
    rw [← Int.mul_assoc] at e1
    exact Int.eq_of_mul_eq_mul_right (Int.ne_of_gt hk) e1
  rw [signed_eq, Int.mul_assoc]
  have a4 : (m : Int) * 2 ^ (p + k').toNat = (n.natAbs : Int) * 2 ^ k' := by exact_mod_cast a3
  rw [a4, ← Int.mul_assoc, hs]

theorem scaled {s : Bool} {m : Nat} {i base n : Int} {k : Nat} (hb : base ≤ i) (h0 : 0 ≤ base + k) (h : signed s m (i + k).toNat = n * 2 ^ k) :
    signed s m (i - base).toNat * 2 ^ (base + k).toNat = n * 2 ^ k := by
  rw [← signed_add, ← h]
  congr 1
  omega

theorem sum_is (d1 d2 : Datum) (s t : Bool) (m n : Nat) (i j a b : Int) (k l : Nat) (e1 : d1 = .number s m i) (e2 : d2 = .number t n j) (hi : 0 ≤ i + k) (hj : 0 ≤ j + l)
    (ha : signed s m (i + k).toNat = a * 2 ^ k) (hb : signed t n (j + l).toNat = b * 2 ^ l) (h1 : -2 ^ 53 < a + b) (h2 : a + b < 2 ^ 53) :
    ∃ r, (d1.sum d2).map double.write = some r ∧ Is r (a + b) := by
  subst e1 e2
  refine ⟨_, rfl, ?_⟩
  obtain ⟨hi', ha'⟩ := lift hi ha l
  obtain ⟨hj', hb'⟩ := lift hj hb k
  rw [Nat.add_comm l k] at hj' hb'
  have q0 : 0 ≤ min i j + (k + l : Nat) := by omega
  refine write_is _ _ _ _ (k + l) q0 ?_ h1 h2
  have q1 := scaled (base := min i j) (by omega) q0 ha'
  have q2 := scaled (base := min i j) (by omega) q0 hb'
  generalize signed s m (i - min i j).toNat = X at q1 ⊢
  generalize signed t n (j - min i j).toNat = Y at q2 ⊢
  rw [Int.add_mul, ← q1, ← q2, ← Int.add_mul]
  generalize X + Y = Z
  rw [signed_eq]
  congr 1
  by_cases hz : Z = 0
  · subst hz; simp
  · rw [if_neg hz]
    by_cases hn : Z < 0
    · simp [hn]; omega
    · simp [hn]; omega

theorem Is.add {x y : Nat} {a b : Int} (hx : Is x a) (hy : Is y b) (h1 : -2 ^ 53 < a + b) (h2 : a + b < 2 ^ 53) : ∃ r, floatBits .add .f64 x y = some r ∧ Is r (a + b) := by
  obtain ⟨s, m, i, k, r1, hi, ha⟩ := hx
  obtain ⟨t, n, j, l, r2, hj, hb⟩ := hy
  exact sum_is _ _ s t m n i j a b k l r1 r2 hi hj ha hb h1 h2

theorem Is.sub {x y : Nat} {a b : Int} (hx : Is x a) (hy : Is y b) (h1 : -2 ^ 53 < a - b) (h2 : a - b < 2 ^ 53) : ∃ r, floatBits .sub .f64 x y = some r ∧ Is r (a - b) := by
  obtain ⟨s, m, i, k, r1, hi, ha⟩ := hx
  obtain ⟨t, n, j, l, r2, hj, hb⟩ := hy
  exact sum_is _ (double.read y).opposite s (!t) m n i j a (-b) k l r1 (by rw [r2]; rfl) hi hj ha (by rw [signed_not, hb, Int.neg_mul]) h1 h2

theorem Is.mul {x y : Nat} {a b : Int} (hx : Is x a) (hy : Is y b) (h1 : -2 ^ 53 < a * b) (h2 : a * b < 2 ^ 53) : ∃ r, floatBits .mul .f64 x y = some r ∧ Is r (a * b) := by
  obtain ⟨s, m, i, k, r1, hi, ha⟩ := hx
  obtain ⟨t, n, j, l, r2, hj, hb⟩ := hy
  refine ⟨double.write (.number (s ^^ t) (m * n) (i + j)), ?_, ?_⟩
  · show ((double.read x).product (double.read y)).map double.write = _
    rw [r1, r2]; rfl
  · refine write_is _ _ _ _ (k + l) (by omega) ?_ h1 h2
    rw [show (i + j + (k + l : Nat)).toNat = (i + k).toNat + (j + l).toNat by omega, signed_mul, ha, hb, Int.pow_add]
    simp only [Int.mul_assoc, Int.mul_left_comm]

theorem Is.neg {x : Nat} {a : Int} (hx : Is x a) : Is (Op.negFloat .f64 x) (-a) := by
  obtain ⟨s, m, i, k, r1, hi, ha⟩ := hx
  refine ⟨!s, m, i, k, ?_, hi, by rw [signed_not, ha, Int.neg_mul]⟩
  have hx : Op.negFloat .f64 x = x ^^^ 2 ^ 63 := rfl
  have a1 : (x ^^^ 2 ^ 63) % 2 ^ 63 = x % 2 ^ 63 := by
    rw [Nat.xor_mod_two_pow, Nat.mod_self, Nat.xor_zero]
  have a2 : ((x ^^^ 2 ^ 63) / 2 ^ 63 % 2 == 1) = !(x / 2 ^ 63 % 2 == 1) := by
    rw [← Nat.shiftRight_eq_div_pow, Nat.shiftRight_xor_distrib, Nat.shiftRight_eq_div_pow, Nat.shiftRight_eq_div_pow, Nat.div_self (by decide)]
    generalize x / 2 ^ 63 = y
    have : (y ^^^ 1) % 2 = (y % 2) ^^^ 1 := by rw [show (2 : Nat) = 2 ^ 1 from rfl, Nat.xor_mod_two_pow]
    rw [this]
    rcases Nat.mod_two_eq_zero_or_one y with h | h <;> rw [h] <;> rfl
  rw [hx]
  have key : double.read (x ^^^ 2 ^ 63) = (double.read x).opposite := by
    unfold Format.read
    rw [f_sw, f_bi, f_in, f_le]
    dsimp only
    rw [a1, a2]
    generalize (x / 2 ^ 63 % 2 == 1) = g
    generalize x % 2 ^ 63 = R
    split
    · rfl
    · split
      · rfl
      · split <;> rfl
  rw [key, r1]
  rfl

theorem compare_mul (x y c : Int) (hc : 0 < c) : compare (x * c) (y * c) = compare x y := by
  by_cases h1 : x < y
  · rw [Int.compare_eq_lt.2 h1, Int.compare_eq_lt.2 (Int.mul_lt_mul_of_pos_right h1 hc)]
  · by_cases h2 : y < x
    · rw [Int.compare_eq_gt.2 h2, Int.compare_eq_gt.2 (Int.mul_lt_mul_of_pos_right h2 hc)]
    · have : x = y := by omega
      subst this
      rw [Int.compare_eq_eq.2 rfl, Int.compare_eq_eq.2 rfl]

theorem Is.order {x y : Nat} {a b : Int} (hx : Is x a) (hy : Is y b) : FloatKind.f64.format.order x y = some (compare a b) := by
  obtain ⟨s, m, i, k, r1, hi, ha⟩ := hx
  obtain ⟨t, n, j, l, r2, hj, hb⟩ := hy
  show (double.read x).order (double.read y) = _
  rw [r1, r2]
  obtain ⟨hi', ha'⟩ := lift hi ha l
  obtain ⟨hj', hb'⟩ := lift hj hb k
  rw [Nat.add_comm l k] at hj' hb'
  have q0 : 0 ≤ min i j + (k + l : Nat) := by omega
  have q1 := scaled (base := min i j) (by omega) q0 ha'
  have q2 := scaled (base := min i j) (by omega) q0 hb'
  show some (compare (signed s m (i - min i j).toNat) (signed t n (j - min i j).toNat)) = _
  generalize signed s m (i - min i j).toNat = X at q1 ⊢
  generalize signed t n (j - min i j).toNat = Y at q2 ⊢
  rw [← compare_mul X Y _ (two_pos (min i j + (k + l : Nat)).toNat), q1, q2, compare_mul a b _ (two_pos _)]

theorem Is.ofInt {n : Int} (h1 : -2 ^ 53 < n) (h2 : n < 2 ^ 53) : Is (floatOfInt .f64 n) n := by
  refine write_is _ _ 0 n 0 (by omega) ?_ h1 h2
  rw [signed_eq]
  by_cases hn : n < 0
  · simp [hn]; omega
  · simp [hn]; omega

end Go.Proofs.YtdbebbbceeopaaaGreat.Flt
