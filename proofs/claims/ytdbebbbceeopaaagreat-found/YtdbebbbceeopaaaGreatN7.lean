import Derived.Test.YtdbebbbceeopaaaGreatRows
import Derived.WalkKit
import Derived.WalkSpells
import Derived.WalkLawsBesides
import Derived.Test.YtdbebbbceeopaaaGreatN6
import Derived.Test.YtdbebbbceeopaaaGreatN1
namespace Go.Proofs.YtdbebbbceeopaaaGreat
open Go.RowKit
open Flt (Is)

theorem hid {p : Prop} (h : p) : Hid p := h

def cmpI (a b : Int) : Int := if a < b then -1 else if b < a then 1 else 0

set_option maxHeartbeats 400000 in
theorem conj_any (a b : Nat) (w : World) :
    Calls Tryz.prog 97 #[.complex .f64 a b] w fun e w' => e = .returned (.complex .f64 a (Op.negFloat .f64 b)) ∧ w' = w := by
  have hu : ∀ w, (Op.unary .neg (.float .f64 b)).run Tryz.prog w = .ok (.float .f64 (Op.negFloat .f64 b)) w := fun _ => rfl
  generalize Op.negFloat .f64 b = nb at *
  go_enter Tryz.func97, Tryz.ntmps97
  go_wp2
  go_ret
  exact ⟨rfl, rfl⟩

set_option maxHeartbeats 400000 in
theorem isNaN_any (b : Nat) (n : Int) (hb : Is b n) (w : World) :
    Calls Tryz.prog 125 #[.float .f64 b] w fun e w' => e = .returned (.bool false) ∧ w' = w := by
  have ho : (FloatKind.f64.format.order b b != some Ordering.eq) = false := by
    rw [hb.order hb]; simp
  clear hb
  go_enter Tryz.func125, Tryz.ntmps125
  go_wp2
  go_ret
  exact ⟨rfl, rfl⟩

set_option maxHeartbeats 400000 in
theorem compare_any (a b : Nat) (m n : Int) (ha : Is a m) (hb : Is b n) (w : World) :
    Calls Tryz.prog 94 #[.float .f64 a, .float .f64 b] w fun e w' => e = .returned (.int .i64 (cmpI m n)) ∧ w' = w := by
  have h1 : (FloatKind.f64.format.order a b == some Ordering.lt) = decide (m < n) := by
    rw [ha.order hb]
    by_cases h : m < n
    · simp [Int.compare_eq_lt.2 h, h]
    · by_cases h' : n < m
      · simp [Int.compare_eq_gt.2 h', h]
      · have : m = n := by omega
        subst this; simp
  have h2 : (FloatKind.f64.format.order a b == some Ordering.gt) = decide (n < m) := by
    rw [ha.order hb]
    by_cases h : m < n
    · have h' : ¬ n < m := by omega
      simp [Int.compare_eq_lt.2 h, h']
    · by_cases h' : n < m
      · simp [Int.compare_eq_gt.2 h', h']
      · have : m = n := by omega
        subst this; simp
  have ca := isNaN_any a m ha
  have cb := isNaN_any b n hb
  clear ha hb
  have CA : Hid (∀ w, _) := ca
  have CB : Hid (∀ w, _) := cb
  clear ca cb
  unfold cmpI
  by_cases hlt : m < n
  · rw [decide_eq_true hlt] at h1
    go_enter Tryz.func94, Tryz.ntmps94
    go_wp2_with fail
    refine (CA.out _).mono ?_
    rintro e w' ⟨rfl, rfl⟩
    go_wp2_with fail
    refine (CB.out _).mono ?_
    rintro e w' ⟨rfl, rfl⟩
    go_wp2_with fail
    go_ret
    exact ⟨by simp, rfl⟩
  · rw [decide_eq_false hlt] at h1
    by_cases hgt : n < m
    · rw [decide_eq_true hgt] at h2
      go_enter Tryz.func94, Tryz.ntmps94
      go_wp2_with fail
      refine (CA.out _).mono ?_
      rintro e w' ⟨rfl, rfl⟩
      go_wp2_with fail
      refine (CB.out _).mono ?_
      rintro e w' ⟨rfl, rfl⟩
      go_wp2_with fail
      go_ret
      exact ⟨by simp, rfl⟩
    · rw [decide_eq_false hgt] at h2
      go_enter Tryz.func94, Tryz.ntmps94
      go_wp2_with fail
      refine (CA.out _).mono ?_
      rintro e w' ⟨rfl, rfl⟩
      go_wp2_with fail
      refine (CB.out _).mono ?_
      rintro e w' ⟨rfl, rfl⟩
      go_wp2_with fail
      go_ret
      exact ⟨by simp, rfl⟩

theorem bnd_mul {a b : Int} {A B : Int} (h1 : -A ≤ a) (h2 : a ≤ A) (h3 : -B ≤ b) (h4 : b ≤ B) : -(A * B) ≤ a * b ∧ a * b ≤ A * B := by
  have hA : 0 ≤ A := by omega
  have hB : 0 ≤ B := by omega
  have e : (a * b).natAbs ≤ A.natAbs * B.natAbs := by
    rw [Int.natAbs_mul]; exact Nat.mul_le_mul (by omega) (by omega)
  have e2 : ((A.natAbs * B.natAbs : Nat) : Int) = A * B := by push_cast; rw [Int.natAbs_of_nonneg hA, Int.natAbs_of_nonneg hB]
  omega

theorem tw_bd {ax ay bx bya cx cy : Int} (A : -1000 ≤ ax ∧ ax ≤ 1000) (A' : -1000 ≤ ay ∧ ay ≤ 1000) (B : -1000 ≤ bx ∧ bx ≤ 1000) (B' : -1000 ≤ bya ∧ bya ≤ 1000) (C : -1000 ≤ cx ∧ cx ≤ 1000) (C' : -1000 ≤ cy ∧ cy ≤ 1000) :
    -4000000 ≤ (bx - ax) * (cy - ay) ∧ (bx - ax) * (cy - ay) ≤ 4000000 ∧ -4000000 ≤ (bya - ay) * (cx - ax) ∧ (bya - ay) * (cx - ax) ≤ 4000000 := by
  have h1 := bnd_mul (a := bx - ax) (b := cy - ay) (A := 2000) (B := 2000) (by omega) (by omega) (by omega) (by omega)
  have h2 := bnd_mul (a := bya - ay) (b := cx - ax) (A := 2000) (B := 2000) (by omega) (by omega) (by omega) (by omega)
  omega

set_option maxHeartbeats 400000 in
/-- plane.Turn, of three places that stand for points in bounds. -/
theorem turn_any (a1 a2 b1 b2 c1 c2 : Nat) (ax ay bx bya cx cy : Int) (hax : Is a1 ax) (hay : Is a2 ay) (hbx : Is b1 bx) (hby : Is b2 bya) (hcx : Is c1 cx) (hcy : Is c2 cy)
    (A : -1000 ≤ ax ∧ ax ≤ 1000) (A' : -1000 ≤ ay ∧ ay ≤ 1000) (B : -1000 ≤ bx ∧ bx ≤ 1000) (B' : -1000 ≤ bya ∧ bya ≤ 1000) (C : -1000 ≤ cx ∧ cx ≤ 1000) (C' : -1000 ≤ cy ∧ cy ≤ 1000) :
    ∃ r, Is r (tw ax ay bx bya cx cy) ∧ ∀ w : World, Calls Tryz.prog 68 #[.complex .f64 a1 a2, .complex .f64 b1 b2, .complex .f64 c1 c2] w fun e w' => e = .returned (.float .f64 r) ∧ w' = w := by
  obtain ⟨u1, eu1, hu1⟩ := hbx.sub hax (by omega) (by omega)
  obtain ⟨u2, eu2, hu2⟩ := hby.sub hay (by omega) (by omega)
  obtain ⟨v1, ev1, hv1⟩ := hcx.sub hax (by omega) (by omega)
  obtain ⟨v2, ev2, hv2⟩ := hcy.sub hay (by omega) (by omega)
  have hn := hu2.neg
  have b1' := bnd_mul (a := bx - ax) (b := cx - ax) (A := 2000) (B := 2000) (by omega) (by omega) (by omega) (by omega)
  have b2' := bnd_mul (a := -(bya - ay)) (b := cy - ay) (A := 2000) (B := 2000) (by omega) (by omega) (by omega) (by omega)
  have b3' := bnd_mul (a := bx - ax) (b := cy - ay) (A := 2000) (B := 2000) (by omega) (by omega) (by omega) (by omega)
  have b4' := bnd_mul (a := -(bya - ay)) (b := cx - ax) (A := 2000) (B := 2000) (by omega) (by omega) (by omega) (by omega)
  obtain ⟨p1, ep1, hp1⟩ := hu1.mul hv1 (by omega) (by omega)
  obtain ⟨p2, ep2, hp2⟩ := hn.mul hv2 (by omega) (by omega)
  obtain ⟨p3, ep3, hp3⟩ := hu1.mul hv2 (by omega) (by omega)
  obtain ⟨p4, ep4, hp4⟩ := hn.mul hv1 (by omega) (by omega)
  obtain ⟨s1, es1, _⟩ := hp1.sub hp2 (by omega) (by omega)
  obtain ⟨s2, es2, hs2⟩ := hp3.add hp4 (by omega) (by omega)
  refine ⟨s2, ?_, ?_⟩
  · have e : tw ax ay bx bya cx cy = (bx - ax) * (cy - ay) + -(bya - ay) * (cx - ax) := by
      unfold tw; rw [Int.neg_mul]; omega
    rw [e]; exact hs2
  · intro w
    have k1 : cSumBits .sub .f64 b1 b2 a1 a2 = some (u1, u2) := by simp [cSumBits, eu1, eu2]
    have k2 : cSumBits .sub .f64 c1 c2 a1 a2 = some (v1, v2) := by simp [cSumBits, ev1, ev2]
    have k3 : cMulBits u1 (Op.negFloat .f64 u2) v1 v2 = some (s1, s2) := by simp [cMulBits, ep1, ep2, ep3, ep4, es1, es2]
    have o1 := fun t w => run_complex_sum (P := Tryz.prog) w .sub (Or.inr rfl) t .f64 b1 b2 a1 a2 u1 u2 k1
    have o2 := fun t w => run_complex_sum (P := Tryz.prog) w .sub (Or.inr rfl) t .f64 c1 c2 a1 a2 v1 v2 k2
    have o3 := fun t w => run_complex_mul (P := Tryz.prog) w t u1 (Op.negFloat .f64 u2) v1 v2 s1 s2 k3
    generalize hnu : Op.negFloat .f64 u2 = nu at *
    clear hax hay hbx hby hcx hcy A A' B B' C C' eu1 eu2 ev1 ev2 hu1 hu2 hv1 hv2 hn b1' b2' b3' b4' ep1 ep2 ep3 ep4 hp1 hp2 hp3 hp4 es1 es2 hs2 k1 k2 k3
    have cj := conj_any u1 u2
    rw [hnu] at cj
    clear hnu
    go_enter Tryz.func68, Tryz.ntmps68
    go_wp2_with (go_at_call 97; refine (cj _).mono ?_; rintro e w' ⟨rfl, rfl⟩)
    go_ret
    exact ⟨rfl, rfl⟩

end Go.Proofs.YtdbebbbceeopaaaGreat

namespace Go.Proofs.YtdbebbbceeopaaaGreat
open Go.RowKit
open Flt (Is)

def pt (x y : Int) : Value := .agg #[.int .i64 x, .int .i64 y]

def nearB (n : Int) : Bool := decide (-1000 ≤ n) && decide (n ≤ 1000)

set_option maxHeartbeats 400000 in
theorem isNear_any (n : Int) (w : World) :
    Calls Tryz.prog 66 #[.int .i64 n] w fun e w' => e = .returned (.bool (nearB n)) ∧ w' = w := by
  unfold nearB
  by_cases h : -1000 ≤ n
  · go_enter Tryz.func66, Tryz.ntmps66
    go_wp2
    all_goals go_ret
    all_goals exact ⟨by simp [*], rfl⟩
  · go_enter Tryz.func66, Tryz.ntmps66
    go_wp2
    all_goals go_ret
    all_goals exact ⟨by simp; omega, rfl⟩

set_option maxHeartbeats 400000 in
theorem inBounds_any (x y : Int) (w : World) :
    Calls Tryz.prog 36 #[.agg #[.int .i64 x, .int .i64 y]] w fun e w' => e = .returned (.bool (nearB x && nearB y)) ∧ Below w.heap.size w w' := by
  cases h : nearB x
  · have hx := isNear_any x
    rw [h] at hx
    clear h
    go_enter Tryz.func36, Tryz.ntmps36
    go_wp2_with (go_at_call 66; refine (hx _).mono ?_; rintro e w' ⟨rfl, rfl⟩)
    go_ret
    exact ⟨by simp, (Below.refl _ _).alloc (Nat.le_refl _) _⟩
  · have hx := isNear_any x
    have hy := isNear_any y
    rw [h] at hx
    generalize nearB y = r at *
    clear h
    go_enter Tryz.func36, Tryz.ntmps36
    go_wp2_with fail
    refine (hx _).mono ?_
    rintro e w' ⟨rfl, rfl⟩
    go_wp2_with fail
    refine (hy _).mono ?_
    rintro e w' ⟨rfl, rfl⟩
    go_wp2_with fail
    go_ret
    exact ⟨by simp, (Below.refl _ _).alloc (Nat.le_refl _) _⟩

set_option maxHeartbeats 400000 in
theorem place_any (x y : Int) (w : World) :
    Calls Tryz.prog 65 #[.agg #[.int .i64 x, .int .i64 y]] w fun e w' => e = .returned (.complex .f64 (floatOfInt .f64 x) (floatOfInt .f64 y)) ∧ Below w.heap.size w w' := by
  go_enter Tryz.func65, Tryz.ntmps65
  go_wp2
  go_ret
  exact ⟨rfl, (Below.refl _ _).alloc (Nat.le_refl _) _⟩

end Go.Proofs.YtdbebbbceeopaaaGreat
