import Derived.Test.YtdbebbbceeopaaaA
namespace Go.Proofs.Ytdbebbbceeopaaa
open Go.RowKit
open Flt (Is)

def pickI (c n : Int) : Int := (if c < 0 then -(c + 1) else c) % n

theorem pickI_bd (c n : Int) (h : 0 < n) : 0 ≤ pickI c n ∧ pickI c n < n :=
  ⟨Int.emod_nonneg _ (by omega), Int.emod_lt_of_pos _ h⟩

set_option maxHeartbeats 400000 in
theorem pick_any (c n : Int) (hc : -9223372036854775808 ≤ c ∧ c ≤ 9223372036854775807) (hn : 0 < n) (hn' : n ≤ 1000000) (w : World) :
    Calls Try.prog 8 #[.int .i64 c, .int .i64 n] w fun e w' => e = .returned (.int .i64 (pickI c n)) ∧ w' = w := by
  unfold pickI
  by_cases h : c < 0
  · rw [if_pos h]
    go_enter Try.func8, Try.ntmps8
    go_wp2
    go_ret
    refine ⟨?_, rfl⟩
    show Ending.returned (.int .i64 _) = _
    rw [← Int.neg_tmod, Int.tmod_eq_emod_of_nonneg (by omega)]
  · rw [if_neg h]
    go_enter Try.func8, Try.ntmps8
    go_wp2
    go_ret
    refine ⟨?_, rfl⟩
    rfl

def pt (x y : Int) : Value := .agg #[.int .i64 x, .int .i64 y]

set_option maxHeartbeats 400000 in
theorem kturn_any (ax ay bx bya cx cy : Int) (A : -1000 ≤ ax ∧ ax ≤ 1000) (A' : -1000 ≤ ay ∧ ay ≤ 1000) (B : -1000 ≤ bx ∧ bx ≤ 1000) (B' : -1000 ≤ bya ∧ bya ≤ 1000) (C : -1000 ≤ cx ∧ cx ≤ 1000) (C' : -1000 ≤ cy ∧ cy ≤ 1000) (w : World) :
    Calls Try.prog 7 #[.agg #[.int .i64 ax, .int .i64 ay], .agg #[.int .i64 bx, .int .i64 bya], .agg #[.int .i64 cx, .int .i64 cy]] w fun e w' => e = .returned (.int .i64 (tw ax ay bx bya cx cy)) ∧ Below w.heap.size w w' := by
  have hb := tw_bd A A' B B' C C'
  obtain ⟨hb1, hb2, hb3, hb4⟩ := hb
  unfold tw
  go_enter Try.func7, Try.ntmps7
  go_wp2
  go_ret
  refine ⟨?_, ?_⟩
  · rfl
  · exact (((Below.refl _ _).alloc (Nat.le_refl _) _).alloc (by simp) _).alloc (by simp; omega) _

def nearB (n : Int) : Bool := decide (-1000 ≤ n) && decide (n ≤ 1000)

set_option maxHeartbeats 400000 in
theorem isNear_any (n : Int) (w : World) :
    Calls Try.prog 29 #[.int .i64 n] w fun e w' => e = .returned (.bool (nearB n)) ∧ w' = w := by
  unfold nearB
  by_cases h : -1000 ≤ n
  · go_enter Try.func29, Try.ntmps29
    go_wp2
    all_goals go_ret
    all_goals exact ⟨by simp [*], rfl⟩
  · go_enter Try.func29, Try.ntmps29
    go_wp2
    all_goals go_ret
    all_goals exact ⟨by simp; omega, rfl⟩

set_option maxHeartbeats 400000 in
theorem inBounds_any (x y : Int) (w : World) :
    Calls Try.prog 20 #[.agg #[.int .i64 x, .int .i64 y]] w fun e w' => e = .returned (.bool (nearB x && nearB y)) ∧ Below w.heap.size w w' := by
  cases h : nearB x
  · have hx := isNear_any x
    rw [h] at hx
    clear h
    go_enter Try.func20, Try.ntmps20
    go_wp2_with (go_at_call 29; refine (hx _).mono ?_; rintro e w' ⟨rfl, rfl⟩)
    go_ret
    exact ⟨by simp, (Below.refl _ _).alloc (Nat.le_refl _) _⟩
  · have hx := isNear_any x
    have hy := isNear_any y
    rw [h] at hx
    generalize nearB y = r at *
    clear h
    go_enter Try.func20, Try.ntmps20
    go_wp2_with fail
    refine (hx _).mono ?_
    rintro e w' ⟨rfl, rfl⟩
    go_wp2_with fail
    refine (hy _).mono ?_
    rintro e w' ⟨rfl, rfl⟩
    go_wp2_with fail
    go_ret
    exact ⟨by simp, (Below.refl _ _).alloc (Nat.le_refl _) _⟩

set_option maxHeartbeats 400000 in
theorem place_any (x y : Int) (w : World) :
    Calls Try.prog 19 #[.agg #[.int .i64 x, .int .i64 y]] w fun e w' => e = .returned (.complex .f64 (floatOfInt .f64 x) (floatOfInt .f64 y)) ∧ Below w.heap.size w w' := by
  go_enter Try.func19, Try.ntmps19
  go_wp2
  go_ret
  exact ⟨rfl, (Below.refl _ _).alloc (Nat.le_refl _) _⟩

end Go.Proofs.Ytdbebbbceeopaaa
