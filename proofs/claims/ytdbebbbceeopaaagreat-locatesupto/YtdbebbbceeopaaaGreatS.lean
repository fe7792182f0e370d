import Derived.Test.YtdbebbbceeopaaaGreatJ
set_option linter.unusedSimpArgs false
namespace Go.Proofs.YtdbebbbceeopaaaGreat
open Go.RowKit

set_option maxHeartbeats 1000000 in
theorem refusal_count (a : Option Addr) (n cap : Nat) (w : World) (h : n < 3 ∨ 40 < n) (hn : n ≤ 9223372036854775807) :
    Calls Tryz.prog 33 #[.slice a n cap] w fun e w' => e = .returned (.int .i64 1) ∧ w' = w := by
  by_cases h3 : n < 3
  · have d1 : decide ((n : Int) < 3) = true := by simp; omega
    go_enter Tryz.func33, Tryz.ntmps33
    go_wp2
    go_ret
    exact ⟨rfl, rfl⟩
  · have d1 : decide ((n : Int) < 3) = false := by simp; omega
    have d2 : decide ((40 : Int) < n) = true := by simp; omega
    go_enter Tryz.func33, Tryz.ntmps33
    go_wp2
    go_ret
    exact ⟨rfl, rfl⟩

set_option maxHeartbeats 1000000 in
theorem check_count (a : Option Addr) (n cap : Nat) (w : World) (h : n < 3 ∨ 40 < n) (hn : n ≤ 9223372036854775807) :
    Calls Tryz.prog 49 #[.slice a n cap] w fun e w' => e = .returned (.int .i64 1) ∧ w' = w := by
  by_cases h3 : n < 3
  · have d1 : decide ((n : Int) < 3) = true := by simp; omega
    go_enter Tryz.func49, Tryz.ntmps49
    go_wp2
    go_ret
    exact ⟨rfl, rfl⟩
  · have d1 : decide ((n : Int) < 3) = false := by simp; omega
    have d2 : decide ((40 : Int) < n) = true := by simp; omega
    go_enter Tryz.func49, Tryz.ntmps49
    go_wp2
    go_ret
    exact ⟨rfl, rfl⟩

set_option maxHeartbeats 1000000 in
theorem hull_err {arg : Value} {w : World} {x : Int} (hx : x ≠ 0) (hc : Calls Tryz.prog 33 #[arg] w fun e w' => e = .returned (.int .i64 x) ∧ Below w.heap.size w w') :
    Calls Tryz.prog 21 #[arg] w fun e w' => e = .returned (.tuple #[.slice none 0 0, .int .i64 x]) ∧ Below w.heap.size w w' := by
  have C := hid hc
  have d : (x != 0) = true := by simpa using hx
  clear hc hx
  go_enter Tryz.func21, Tryz.ntmps21
  go_wp2_with fail
  refine C.out.mono ?_
  rintro e w1 ⟨rfl, hb⟩
  have HB := hid hb
  clear hb
  go_wp2
  go_ret2
  exact ⟨rfl, HB.out⟩

set_option maxHeartbeats 1000000 in
theorem refHull_err {arg : Value} {w : World} {x : Int} (hx : x ≠ 0) (hc : Calls Tryz.prog 49 #[arg] w fun e w' => e = .returned (.int .i64 x) ∧ Below w.heap.size w w') :
    Calls Tryz.prog 46 #[arg] w fun e w' => e = .returned (.tuple #[.slice none 0 0, .int .i64 x]) ∧ Below w.heap.size w w' := by
  have C := hid hc
  have d : (x != 0) = true := by simpa using hx
  clear hc hx
  go_enter Tryz.func46, Tryz.ntmps46
  go_wp2_with fail
  refine C.out.mono ?_
  rintro e w1 ⟨rfl, hb⟩
  have HB := hid hb
  clear hb
  go_wp2
  go_ret2
  exact ⟨rfl, HB.out⟩

/-- A slice all of whose cells hold the mark m. -/
def Full (w : World) (v : Value) (m : Int) : Prop :=
  (∃ c, v = .slice none 0 c) ∨ ∃ g n c, v = .slice (some ⟨g, 0, none⟩) n c ∧ n ≤ 1000000 ∧ g < w.heap.size ∧ ∀ j, j < n → w.cell? ⟨g, j, none⟩ = some (.int .i64 m)

set_option maxHeartbeats 1000000 in
theorem fullInts_any (v : Value) (m : Int) (w : World) (h : Full w v m) :
    Calls Tryz.prog 56 #[v, .int .i64 m] w fun e w' => e = .returned (.bool true) ∧ w' = w := by
  rcases h with ⟨c, rfl⟩ | ⟨g, n, c, rfl, hn, hg, hc⟩
  · go_enter Tryz.func56, Tryz.ntmps56
    go_wp2
    refine wp_loop_rounds 1 ?_
    rw [rounds_succ]
    go_wp2
    go_ret
    exact ⟨rfl, rfl⟩
  · have HC := hid hc
    have dm : (m != m) = false := by simp
    clear hc
    go_enter Tryz.func56, Tryz.ntmps56
    go_wp2
    go_loop [5] (fun i => ∃ k : Nat, k ≤ n ∧ i = .int .i64 k) (fun i => n - (intOf i).toNat)
    case atStart => exact ⟨0, Nat.zero_le _, rfl⟩
    case round =>
      obtain ⟨k, hk, rfl⟩ := hrel
      by_cases hkn : k < n
      · have hck := HC.out k hkn
        have hkn' : (k : Int) < n := by omega
        go_wp2
        go_round
        case rel => exact ⟨k + 1, by omega, by go_num⟩
        case measure => simp [intOf]; omega
      · have : k = n := by omega
        subst this
        go_wp2
        go_ret
        exact ⟨rfl, rfl⟩
end Go.Proofs.YtdbebbbceeopaaaGreat
