import Derived.Test.YtdbebbbceeopaaaGreatG
namespace Go.Proofs.YtdbebbbceeopaaaGreat
open Go.RowKit
open Flt (Is)

/-- Do the points 2 .. k + 1 lie on the line through the first two? -/
def flatB (px py : Nat → Int) : Nat → Bool
  | 0 => true
  | k + 1 => flatB px py k && decide (T px py 0 1 (k + 2) = 0)

theorem flatB_iff (px py : Nat → Int) (n : Nat) : flatB px py n = true ↔ ∀ i, i < n → T px py 0 1 (i + 2) = 0 := by
  induction n with
  | zero => simp [flatB]
  | succ n ih =>
    simp only [flatB, Bool.and_eq_true, ih, decide_eq_true_eq]
    constructor
    · rintro ⟨h1, h2⟩ i hi
      by_cases e : i = n
      · subst e; exact h2
      · exact h1 i (by omega)
    · intro h
      exact ⟨fun i hi => h i (by omega), h n (by omega)⟩

theorem flatB_false (px py : Nat → Int) (n k : Nat) (hk : k < n) (h : ¬ T px py 0 1 (k + 2) = 0) : flatB px py n = false := by
  cases h' : flatB px py n with
  | false => rfl
  | true => exact absurd ((flatB_iff px py n).1 h' k hk) h

set_option maxRecDepth 100000 in
set_option maxHeartbeats 1000000 in
theorem isFlat_any (px py : Nat → Int) (m pb po cap : Nat) (w : World) (hp : Plc w pb po (m + 2) px py) (hn : m + 2 ≤ 40) (hm : 0 < m) (hcap : m + 2 ≤ cap) :
    Calls Tryz.prog 60 #[.slice (some ⟨pb, po, none⟩) (m + 2 : Nat) cap] w fun e w' => e = .returned (.bool (flatB px py m)) ∧ Below w.heap.size w w' := by
  have HP := hid hp
  have h2 : (2 : Int) ≤ (m : Int) + 2 := by omega
  have h3 : ¬ cap = 2 := by omega
  clear hp
  go_enter Tryz.func60, Tryz.ntmps60
  go_wp2
  go_loopw [8] (fun i wr => ∃ k : Nat, k ≤ m ∧ i = .int .i64 k ∧ flatB px py k = true ∧ Below w.heap.size w wr) (fun i _ => m - (intOf i).toNat)
  case atStart => exact ⟨0, Nat.zero_le _, rfl, rfl, Below.refl _ _⟩
  case round =>
    obtain ⟨k, hk, rfl, ha, hb⟩ := hrel
    have HB := hid hb
    have HA := hid ha
    clear hb ha
    by_cases hlt : k < m
    · have hpw := HP.out.below HB.out HP.out.lt
      obtain ⟨r0, i0, c0, a0, a0'⟩ := hpw.cell 0 (by omega)
      obtain ⟨r1, i1, c1, a1, a1'⟩ := hpw.cell 1 (by omega)
      obtain ⟨rk, ik, ck, ak, ak'⟩ := hpw.cell (k + 2) (by omega)
      obtain ⟨b0, b0'⟩ := hpw.bd 0 (by omega)
      obtain ⟨b1, b1'⟩ := hpw.bd 1 (by omega)
      obtain ⟨bk, bk'⟩ := hpw.bd (k + 2) (by omega)
      obtain ⟨r, hr, hc⟩ := turn_any r0 i0 r1 i1 rk ik _ _ _ _ _ _ a0 a0' a1 a1' ak ak' b0 b0' b1 b1' bk bk'
      have hq := neq_zero hr
      rw [show tw (px 0) (py 0) (px 1) (py 1) (px (k + 2)) (py (k + 2)) = T px py 0 1 (k + 2) from rfl] at hq
      rw [Nat.add_zero] at c0
      have ck' : wr.cell? ⟨pb, po + 2 + k, none⟩ = some (.complex .f64 rk ik) := by rw [show po + 2 + k = po + (k + 2) by omega]; exact ck
      have HC := hid hc
      have hlt' : (k : Int) < m := by omega
      clear hc hr a0 a0' a1 a1' ak ak' b0 b0' b1 b1' bk bk' hpw ck
      by_cases ht : T px py 0 1 (k + 2) = 0
      · have hq' : (FloatKind.f64.format.order r 0 != some Ordering.eq) = false := by rw [hq]; simp [ht]
        have HT := hid ht
        clear ht hq
        go_wp2
        go_quiet ((go_at_call 68; exact Calls.quiet_of_same (HC.out _)))
        go_wp2
        go_roundw
        case rel => exact ⟨k + 1, by omega, by go_num, by rw [flatB, HA.out, HT.out]; rfl, below_drewN HB.out _⟩
        case measure => simp [intOf]; omega
      · have hq' : (FloatKind.f64.format.order r 0 != some Ordering.eq) = true := by rw [hq]; simp [ht]
        have HT := hid ht
        clear ht hq
        go_wp2
        go_quiet ((go_at_call 68; exact Calls.quiet_of_same (HC.out _)))
        go_wp2
        go_ret
        exact ⟨by rw [flatB_false _ _ _ k hlt HT.out]; rfl, below_drewN HB.out _⟩
    · have : k = m := by omega
      subst this
      go_wp2
      go_ret
      exact ⟨by rw [HA.out]; rfl, HB.out⟩

end Go.Proofs.YtdbebbbceeopaaaGreat
