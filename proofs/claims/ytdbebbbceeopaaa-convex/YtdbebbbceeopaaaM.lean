import Derived.Test.YtdbebbbceeopaaaG
namespace Go.Proofs.Ytdbebbbceeopaaa
open Go.RowKit

theorem drew_more' {W wq : World} (h : ∃ q', wq = W.drewN q') (n : Nat) : ∃ q, wq.drewN n = W.drewN q := by
  obtain ⟨q', rfl⟩ := h
  exact ⟨_, drewN_drewN _ _ _⟩

set_option maxRecDepth 100000 in
set_option maxHeartbeats 1000000 in
theorem known_any (g len cap n : Nat) (h : Nat → Nat) (w : World) (h3 : 3 ≤ len) (hlen : len ≤ 100) (hcell : ∀ j, j < len → w.cell? ⟨g, j, none⟩ = some (.int .i64 (h j : Nat))) (hlt : ∀ j, j < len → h j < n) (hinj : ∀ i j, i < j → j < len → h i ≠ h j) :
    Calls Try.prog 6 #[.slice (some ⟨g, 0, none⟩) len cap, .int .i64 n] w fun e w' => e = .returned (.bool true) ∧ ∃ q, w' = w.drewN q := by
  have HC := hid hcell
  have HL := hid hlt
  have HI := hid hinj
  clear hcell hlt hinj
  go_enter Try.func6, Try.ntmps6
  go_wp2
  go_loopw [5] (fun i wr => ∃ k : Nat, k ≤ len ∧ i = .int .i64 k ∧ ∃ q, wr = w.drewN q) (fun i _ => len - (intOf i).toNat)
  case atStart => exact ⟨0, Nat.zero_le _, rfl, 0, rfl⟩
  case round =>
    obtain ⟨k, hk, rfl, q, rfl⟩ := hrel
    by_cases hkl : k < len
    · have hc : (w.drewN q).cell? ⟨g, k, none⟩ = some (.int .i64 (h k : Nat)) := HC.out k hkl
      have hln := HL.out k hkl
      have hd1 : decide (((h k : Nat) : Int) < 0) = false := by simp
      have hd2 : decide ((n : Int) ≤ ((h k : Nat) : Int)) = false := by simp; omega
      have hk' : (k : Int) < len := by omega
      have HQ := hid (⟨q, rfl⟩ : ∃ q', w.drewN q = w.drewN q')
      have HCQ : Hid (∀ q' j, j < len → ((w.drewN q).drewN q').cell? ⟨g, j, none⟩ = some (.int .i64 (h j : Nat))) := fun q' j hj => HC.out j hj
      generalize w.drewN q = wq at *
      go_wp2
      go_loopw [6] (fun kk w2 => ∃ j : Nat, j ≤ k ∧ kk = .int .i64 j ∧ ∃ q, w2 = wq.drewN q) (fun kk _ => k - (intOf kk).toNat)
      case atStart => exact ⟨0, Nat.zero_le _, rfl, 0, rfl⟩
      case round =>
        obtain ⟨j, hj, rfl, q2, rfl⟩ := hrel
        have HQ2 := hid (⟨q2, rfl⟩ : ∃ q', wq.drewN q2 = wq.drewN q')
        have ck := HCQ.out q2 k hkl
        have cj := fun hjl : j < len => HCQ.out q2 j hjl
        generalize wq.drewN q2 = wz at *
        by_cases hjk : j < k
        · have cj' := cj (by omega)
          have hne : (((h j : Nat) : Int) == ((h k : Nat) : Int)) = false := by
            have := HI.out j k hjk hkl
            rw [beq_eq_false_iff_ne]; omega
          have hjk' : (j : Int) < k := by omega
          have hjl' : (j : Int) < len := by omega
          clear cj hc
          generalize h j = x at *
          generalize h k = y at *
          go_wp2
          go_quiet (fail)
          go_wp2
          go_roundw
          case rel => exact ⟨j + 1, by omega, by go_num, drew_more' HQ2.out _⟩
          case measure => simp [intOf]; omega
        · have : j = k := by omega
          subst this
          clear cj hc ck
          go_wp2
          go_roundw
          case rel => exact ⟨j + 1, by omega, by go_num, by obtain ⟨q', e⟩ := HQ2.out; rw [e]; exact drew_more' HQ.out _⟩
          case measure => simp [intOf]; omega
    · have : k = len := by omega
      subst this
      have hge : decide ((3 : Int) ≤ (k : Int)) = true := by simp; omega
      go_wp2
      go_ret
      exact ⟨rfl, q, rfl⟩
end Go.Proofs.Ytdbebbbceeopaaa
