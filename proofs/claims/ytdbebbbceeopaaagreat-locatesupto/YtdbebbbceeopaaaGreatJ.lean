import Derived.Test.YtdbebbbceeopaaaGreatF
import Derived.Test.YtdbebbbceeopaaaGreatH
import Derived.Test.YtdbebbbceeopaaaGreatI
namespace Go.Proofs.YtdbebbbceeopaaaGreat
open Go.RowKit
open Go.Sort (SortedIn)
open Flt (Is)

/-- Which of Hull's errors applies first (0: none), of 3 to 40 points. -/
def refI (px py : Nat → Int) (n : Nat) : Int :=
  if allB px py n = false then 2 else if twB px py n = true then 3 else if flatB px py (n - 2) = true then 4 else 0

theorem near_iff (n : Int) : nearB n = true ↔ -1000 ≤ n ∧ n ≤ 1000 := by simp [nearB]

set_option maxRecDepth 100000 in
set_option maxHeartbeats 1000000 in
theorem refusal_any (px py : Nat → Int) (n qb qo cap : Nat) (w : World) (hp : Pts w qb qo n px py) (h3 : 3 ≤ n) (hn : n ≤ 40) (hcap : n ≤ cap) :
    Calls Tryz.prog 33 #[.slice (some ⟨qb, qo, none⟩) n cap] w fun e w' => e = .returned (.int .i64 (refI px py n)) ∧ Below w.heap.size w w' := by
  have g3 : decide ((n : Int) < 3) = false := by simp; omega
  have g40 : decide ((40 : Int) < n) = false := by simp; omega
  have c1 := hid (allInBounds_any px py n qb qo cap w hp hn)
  have HP := hid hp
  clear hp
  unfold refI
  cases hA : allB px py n
  · rw [hA] at c1
    clear hA
    go_enter Tryz.func33, Tryz.ntmps33
    go_wp2_with fail
    refine c1.out.mono ?_
    rintro e w' ⟨rfl, hb⟩
    have HB := hid hb
    clear hb
    go_wp2_with fail
    go_ret
    exact ⟨rfl, HB.out⟩
  · rw [hA] at c1
    have HA := hid hA
    clear hA
    cases hT : twB px py n
    · obtain ⟨m, rfl⟩ : ∃ m, n = m + 2 := ⟨n - 2, by omega⟩
      rw [show m + 2 - 2 = m from rfl]
      cases hF : flatB px py m
      · go_enter Tryz.func33, Tryz.ntmps33
        go_wp2_with fail
        refine c1.out.mono ?_
        rintro e w1 ⟨rfl, hb1⟩
        have c2 := hid (hasTwice_any px py (m + 2) qb qo cap w1 (HP.out.below hb1 HP.out.lt) hn hcap)
        rw [hT] at c2
        have HB1 := hid hb1
        clear c1 hb1
        go_wp2_with fail
        refine c2.out.mono ?_
        rintro e w2 ⟨rfl, hb2⟩
        have hbd : ∀ i, i < m + 2 → (-1000 ≤ px i ∧ px i ≤ 1000) ∧ (-1000 ≤ py i ∧ py i ≤ 1000) := by
          intro i hi
          have := (allB_iff px py (m + 2)).1 HA.out i hi
          exact ⟨(near_iff _).1 this.1, (near_iff _).1 this.2⟩
        have hb02 : Below w.heap.size w w2 := HB1.out.trans (hb2.mono HB1.out.size)
        have c3 := hid (places_any px py (m + 2) qb qo cap w2 (HP.out.below hb02 HP.out.lt) hn hbd)
        have HB2 := hid hb02
        clear c2 hb2 hb02 HB1 hbd
        go_wp2_with fail
        refine c3.out.mono ?_
        rintro e w3 ⟨rfl, hb3, hp3⟩
        have c4 := hid (isFlat_any px py m w2.heap.size 0 (m + 2) w3 hp3 hn (by omega) (Nat.le_refl _))
        have hb03 : Below w.heap.size w w3 := HB2.out.trans (hb3.mono HB2.out.size)
        have HB3 := hid hb03
        clear c3 hb3 hp3 HB2 hb03
        rw [hF] at c4
        clear hF
        go_wp2_with fail
        refine c4.out.mono ?_
        rintro e w4 ⟨rfl, hb4⟩
        have HB4 := hid (HB3.out.trans (hb4.mono HB3.out.size))
        clear hb4
        go_wp2_with fail
        go_ret
        exact ⟨rfl, HB4.out⟩
      · go_enter Tryz.func33, Tryz.ntmps33
        go_wp2_with fail
        refine c1.out.mono ?_
        rintro e w1 ⟨rfl, hb1⟩
        have c2 := hid (hasTwice_any px py (m + 2) qb qo cap w1 (HP.out.below hb1 HP.out.lt) hn hcap)
        rw [hT] at c2
        have HB1 := hid hb1
        clear c1 hb1
        go_wp2_with fail
        refine c2.out.mono ?_
        rintro e w2 ⟨rfl, hb2⟩
        have hbd : ∀ i, i < m + 2 → (-1000 ≤ px i ∧ px i ≤ 1000) ∧ (-1000 ≤ py i ∧ py i ≤ 1000) := by
          intro i hi
          have := (allB_iff px py (m + 2)).1 HA.out i hi
          exact ⟨(near_iff _).1 this.1, (near_iff _).1 this.2⟩
        have hb02 : Below w.heap.size w w2 := HB1.out.trans (hb2.mono HB1.out.size)
        have c3 := hid (places_any px py (m + 2) qb qo cap w2 (HP.out.below hb02 HP.out.lt) hn hbd)
        have HB2 := hid hb02
        clear c2 hb2 hb02 HB1 hbd
        go_wp2_with fail
        refine c3.out.mono ?_
        rintro e w3 ⟨rfl, hb3, hp3⟩
        have c4 := hid (isFlat_any px py m w2.heap.size 0 (m + 2) w3 hp3 hn (by omega) (Nat.le_refl _))
        have hb03 : Below w.heap.size w w3 := HB2.out.trans (hb3.mono HB2.out.size)
        have HB3 := hid hb03
        clear c3 hb3 hp3 HB2 hb03
        rw [hF] at c4
        clear hF
        go_wp2_with fail
        refine c4.out.mono ?_
        rintro e w4 ⟨rfl, hb4⟩
        have HB4 := hid (HB3.out.trans (hb4.mono HB3.out.size))
        clear hb4
        go_wp2_with fail
        go_ret
        exact ⟨rfl, HB4.out⟩
    · go_enter Tryz.func33, Tryz.ntmps33
      go_wp2_with fail
      refine c1.out.mono ?_
      rintro e w1 ⟨rfl, hb1⟩
      have c2 := hid (hasTwice_any px py n qb qo cap w1 (HP.out.below hb1 HP.out.lt) hn hcap)
      rw [hT] at c2
      clear hT
      have HB1 := hid hb1
      clear c1 hb1
      go_wp2_with fail
      refine c2.out.mono ?_
      rintro e w2 ⟨rfl, hb2⟩
      have HB2 := hid (HB1.out.trans (hb2.mono HB1.out.size))
      clear c2 hb2
      go_wp2_with fail
      go_ret
      exact ⟨rfl, HB2.out⟩

set_option maxRecDepth 100000 in
set_option maxHeartbeats 1000000 in
/-- triskel.Hull, where no error applies. -/
theorem hull_ok (px py : Nat → Int) (n : Nat) [NeZero n] (qb qo cap : Nat) (w : World) (hp : Pts w qb qo n px py) (h3 : 3 ≤ n) (hn : n ≤ 40) (hcap : n ≤ cap) (hr : refI px py n = 0) :
    Calls Tryz.prog 21 #[.slice (some ⟨qb, qo, none⟩) n cap] w fun e w' => ∃ v, e = .returned (.tuple #[v, .int .i64 0]) ∧ Below w.heap.size w w' ∧
      ∃ d : Array (Fin n), d.size = n ∧ d.toList.Perm (List.finRange n) ∧ SortedIn (ltOf (cfI px py)) 0 n d ∧
        w'.ownsRow w.heap.size 3 1 v (hullOf (T px py) (nums d)).length ((hullOf (T px py) (nums d)).map encN) := by
  have c1 := refusal_any px py n qb qo cap w hp h3 hn hcap
  rw [hr] at c1
  have C1 := hid c1
  have HP := hid hp
  have hA : allB px py n = true := by
    cases h : allB px py n with
    | true => rfl
    | false => simp [refI, h] at hr
  have hbd : ∀ i, i < n → (-1000 ≤ px i ∧ px i ≤ 1000) ∧ (-1000 ≤ py i ∧ py i ≤ 1000) := by
    intro i hi
    have := (allB_iff px py n).1 hA i hi
    exact ⟨(near_iff _).1 this.1, (near_iff _).1 this.2⟩
  have HBD := hid hbd
  clear hp c1 hr hA hbd
  go_enter Tryz.func21, Tryz.ntmps21
  go_wp2_with fail
  refine C1.out.mono ?_
  rintro e w1 ⟨rfl, hb1⟩
  have c2 := hid (places_any px py n qb qo cap w1 (HP.out.below hb1 HP.out.lt) hn HBD.out)
  have HB1 := hid hb1
  clear C1 hb1
  go_wp2_with fail
  refine c2.out.mono ?_
  rintro e w2 ⟨rfl, hb2, hp2⟩
  have c3 := hid (corners_any px py n w1.heap.size 0 n w2 hp2 hn (by omega))
  have HB2 := hid (HB1.out.trans (hb2.mono HB1.out.size))
  clear c2 hb2 hp2 HB1
  go_wp2_with fail
  refine c3.out.mono ?_
  rintro e w3 ⟨v, rfl, hb3, d, hd, hperm, hsort, hown⟩
  have HB3 := hid (HB2.out.trans (hb3.mono HB2.out.size))
  have HR := hid (And.intro hd (And.intro hperm (And.intro hsort (owns_base hown HB2.out.size))))
  clear c3 hb3 hown HB2 hd hperm hsort
  go_wp2_with fail
  go_ret2
  exact ⟨v, rfl, HB3.out, d, HR.out⟩
end Go.Proofs.YtdbebbbceeopaaaGreat
