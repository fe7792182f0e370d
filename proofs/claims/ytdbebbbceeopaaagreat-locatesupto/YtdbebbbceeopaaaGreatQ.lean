import Derived.Test.YtdbebbbceeopaaaGreatP
import Derived.Test.YtdbebbbceeopaaaGreatJ
import Derived.Test.YtdbebbbceeopaaaGreatM
set_option linter.unusedSimpArgs false
namespace Go.Proofs.YtdbebbbceeopaaaGreat
open Go.RowKit

theorem allB_false' (px py : Nat → Int) (n k : Nat) (hk : k < n) (h : (!(nearB (px k) && nearB (py k))) = true) : allB px py n = false :=
  allB_false px py n k hk (by cases hx : (nearB (px k) && nearB (py k)) with
    | false => rfl
    | true => rw [hx] at h; cases h)

set_option maxRecDepth 100000 in
set_option maxHeartbeats 2000000 in
theorem check_any (px py : Nat → Int) (n qb qo cap : Nat) (w : World) (hp : Pts w qb qo n px py) (h3 : 3 ≤ n) (hn : n ≤ 40) :
    Calls Tryz.prog 49 #[.slice (some ⟨qb, qo, none⟩) n cap] w fun e w' => e = .returned (.int .i64 (refI px py n)) ∧ Below w.heap.size w w' := by
  have g3 : decide ((n : Int) < 3) = false := by simp; omega
  have g40 : decide ((40 : Int) < n) = false := by simp; omega
  have HP := hid hp
  clear hp
  go_enter Tryz.func49, Tryz.ntmps49
  go_wp2
  go_loopw [3] (fun i wr => ∃ k : Nat, k ≤ n ∧ i = .int .i64 k ∧ allB px py k = true ∧ Below w.heap.size w wr) (fun i _ => n - (intOf i).toNat)
  case atStart => exact ⟨0, Nat.zero_le _, rfl, rfl, Below.refl _ _⟩
  case round =>
    obtain ⟨k, hk, rfl, ha, hb⟩ := hrel
    have HB := hid hb
    have HA := hid ha
    clear hb ha
    by_cases hlt : k < n
    · have hpw := HP.out.below HB.out HP.out.lt
      have hx := hpw.x k hlt
      have hy := hpw.y k hlt
      have hlt' : (k : Int) < n := by omega
      have hc := far_any (px k) (py k)
      cases hr : (!(nearB (px k) && nearB (py k)))
      · rw [hr] at hc
        have HC := hid hc
        have HR := hid (show allB px py (k + 1) = true by rw [allB, HA.out]; simpa using hr)
        clear hpw hc hr
        go_wp2_with fail
        refine (HC.out _).mono ?_
        rintro e w' ⟨rfl, hb'⟩
        have HB' := hid (HB.out.trans (hb'.mono HB.out.size))
        clear hb'
        go_wp2_with fail
        go_roundw
        case rel => exact ⟨k + 1, by omega, by go_num, HR.out, HB'.out⟩
        case measure => simp [intOf]; omega
      · rw [hr] at hc
        have HC := hid hc
        have HR := hid (allB_false' px py n k hlt hr)
        clear hpw hc hr
        go_wp2_with fail
        refine (HC.out _).mono ?_
        rintro e w' ⟨rfl, hb'⟩
        have HB' := hid (HB.out.trans (hb'.mono HB.out.size))
        clear hb'
        go_wp2_with fail
        go_ret
        exact ⟨by unfold refI; rw [if_pos HR.out]; rfl, HB'.out⟩
    · have hkn : k = n := by omega
      subst hkn
      have HBD : Hid (Bds k px py) := by
        intro i hi
        have := (allB_iff px py k).1 HA.out i hi
        exact ⟨(near_iff _).1 this.1, (near_iff _).1 this.2⟩
      go_wp2
      go_loopw [5] (fun i wr2 => ∃ j : Nat, j ≤ k ∧ i = .int .i64 j ∧ twB px py j = false ∧ Below w.heap.size w wr2) (fun i _ => k - (intOf i).toNat)
      case atStart => exact ⟨0, Nat.zero_le _, rfl, rfl, HB.out⟩
      case round =>
        obtain ⟨j, hj, rfl, hT, hb2⟩ := hrel
        have HB2 := hid hb2
        have HT := hid hT
        clear hb2 hT
        by_cases hjk : j < k
        · have hjk' : (j : Int) < k := by omega
          have HPW := hid (HP.out.below HB2.out HP.out.lt)
          obtain ⟨W0, rfl⟩ : ∃ W0, W0 = wr := ⟨wr, rfl⟩
          go_wp2
          go_loopw [6] (fun i wr3 => ∃ l : Nat, l ≤ j ∧ i = .int .i64 l ∧ (∀ m, m < l → ¬ (px j = px m ∧ py j = py m)) ∧ ∃ q, wr3 = W0.drewN q) (fun i _ => j - (intOf i).toNat)
          case atStart => exact ⟨0, Nat.zero_le _, rfl, fun m hm => by omega, 0, rfl⟩
          case round =>
            obtain ⟨l, hl, rfl, hno, q, rfl⟩ := hrel
            have HNO := hid hno
            clear hno
            have HQ := hid (⟨q, rfl⟩ : ∃ q', W0.drewN q = W0.drewN q')
            have HPQ : Hid (Pts (W0.drewN q) qb qo k px py) := ⟨HPW.out.lt, HPW.out.x, HPW.out.y⟩
            have HBQ := hid (below_drewN HB2.out q)
            generalize W0.drewN q = wz at *
            by_cases hlj : l < j
            · have xj := HPQ.out.x j hjk
              have yj := HPQ.out.y j hjk
              have xl := HPQ.out.x l (by omega)
              have yl := HPQ.out.y l (by omega)
              have hlj' : (l : Int) < j := by omega
              have hlk' : (l : Int) < k := by omega
              have heq := eqPt.1 (px j, py j) (px l, py l)
              simp only [encPt] at heq
              by_cases hs : px j = px l ∧ py j = py l
              · have hb : (px j == px l && py j == py l) = true := by simp [hs]
                have HR := hid ((twB_iff px py k).2 ⟨j, hjk, (twiceAt_iff px py j).2 ⟨l, hlj, hs.1, hs.2⟩⟩)
                rw [hb] at heq
                clear hb hs
                generalize px j = a1 at *
                generalize py j = a2 at *
                generalize px l = a3 at *
                generalize py l = a4 at *
                go_wp2
                go_quiet (fail)
                go_wp2
                go_ret
                exact ⟨by unfold refI; rw [if_neg (by rw [HA.out]; simp), if_pos HR.out]; rfl, below_drewN HBQ.out _⟩
              · have hb : (px j == px l && py j == py l) = false := by
                  cases hx : (px j == px l && py j == py l) with
                  | false => rfl
                  | true => simp at hx; exact absurd hx hs
                have HR : Hid (∀ m, m < l + 1 → ¬ (px j = px m ∧ py j = py m)) := by
                  intro m hm
                  by_cases e : m = l
                  · subst e; exact hs
                  · exact HNO.out m (by omega)
                rw [hb] at heq
                clear hb hs
                go_wp2
                go_quiet (fail)
                go_wp2
                go_roundw
                case rel => exact ⟨l + 1, by omega, by go_num, HR.out, drew_more' HQ.out _⟩
                case measure => simp [intOf]; omega
            · have : l = j := by omega
              subst this
              have HR : Hid (twB px py (l + 1) = false) := by
                show _ = _
                rw [twB, HT.out]
                cases hx : twiceAt px py l with
                | false => rfl
                | true =>
                  obtain ⟨m, hm, e⟩ := (twiceAt_iff px py l).1 hx
                  exact absurd e (HNO.out m hm)
              go_wp2
              go_roundw
              case rel => exact ⟨l + 1, by omega, by go_num, HR.out, HBQ.out⟩
              case measure => simp [intOf]; omega
        · have hjn : j = k := by omega
          subst hjn
          go_wp2
          go_loopw [7] (fun i wr3 => ∃ p : Nat, 2 ≤ p ∧ p ≤ j ∧ i = .int .i64 p ∧ flatB px py (p - 2) = true ∧ Below w.heap.size w wr3) (fun i _ => j - (intOf i).toNat)
          case atStart => exact ⟨2, Nat.le_refl _, by omega, rfl, rfl, HB2.out⟩
          case round =>
            obtain ⟨p, hp2, hpj, rfl, hF, hb3⟩ := hrel
            have HB3 := hid hb3
            have HF := hid hF
            clear hb3 hF
            by_cases hlm : p < j
            · have hpw := HP.out.below HB3.out HP.out.lt
              have xa := hpw.x 0 (by omega)
              have ya := hpw.y 0 (by omega)
              have xb := hpw.x 1 (by omega)
              have yb := hpw.y 1 (by omega)
              have xk := hpw.x p hlm
              have yk := hpw.y p hlm
              have gl := hpw.lt
              simp only [Nat.zero_mul, Nat.add_zero, Nat.one_mul] at xa ya xb yb
              have K1 := hid (rturn_at HBD.out 0 1 p (by omega) (by omega) hlm)
              have hlm' : (p : Int) < j := by omega
              have z0 : (0 : Int) < j := by omega
              have z0' : 0 < j := by omega
              have z1 : (1 : Int) < j := by omega
              have z2 : (0 : Int) ≤ p := by omega
              have hpe : p - 2 + 2 = p := by omega
              have HPE := hid hpe
              clear hpw hpe
              by_cases ht : T px py 0 1 p = 0
              · have HR := hid (show flatB px py (p + 1 - 2) = true by rw [show p + 1 - 2 = (p - 2) + 1 by omega, flatB, HF.out, HPE.out, ht]; rfl)
                rw [ht] at K1
                clear ht
                go_wp2
                go_region_held3 (fun w' => w'.cell? ⟨qb, qo, none⟩ = some (.int .i64 (px 0)) ∧ w'.cell? ⟨qb, qo + 1, none⟩ = some (.int .i64 (py 0)) ∧ w'.cell? ⟨qb, qo + 2, none⟩ = some (.int .i64 (px 1)) ∧ w'.cell? ⟨qb, qo + 2 + 1, none⟩ = some (.int .i64 (py 1)) ∧ w'.cell? ⟨qb, qo + p * 2, none⟩ = some (.int .i64 (px p)) ∧ w'.cell? ⟨qb, qo + p * 2 + 1, none⟩ = some (.int .i64 (py p))) (go_keep) ((go_at_call 86; refine (K1.out _).mono ?_; rintro e w6 ⟨rfl, hb6⟩; have u1 := (hb6.cell (p := ⟨qb, qo, none⟩) gl).trans xa; have u2 := (hb6.cell (p := ⟨qb, qo + 1, none⟩) gl).trans ya; have u3 := (hb6.cell (p := ⟨qb, qo + 2, none⟩) gl).trans xb; have u4 := (hb6.cell (p := ⟨qb, qo + 2 + 1, none⟩) gl).trans yb; have u5 := (hb6.cell (p := ⟨qb, qo + p * 2, none⟩) gl).trans xk; have u6 := (hb6.cell (p := ⟨qb, qo + p * 2 + 1, none⟩) gl).trans yk; have HB6 := hid hb6; clear hb6))
                clear u1 u2 u3 u4 u5 u6 xa ya xb yb xk yk
                go_wp2
                go_roundw
                case rel => exact ⟨p + 1, by omega, by omega, by go_num, HR.out, HB3.out.drew.trans (HB6.out.mono HB3.out.size)⟩
                case measure => simp [intOf]; omega
              · have HR := hid (flatB_false px py (j - 2) (p - 2) (by omega) (by rw [HPE.out]; exact ht))
                have ht' : (T px py 0 1 p != 0) = true := by simpa using ht
                clear ht
                generalize T px py 0 1 p = t at *
                go_wp2
                go_region_held3 (fun w' => w'.cell? ⟨qb, qo, none⟩ = some (.int .i64 (px 0)) ∧ w'.cell? ⟨qb, qo + 1, none⟩ = some (.int .i64 (py 0)) ∧ w'.cell? ⟨qb, qo + 2, none⟩ = some (.int .i64 (px 1)) ∧ w'.cell? ⟨qb, qo + 2 + 1, none⟩ = some (.int .i64 (py 1)) ∧ w'.cell? ⟨qb, qo + p * 2, none⟩ = some (.int .i64 (px p)) ∧ w'.cell? ⟨qb, qo + p * 2 + 1, none⟩ = some (.int .i64 (py p))) (go_keep) ((go_at_call 86; refine (K1.out _).mono ?_; rintro e w6 ⟨rfl, hb6⟩; have u1 := (hb6.cell (p := ⟨qb, qo, none⟩) gl).trans xa; have u2 := (hb6.cell (p := ⟨qb, qo + 1, none⟩) gl).trans ya; have u3 := (hb6.cell (p := ⟨qb, qo + 2, none⟩) gl).trans xb; have u4 := (hb6.cell (p := ⟨qb, qo + 2 + 1, none⟩) gl).trans yb; have u5 := (hb6.cell (p := ⟨qb, qo + p * 2, none⟩) gl).trans xk; have u6 := (hb6.cell (p := ⟨qb, qo + p * 2 + 1, none⟩) gl).trans yk; have HB6 := hid hb6; clear hb6))
                clear u1 u2 u3 u4 u5 u6 xa ya xb yb xk yk
                go_wp2
                go_ret
                exact ⟨by unfold refI; rw [if_neg (by rw [HA.out]; simp), if_neg (by rw [HT.out]; simp), if_neg (by rw [HR.out]; simp)]; rfl, HB3.out.drew.trans (HB6.out.mono HB3.out.size)⟩
            · have : p = j := by omega
              subst this
              go_wp2
              go_ret
              exact ⟨by unfold refI; rw [if_neg (by rw [HA.out]; simp), if_neg (by rw [HT.out]; simp), if_pos HF.out]; rfl, HB3.out⟩
end Go.Proofs.YtdbebbbceeopaaaGreat
