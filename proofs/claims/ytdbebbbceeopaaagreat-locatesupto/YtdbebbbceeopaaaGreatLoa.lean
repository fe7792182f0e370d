import Derived.Test.YtdbebbbceeopaaaGreatG
import Derived.Deep.RegionHeld3
set_option linter.unusedSimpArgs false
namespace Go.Proofs.YtdbebbbceeopaaaGreat
open Go.RowKit
open Flt (Is)

theorem bstep {w W W' : World} (h : Hid (Below w.heap.size w W)) (hb : Below W.heap.size W W') : Hid (Below w.heap.size w W') := hid (h.out.trans (hb.mono h.out.size))

/-- The number of a point in bounds? -/
def usB (px py : Nat → Int) (n : Nat) (k : Int) : Bool := decide (0 ≤ k) && (decide (k < n) && (nearB (px k.toNat) && nearB (py k.toNat)))

theorem nearB_iff (n : Int) : nearB n = true ↔ -1000 ≤ n ∧ n ≤ 1000 := by
  unfold nearB; simp

theorem usB_true {px py : Nat → Int} {n : Nat} {k : Int} (h : usB px py n k = true) : ∃ m : Nat, k = m ∧ m < n ∧ (-1000 ≤ px m ∧ px m ≤ 1000) ∧ (-1000 ≤ py m ∧ py m ≤ 1000) := by
  unfold usB at h
  simp only [Bool.and_eq_true, decide_eq_true_eq, nearB_iff] at h
  obtain ⟨h1, h2, h3, h4⟩ := h
  exact ⟨k.toNat, by omega, by omega, h3, h4⟩

set_option maxHeartbeats 1000000 in
theorem usable_any (px py : Nat → Int) (n qb qo cap : Nat) (k : Int) (w : World) (hp : Pts w qb qo n px py) :
    Calls Tryz.prog 67 #[.slice (some ⟨qb, qo, none⟩) n cap, .int .i64 k] w fun e w' => e = .returned (.bool (usB px py n k)) ∧ Below w.heap.size w w' := by
  by_cases h0 : 0 ≤ k
  · by_cases h1 : k < n
    · obtain ⟨m, rfl⟩ : ∃ m : Nat, k = m := ⟨k.toNat, by omega⟩
      have hx := hp.x m (by omega)
      have hy := hp.y m (by omega)
      have e : usB px py n (m : Int) = (nearB (px m) && nearB (py m)) := by unfold usB; simp; omega
      rw [e]
      have HC := hid (inBounds_any (px m) (py m))
      generalize (nearB (px m) && nearB (py m)) = r at *
      clear hp e
      go_enter Tryz.func67, Tryz.ntmps67
      go_wp2_with fail
      refine (HC.out _).mono ?_
      rintro e w' ⟨rfl, hb⟩
      have HB := hid hb
      clear hb
      go_wp2_with fail
      go_ret
      exact ⟨rfl, HB.out⟩
    · have e : usB px py n k = false := by unfold usB; simp; intro _ h; omega
      rw [e]
      clear hp e
      go_enter Tryz.func67, Tryz.ntmps67
      go_wp2_with fail
      go_ret
      exact ⟨rfl, Below.refl _ _⟩
  · have e : usB px py n k = false := by unfold usB; simp; intro h; omega
    rw [e]
    clear hp e
    go_enter Tryz.func67, Tryz.ntmps67
    go_wp2_with fail
    go_ret
    exact ⟨rfl, Below.refl _ _⟩

/-- Does the point (x, y), which is in bounds, lie in a triangle that is not left out? -/
def liesB (px py : Nat → Int) (n : Nat) (x y : Int) (t : Int × Int × Int) : Bool :=
  (usB px py n t.1 && (usB px py n t.2.1 && usB px py n t.2.2)) &&
    (decide (0 < tw (px t.1.toNat) (py t.1.toNat) (px t.2.1.toNat) (py t.2.1.toNat) (px t.2.2.toNat) (py t.2.2.toNat)) &&
      (decide (0 ≤ tw (px t.1.toNat) (py t.1.toNat) (px t.2.1.toNat) (py t.2.1.toNat) x y) &&
        (decide (0 ≤ tw (px t.2.1.toNat) (py t.2.1.toNat) (px t.2.2.toNat) (py t.2.2.toNat) x y) &&
          decide (0 ≤ tw (px t.2.2.toNat) (py t.2.2.toNat) (px t.1.toNat) (py t.1.toNat) x y))))

theorem geq_zero {r : Nat} {v : Int} (h : Is r v) : (FloatKind.f64.format.order r 0 == some Ordering.gt || FloatKind.f64.format.order r 0 == some Ordering.eq) = decide (0 ≤ v) := by
  rw [h.order is_zero]
  by_cases h1 : 0 < v
  · have h3 : 0 ≤ v := by omega
    simp [Int.compare_eq_gt.2 h1, h3]
  · by_cases h2 : v < 0
    · have h3 : ¬ 0 ≤ v := by omega
      simp [Int.compare_eq_lt.2 h2, h3]
    · have : v = 0 := by omega
      subst this; simp

theorem place_fl : ∃ fl : Int → Nat, (∀ z, -1000 ≤ z ∧ z ≤ 1000 → Is (fl z) z) ∧ ∀ (x y : Int) (w : World), Calls Tryz.prog 65 #[.agg #[.int .i64 x, .int .i64 y]] w fun e w' => e = .returned (.complex .f64 (fl x) (fl y)) ∧ Below w.heap.size w w' :=
  ⟨floatOfInt .f64, fun z h => Flt.Is.ofInt (by omega) (by omega), fun x y w => place_any x y w⟩

/-- Where liesIn keeps its triangle and its point. -/
def Inn (w W : World) (b0 : Nat) (ta tb tc x y : Int) : Prop :=
  Below w.heap.size w W ∧ b0 + 1 < W.heap.size ∧ W.cell? ⟨b0, 0, none⟩ = some (.int .i64 ta) ∧ W.cell? ⟨b0, 1, none⟩ = some (.int .i64 tb) ∧ W.cell? ⟨b0, 2, none⟩ = some (.int .i64 tc) ∧
    W.cell? ⟨b0 + 1, 0, none⟩ = some (.int .i64 x) ∧ W.cell? ⟨b0 + 1, 1, none⟩ = some (.int .i64 y)

theorem Inn.step {w W W' : World} {b0 : Nat} {ta tb tc x y : Int} (h : Inn w W b0 ta tb tc x y) (hb : Below W.heap.size W W') : Inn w W' b0 ta tb tc x y := by
  obtain ⟨h1, h2, h3, h4, h5, h6, h7⟩ := h
  exact ⟨h1.trans (hb.mono h1.size), Nat.lt_of_lt_of_le h2 hb.size, (hb.cell (by show b0 < _; omega)).trans h3, (hb.cell (by show b0 < _; omega)).trans h4, (hb.cell (by show b0 < _; omega)).trans h5,
    (hb.cell (by show b0 + 1 < _; omega)).trans h6, (hb.cell (by show b0 + 1 < _; omega)).trans h7⟩

theorem inn_new (w : World) (ta tb tc x y : Int) : Inn w ((w.alloc (.cells #[.int .i64 ta, .int .i64 tb, .int .i64 tc] 46)).alloc (.cells #[.int .i64 x, .int .i64 y] 35)) w.heap.size ta tb tc x y := by
  refine ⟨((Below.refl _ _).alloc (Nat.le_refl _) _).alloc (by simp) _, by simp, ?_, ?_, ?_, ?_, ?_⟩
  · rw [World.cell?_alloc_past _ _ _ (by simp), World.cell?_alloc_at _ _ _ _ (by simp)]; rfl
  · rw [World.cell?_alloc_past _ _ _ (by simp), World.cell?_alloc_at _ _ _ _ (by simp)]; rfl
  · rw [World.cell?_alloc_past _ _ _ (by simp), World.cell?_alloc_at _ _ _ _ (by simp)]; rfl
  · rw [World.cell?_alloc_at _ _ _ _ (by simp)]; rfl
  · rw [World.cell?_alloc_at _ _ _ _ (by simp)]; rfl

set_option maxRecDepth 100000 in
set_option maxHeartbeats 8000000 in
theorem liesIn_any (px py : Nat → Int) (n qb qo cap : Nat) (ta tb tc x y : Int) (w : World) (hp : Pts w qb qo n px py) (X : -1000 ≤ x ∧ x ≤ 1000) (Y : -1000 ≤ y ∧ y ≤ 1000) :
    Calls Tryz.prog 39 #[.slice (some ⟨qb, qo, none⟩) n cap, .agg #[.int .i64 ta, .int .i64 tb, .int .i64 tc], .agg #[.int .i64 x, .int .i64 y]] w fun e w' => e = .returned (.bool (liesB px py n x y (ta, tb, tc))) ∧ Below w.heap.size w w' := by
  have HP := hid hp
  have HU := hid (fun k W (h : Below w.heap.size w W) => usable_any px py n qb qo cap k W (hp.below h hp.lt))
  have I0 := hid (inn_new w ta tb tc x y)
  clear hp
  cases ua : usB px py n ta with
  | false =>
    have e : liesB px py n x y (ta, tb, tc) = false := by simp [liesB, ua]
    rw [e]
    clear e
    have UA := hid ua
    clear ua
    go_enter Tryz.func39, Tryz.ntmps39
    go_wp2_with fail
    refine (HU.out ta _ I0.out.1).mono ?_
    rintro e W2 ⟨rfl, hb⟩
    have I2 := hid (I0.out.step hb)
    rw [UA.out]
    clear hb
    go_wp2_with fail
    go_ret
    exact ⟨rfl, I2.out.1⟩
  | true =>
    cases ub : usB px py n tb with
    | false =>
      have e : liesB px py n x y (ta, tb, tc) = false := by simp [liesB, ub]
      rw [e]
      clear e
      have UA := hid ua
      have UB := hid ub
      clear ua ub
      go_enter Tryz.func39, Tryz.ntmps39
      go_wp2_with fail
      refine (HU.out ta _ I0.out.1).mono ?_
      rintro e W2 ⟨rfl, hb⟩
      have I2 := hid (I0.out.step hb)
      rw [UA.out]
      have c1 := I2.out.2.2.2.1
      clear hb
      go_wp2_with fail
      refine (HU.out tb _ I2.out.1).mono ?_
      rintro e W3 ⟨rfl, hb⟩
      have I3 := hid (I2.out.step hb)
      rw [UB.out]
      clear hb
      go_wp2_with fail
      go_ret
      exact ⟨rfl, I3.out.1⟩
    | true =>
      cases uc : usB px py n tc with
      | false =>
        have e : liesB px py n x y (ta, tb, tc) = false := by simp [liesB, uc]
        rw [e]
        clear e
        have UA := hid ua
        have UB := hid ub
        have UC := hid uc
        clear ua ub uc
        go_enter Tryz.func39, Tryz.ntmps39
        go_wp2_with fail
        refine (HU.out ta _ I0.out.1).mono ?_
        rintro e W2 ⟨rfl, hb⟩
        have I2 := hid (I0.out.step hb)
        rw [UA.out]
        have c1 := I2.out.2.2.2.1
        clear hb
        go_wp2_with fail
        refine (HU.out tb _ I2.out.1).mono ?_
        rintro e W3 ⟨rfl, hb⟩
        have I3 := hid (I2.out.step hb)
        rw [UB.out]
        have c2 := I3.out.2.2.2.2.1
        clear hb c1
        go_wp2_with fail
        refine (HU.out tc _ I3.out.1).mono ?_
        rintro e W4 ⟨rfl, hb⟩
        have I4 := hid (I3.out.step hb)
        rw [UC.out]
        clear hb c2
        go_wp2_with fail
        go_ret
        exact ⟨rfl, I4.out.1⟩
      | true =>
        obtain ⟨a, rfl, ha, ax, ay⟩ := usB_true ua
        obtain ⟨b, rfl, hb, bx, bya⟩ := usB_true ub
        obtain ⟨c, rfl, hc, cx, cy⟩ := usB_true uc
        obtain ⟨fl, hfl, PL⟩ := place_fl
        obtain ⟨t1, t1', K1⟩ := turn_any (fl (px a)) (fl (py a)) (fl (px b)) (fl (py b)) (fl (px c)) (fl (py c)) _ _ _ _ _ _ (hfl _ ax) (hfl _ ay) (hfl _ bx) (hfl _ bya) (hfl _ cx) (hfl _ cy) ax ay bx bya cx cy
        obtain ⟨t2, t2', K2⟩ := turn_any (fl (px a)) (fl (py a)) (fl (px b)) (fl (py b)) (fl x) (fl y) _ _ _ _ _ _ (hfl _ ax) (hfl _ ay) (hfl _ bx) (hfl _ bya) (hfl _ X) (hfl _ Y) ax ay bx bya X Y
        obtain ⟨t3, t3', K3⟩ := turn_any (fl (px b)) (fl (py b)) (fl (px c)) (fl (py c)) (fl x) (fl y) _ _ _ _ _ _ (hfl _ bx) (hfl _ bya) (hfl _ cx) (hfl _ cy) (hfl _ X) (hfl _ Y) bx bya cx cy X Y
        obtain ⟨t4, t4', K4⟩ := turn_any (fl (px c)) (fl (py c)) (fl (px a)) (fl (py a)) (fl x) (fl y) _ _ _ _ _ _ (hfl _ cx) (hfl _ cy) (hfl _ ax) (hfl _ ay) (hfl _ X) (hfl _ Y) cx cy ax ay X Y
        have g1 := gtr_zero t1'
        have g2 := geq_zero t2'
        have g3 := geq_zero t3'
        have g4 := geq_zero t4'
        have UA := hid ua
        have UB := hid ub
        have UC := hid uc
        have HPL := hid PL
        have HK1 := hid K1
        have HK2 := hid K2
        have HK3 := hid K3
        have HK4 := hid K4
        have e : liesB px py n x y (a, b, c) = (decide (0 < tw (px a) (py a) (px b) (py b) (px c) (py c)) && (decide (0 ≤ tw (px a) (py a) (px b) (py b) x y) && (decide (0 ≤ tw (px b) (py b) (px c) (py c) x y) && decide (0 ≤ tw (px c) (py c) (px a) (py a) x y)))) := by
          simp [liesB, ua, ub, uc]
        rw [e]
        clear e PL hfl K1 K2 K3 K4 t1' t2' t3' t4' ua ub uc ax ay bx bya cx cy X Y
        generalize decide (0 < tw (px a) (py a) (px b) (py b) (px c) (py c)) = d1 at *
        generalize decide (0 ≤ tw (px a) (py a) (px b) (py b) x y) = d2 at *
        generalize decide (0 ≤ tw (px b) (py b) (px c) (py c) x y) = d3 at *
        generalize decide (0 ≤ tw (px c) (py c) (px a) (py a) x y) = d4 at *
        have ha' : (a : Int) < n := by omega
        have hb' : (b : Int) < n := by omega
        have hc' : (c : Int) < n := by omega
        have za : (0 : Int) ≤ (a : Int) := by omega
        have zb : (0 : Int) ≤ (b : Int) := by omega
        have zc : (0 : Int) ≤ (c : Int) := by omega
        go_enter Tryz.func39, Tryz.ntmps39
        go_wp2_with fail
        refine (HU.out a _ I0.out.1).mono ?_
        rintro e W2 ⟨rfl, hb⟩
        have I2 := hid (I0.out.step hb)
        rw [UA.out]
        have c1 := I2.out.2.2.2.1
        clear hb
        go_wp2_with fail
        refine (HU.out b _ I2.out.1).mono ?_
        rintro e W3 ⟨rfl, hb⟩
        have I3 := hid (I2.out.step hb)
        rw [UB.out]
        have c2 := I3.out.2.2.2.2.1
        clear hb c1
        go_wp2_with fail
        refine (HU.out c _ I3.out.1).mono ?_
        rintro e W4 ⟨rfl, hb⟩
        have I4 := hid (I3.out.step hb)
        rw [UC.out]
        clear hb c2 I2 I3
        have hq4 := HP.out.below I4.out.1 HP.out.lt
        have xa := hq4.x a ha
        have ya := hq4.y a ha
        have xb := hq4.x b hb
        have yb := hq4.y b hb
        have xc := hq4.x c hc
        have yc := hq4.y c hc
        have ca := I4.out.2.2.1
        have cb := I4.out.2.2.2.1
        have cc := I4.out.2.2.2.2.1
        have I4d : Hid (Inn w W4.drew w.heap.size a b c x y) := hid (I4.out.step (Below.refl _ _).drew)
        clear hq4 I0 HU
        go_wp2_with fail
        go_region_held3 (fun w' => w'.cell? ⟨w.heap.size, 0, none⟩ = some (.int .i64 a) ∧ w'.cell? ⟨w.heap.size, 1, none⟩ = some (.int .i64 b) ∧ w'.cell? ⟨w.heap.size, 2, none⟩ = some (.int .i64 c) ∧ w'.cell? ⟨qb, qo + a * 2, none⟩ = some (.int .i64 (px a)) ∧ w'.cell? ⟨qb, qo + a * 2 + 1, none⟩ = some (.int .i64 (py a)) ∧ w'.cell? ⟨qb, qo + b * 2, none⟩ = some (.int .i64 (px b)) ∧ w'.cell? ⟨qb, qo + b * 2 + 1, none⟩ = some (.int .i64 (py b)) ∧ w'.cell? ⟨qb, qo + c * 2, none⟩ = some (.int .i64 (px c)) ∧ w'.cell? ⟨qb, qo + c * 2 + 1, none⟩ = some (.int .i64 (py c))) (go_keep)
          ((go_at_call 65; refine (HPL.out _ _ _).mono ?_; rintro e w6 ⟨rfl, hb6⟩; have J6 : Hid (Inn w w6 w.heap.size a b c x y) := hid (Inn.step (Hid.out (by assumption)) hb6); have hq6 := HP.out.below J6.out.1 HP.out.lt; have u1 := hq6.x a ha; have u2 := hq6.y a ha; have u3 := hq6.x b hb; have u4 := hq6.y b hb; have u5 := hq6.x c hc; have u6 := hq6.y c hc; have v1 := J6.out.2.2.1; have v2 := J6.out.2.2.2.1; have v3 := J6.out.2.2.2.2.1; clear hq6 hb6))
        have x0 := J6.out.2.2.2.2.2.1
        have y0 := J6.out.2.2.2.2.2.2
        clear u1 u2 u3 u4 u5 u6 v1 v2 v3 xa ya xb yb xc yc ca cb cc
        go_wp2_with fail
        refine (HPL.out _ _ _).mono ?_
        rintro e w7 ⟨rfl, hb7⟩
        have J7 := hid (J6.out.step hb7)
        clear hb7 x0 y0 ha' hb' hc' za zb zc
        go_wp2_with fail
        refine (HK1.out _).mono ?_
        rintro e w8 ⟨rfl, rfl⟩
        cases d1 with
        | false =>
          go_wp2_with fail
          go_ret
          exact ⟨rfl, J7.out.1⟩
        | true =>
          go_wp2_with fail
          refine (HK2.out _).mono ?_
          rintro e w9 ⟨rfl, rfl⟩
          cases d2 with
          | false =>
            go_wp2_with fail
            go_ret
            exact ⟨rfl, J7.out.1⟩
          | true =>
            go_wp2_with fail
            refine (HK3.out _).mono ?_
            rintro e w10 ⟨rfl, rfl⟩
            cases d3 with
            | false =>
              go_wp2_with fail
              go_ret
              exact ⟨rfl, J7.out.1⟩
            | true =>
              go_wp2_with fail
              refine (HK4.out _).mono ?_
              rintro e w11 ⟨rfl, rfl⟩
              go_wp2_with fail
              go_ret
              exact ⟨rfl, J7.out.1⟩
end Go.Proofs.YtdbebbbceeopaaaGreat
