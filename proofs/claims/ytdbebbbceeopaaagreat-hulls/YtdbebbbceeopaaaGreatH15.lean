import Derived.Test.YtdbebbbceeopaaaGreatH11
import Derived.Deep.RegionHeld3
import Derived.Test.YtdbebbbceeopaaaGreatH9
import Derived.Test.YtdbebbbceeopaaaGreatH14
set_option linter.unusedSimpArgs false
namespace Go.Proofs.YtdbebbbceeopaaaGreat
open Go.RowKit
open Flt (Is)

theorem bstep {w W W' : World} (h : Hid (Below w.heap.size w W)) (hb : Below W.heap.size W W') : Hid (Below w.heap.size w W') := hid (h.out.trans (hb.mono h.out.size))

/-- The number of a point in bounds? -/
def usB (px py : Nat → Int) (n : Nat) (k : Int) : Bool := decide (0 ≤ k) && (decide (k < n) && (nearB (px k.toNat) && nearB (py k.toNat)))

theorem nearB_iff (n : Int) : nearB n = true ↔ -1000 ≤ n ∧ n ≤ 1000 := by
  unfold nearB; simp

theorem usB_true {px py : Nat → Int} {n : Nat} {k : Int} (h : usB px py n k = true) : ∃ m : Nat, k = m ∧ m < n ∧ (-1000 ≤ px m ∧ px m ≤ 1000) ∧ (-1000 ≤ py m ∧ py m ≤ 1000) := by
  unfold usB at h
  simp only [Bool.and_eq_true, decide_eq_true_eq, nearB_iff] at h
  obtain ⟨h1, h2, h3, h4⟩ := h
  exact ⟨k.toNat, by omega, by omega, h3, h4⟩

set_option maxHeartbeats 1000000 in
theorem usable_any (px py : Nat → Int) (n qb qo cap : Nat) (k : Int) (w : World) (hp : Pts w qb qo n px py) :
    Calls Tryz.prog 67 #[.slice (some ⟨qb, qo, none⟩) n cap, .int .i64 k] w fun e w' => e = .returned (.bool (usB px py n k)) ∧ Below w.heap.size w w' := by
  by_cases h0 : 0 ≤ k
  · by_cases h1 : k < n
    · obtain ⟨m, rfl⟩ : ∃ m : Nat, k = m := ⟨k.toNat, by omega⟩
      have hx := hp.x m (by omega)
      have hy := hp.y m (by omega)
      have e : usB px py n (m : Int) = (nearB (px m) && nearB (py m)) := by unfold usB; simp; omega
      rw [e]
      have HC := hid (inBounds_any (px m) (py m))
      generalize (nearB (px m) && nearB (py m)) = r at *
      clear hp e
      go_enter Tryz.func67, Tryz.ntmps67
      go_wp2_with fail
      refine (HC.out _).mono ?_
      rintro e w' ⟨rfl, hb⟩
      have HB := hid hb
      clear hb
      go_wp2_with fail
      go_ret
      exact ⟨rfl, HB.out⟩
    · have e : usB px py n k = false := by unfold usB; simp; intro _ h; omega
      rw [e]
      clear hp e
      go_enter Tryz.func67, Tryz.ntmps67
      go_wp2_with fail
      go_ret
      exact ⟨rfl, Below.refl _ _⟩
  · have e : usB px py n k = false := by unfold usB; simp; intro h; omega
    rw [e]
    clear hp e
    go_enter Tryz.func67, Tryz.ntmps67
    go_wp2_with fail
    go_ret
    exact ⟨rfl, Below.refl _ _⟩

/-- Does the point (x, y), which is in bounds, lie in a triangle that is not left out? -/
def liesB (px py : Nat → Int) (n : Nat) (x y : Int) (t : Int × Int × Int) : Bool :=
  (usB px py n t.1 && (usB px py n t.2.1 && usB px py n t.2.2)) &&
    (decide (0 < tw (px t.1.toNat) (py t.1.toNat) (px t.2.1.toNat) (py t.2.1.toNat) (px t.2.2.toNat) (py t.2.2.toNat)) &&
      (decide (0 ≤ tw (px t.1.toNat) (py t.1.toNat) (px t.2.1.toNat) (py t.2.1.toNat) x y) &&
        (decide (0 ≤ tw (px t.2.1.toNat) (py t.2.1.toNat) (px t.2.2.toNat) (py t.2.2.toNat) x y) &&
          decide (0 ≤ tw (px t.2.2.toNat) (py t.2.2.toNat) (px t.1.toNat) (py t.1.toNat) x y))))

theorem geq_zero {r : Nat} {v : Int} (h : Is r v) : (FloatKind.f64.format.order r 0 == some Ordering.gt || FloatKind.f64.format.order r 0 == some Ordering.eq) = decide (0 ≤ v) := by
  rw [h.order is_zero]
  by_cases h1 : 0 < v
  · have h3 : 0 ≤ v := by omega
    simp [Int.compare_eq_gt.2 h1, h3]
  · by_cases h2 : v < 0
    · have h3 : ¬ 0 ≤ v := by omega
      simp [Int.compare_eq_lt.2 h2, h3]
    · have : v = 0 := by omega
      subst this; simp

theorem place_fl : ∃ fl : Int → Nat, (∀ z, -1000 ≤ z ∧ z ≤ 1000 → Is (fl z) z) ∧ ∀ (x y : Int) (w : World), Calls Tryz.prog 65 #[.agg #[.int .i64 x, .int .i64 y]] w fun e w' => e = .returned (.complex .f64 (fl x) (fl y)) ∧ Below w.heap.size w w' :=
  ⟨floatOfInt .f64, fun z h => Flt.Is.ofInt (by omega) (by omega), fun x y w => place_any x y w⟩

/-- Where liesIn keeps its triangle and its point. -/
def Inn (w W : World) (b0 : Nat) (ta tb tc x y : Int) : Prop :=
  Below w.heap.size w W ∧ b0 + 1 < W.heap.size ∧ W.cell? ⟨b0, 0, none⟩ = some (.int .i64 ta) ∧ W.cell? ⟨b0, 1, none⟩ = some (.int .i64 tb) ∧ W.cell? ⟨b0, 2, none⟩ = some (.int .i64 tc) ∧
    W.cell? ⟨b0 + 1, 0, none⟩ = some (.int .i64 x) ∧ W.cell? ⟨b0 + 1, 1, none⟩ = some (.int .i64 y)

theorem Inn.step {w W W' : World} {b0 : Nat} {ta tb tc x y : Int} (h : Inn w W b0 ta tb tc x y) (hb : Below W.heap.size W W') : Inn w W' b0 ta tb tc x y := by
  obtain ⟨h1, h2, h3, h4, h5, h6, h7⟩ := h
  exact ⟨h1.trans (hb.mono h1.size), Nat.lt_of_lt_of_le h2 hb.size, (hb.cell (by show b0 < _; omega)).trans h3, (hb.cell (by show b0 < _; omega)).trans h4, (hb.cell (by show b0 < _; omega)).trans h5,
    (hb.cell (by show b0 + 1 < _; omega)).trans h6, (hb.cell (by show b0 + 1 < _; omega)).trans h7⟩

theorem inn_new (w : World) (ta tb tc x y : Int) : Inn w ((w.alloc (.cells #[.int .i64 ta, .int .i64 tb, .int .i64 tc] 46)).alloc (.cells #[.int .i64 x, .int .i64 y] 35)) w.heap.size ta tb tc x y := by
  refine ⟨((Below.refl _ _).alloc (Nat.le_refl _) _).alloc (by simp) _, by simp, ?_, ?_, ?_, ?_, ?_⟩
  · rw [World.cell?_alloc_past _ _ _ (by simp), World.cell?_alloc_at _ _ _ _ (by simp)]; rfl
  · rw [World.cell?_alloc_past _ _ _ (by simp), World.cell?_alloc_at _ _ _ _ (by simp)]; rfl
  · rw [World.cell?_alloc_past _ _ _ (by simp), World.cell?_alloc_at _ _ _ _ (by simp)]; rfl
  · rw [World.cell?_alloc_at _ _ _ _ (by simp)]; rfl
  · rw [World.cell?_alloc_at _ _ _ _ (by simp)]; rfl

set_option maxRecDepth 100000 in
set_option maxHeartbeats 8000000 in
theorem liesIn_any (px py : Nat → Int) (n qb qo cap : Nat) (ta tb tc x y : Int) (w : World) (hp : Pts w qb qo n px py) (X : -1000 ≤ x ∧ x ≤ 1000) (Y : -1000 ≤ y ∧ y ≤ 1000) :
    Calls Tryz.prog 39 #[.slice (some ⟨qb, qo, none⟩) n cap, .agg #[.int .i64 ta, .int .i64 tb, .int .i64 tc], .agg #[.int .i64 x, .int .i64 y]] w fun e w' => e = .returned (.bool (liesB px py n x y (ta, tb, tc))) ∧ Below w.heap.size w w' := by
  have HP := hid hp
  have HU := hid (fun k W (h : Below w.heap.size w W) => usable_any px py n qb qo cap k W (hp.below h hp.lt))
  have I0 := hid (inn_new w ta tb tc x y)
  clear hp
  cases ua : usB px py n ta with
  | false =>
    have e : liesB px py n x y (ta, tb, tc) = false := by simp [liesB, ua]
    rw [e]
    clear e
    have UA := hid ua
    clear ua
    go_enter Tryz.func39, Tryz.ntmps39
    go_wp2_with fail
    refine (HU.out ta _ I0.out.1).mono ?_
    rintro e W2 ⟨rfl, hb⟩
    have I2 := hid (I0.out.step hb)
    rw [UA.out]
    clear hb
    go_wp2_with fail
    go_ret
    exact ⟨rfl, I2.out.1⟩
  | true =>
    cases ub : usB px py n tb with
    | false =>
      have e : liesB px py n x y (ta, tb, tc) = false := by simp [liesB, ub]
      rw [e]
      clear e
      have UA := hid ua
      have UB := hid ub
      clear ua ub
      go_enter Tryz.func39, Tryz.ntmps39
      go_wp2_with fail
      refine (HU.out ta _ I0.out.1).mono ?_
      rintro e W2 ⟨rfl, hb⟩
      have I2 := hid (I0.out.step hb)
      rw [UA.out]
      have c1 := I2.out.2.2.2.1
      clear hb
      go_wp2_with fail
      refine (HU.out tb _ I2.out.1).mono ?_
      rintro e W3 ⟨rfl, hb⟩
      have I3 := hid (I2.out.step hb)
      rw [UB.out]
      clear hb
      go_wp2_with fail
      go_ret
      exact ⟨rfl, I3.out.1⟩
    | true =>
      cases uc : usB px py n tc with
      | false =>
        have e : liesB px py n x y (ta, tb, tc) = false := by simp [liesB, uc]
        rw [e]
        clear e
        have UA := hid ua
        have UB := hid ub
        have UC := hid uc
        clear ua ub uc
        go_enter Tryz.func39, Tryz.ntmps39
        go_wp2_with fail
        refine (HU.out ta _ I0.out.1).mono ?_
        rintro e W2 ⟨rfl, hb⟩
        have I2 := hid (I0.out.step hb)
        rw [UA.out]
        have c1 := I2.out.2.2.2.1
        clear hb
        go_wp2_with fail
        refine (HU.out tb _ I2.out.1).mono ?_
        rintro e W3 ⟨rfl, hb⟩
        have I3 := hid (I2.out.step hb)
        rw [UB.out]
        have c2 := I3.out.2.2.2.2.1
        clear hb c1
        go_wp2_with fail
        refine (HU.out tc _ I3.out.1).mono ?_
        rintro e W4 ⟨rfl, hb⟩
        have I4 := hid (I3.out.step hb)
        rw [UC.out]
        clear hb c2
        go_wp2_with fail
        go_ret
        exact ⟨rfl, I4.out.1⟩
      | true =>
        obtain ⟨a, rfl, ha, ax, ay⟩ := usB_true ua
        obtain ⟨b, rfl, hb, bx, bya⟩ := usB_true ub
        obtain ⟨c, rfl, hc, cx, cy⟩ := usB_true uc
        obtain ⟨fl, hfl, PL⟩ := place_fl
        obtain ⟨t1, t1', K1⟩ := turn_any (fl (px a)) (fl (py a)) (fl (px b)) (fl (py b)) (fl (px c)) (fl (py c)) _ _ _ _ _ _ (hfl _ ax) (hfl _ ay) (hfl _ bx) (hfl _ bya) (hfl _ cx) (hfl _ cy) ax ay bx bya cx cy
        obtain ⟨t2, t2', K2⟩ := turn_any (fl (px a)) (fl (py a)) (fl (px b)) (fl (py b)) (fl x) (fl y) _ _ _ _ _ _ (hfl _ ax) (hfl _ ay) (hfl _ bx) (hfl _ bya) (hfl _ X) (hfl _ Y) ax ay bx bya X Y
        obtain ⟨t3, t3', K3⟩ := turn_any (fl (px b)) (fl (py b)) (fl (px c)) (fl (py c)) (fl x) (fl y) _ _ _ _ _ _ (hfl _ bx) (hfl _ bya) (hfl _ cx) (hfl _ cy) (hfl _ X) (hfl _ Y) bx bya cx cy X Y
        obtain ⟨t4, t4', K4⟩ := turn_any (fl (px c)) (fl (py c)) (fl (px a)) (fl (py a)) (fl x) (fl y) _ _ _ _ _ _ (hfl _ cx) (hfl _ cy) (hfl _ ax) (hfl _ ay) (hfl _ X) (hfl _ Y) cx cy ax ay X Y
        have g1 := gtr_zero t1'
        have g2 := geq_zero t2'
        have g3 := geq_zero t3'
        have g4 := geq_zero t4'
        have UA := hid ua
        have UB := hid ub
        have UC := hid uc
        have HPL := hid PL
        have HK1 := hid K1
        have HK2 := hid K2
        have HK3 := hid K3
        have HK4 := hid K4
        have e : liesB px py n x y (a, b, c) = (decide (0 < tw (px a) (py a) (px b) (py b) (px c) (py c)) && (decide (0 ≤ tw (px a) (py a) (px b) (py b) x y) && (decide (0 ≤ tw (px b) (py b) (px c) (py c) x y) && decide (0 ≤ tw (px c) (py c) (px a) (py a) x y)))) := by
          simp [liesB, ua, ub, uc]
        rw [e]
        clear e PL hfl K1 K2 K3 K4 t1' t2' t3' t4' ua ub uc ax ay bx bya cx cy X Y
        generalize decide (0 < tw (px a) (py a) (px b) (py b) (px c) (py c)) = d1 at *
        generalize decide (0 ≤ tw (px a) (py a) (px b) (py b) x y) = d2 at *
        generalize decide (0 ≤ tw (px b) (py b) (px c) (py c) x y) = d3 at *
        generalize decide (0 ≤ tw (px c) (py c) (px a) (py a) x y) = d4 at *
        have ha' : (a : Int) < n := by omega
        have hb' : (b : Int) < n := by omega
        have hc' : (c : Int) < n := by omega
        have za : (0 : Int) ≤ (a : Int) := by omega
        have zb : (0 : Int) ≤ (b : Int) := by omega
        have zc : (0 : Int) ≤ (c : Int) := by omega
        go_enter Tryz.func39, Tryz.ntmps39
        go_wp2_with fail
        refine (HU.out a _ I0.out.1).mono ?_
        rintro e W2 ⟨rfl, hb⟩
        have I2 := hid (I0.out.step hb)
        rw [UA.out]
        have c1 := I2.out.2.2.2.1
        clear hb
        go_wp2_with fail
        refine (HU.out b _ I2.out.1).mono ?_
        rintro e W3 ⟨rfl, hb⟩
        have I3 := hid (I2.out.step hb)
        rw [UB.out]
        have c2 := I3.out.2.2.2.2.1
        clear hb c1
        go_wp2_with fail
        refine (HU.out c _ I3.out.1).mono ?_
        rintro e W4 ⟨rfl, hb⟩
        have I4 := hid (I3.out.step hb)
        rw [UC.out]
        clear hb c2 I2 I3
        have hq4 := HP.out.below I4.out.1 HP.out.lt
        have xa := hq4.x a ha
        have ya := hq4.y a ha
        have xb := hq4.x b hb
        have yb := hq4.y b hb
        have xc := hq4.x c hc
        have yc := hq4.y c hc
        have ca := I4.out.2.2.1
        have cb := I4.out.2.2.2.1
        have cc := I4.out.2.2.2.2.1
        have I4d : Hid (Inn w W4.drew w.heap.size a b c x y) := hid (I4.out.step (Below.refl _ _).drew)
        clear hq4 I0 HU
        go_wp2_with fail
        go_region_held3 (fun w' => w'.cell? ⟨w.heap.size, 0, none⟩ = some (.int .i64 a) ∧ w'.cell? ⟨w.heap.size, 1, none⟩ = some (.int .i64 b) ∧ w'.cell? ⟨w.heap.size, 2, none⟩ = some (.int .i64 c) ∧ w'.cell? ⟨qb, qo + a * 2, none⟩ = some (.int .i64 (px a)) ∧ w'.cell? ⟨qb, qo + a * 2 + 1, none⟩ = some (.int .i64 (py a)) ∧ w'.cell? ⟨qb, qo + b * 2, none⟩ = some (.int .i64 (px b)) ∧ w'.cell? ⟨qb, qo + b * 2 + 1, none⟩ = some (.int .i64 (py b)) ∧ w'.cell? ⟨qb, qo + c * 2, none⟩ = some (.int .i64 (px c)) ∧ w'.cell? ⟨qb, qo + c * 2 + 1, none⟩ = some (.int .i64 (py c))) (go_keep)
          ((go_at_call 65; refine (HPL.out _ _ _).mono ?_; rintro e w6 ⟨rfl, hb6⟩; have J6 : Hid (Inn w w6 w.heap.size a b c x y) := hid (Inn.step (Hid.out (by assumption)) hb6); have hq6 := HP.out.below J6.out.1 HP.out.lt; have u1 := hq6.x a ha; have u2 := hq6.y a ha; have u3 := hq6.x b hb; have u4 := hq6.y b hb; have u5 := hq6.x c hc; have u6 := hq6.y c hc; have v1 := J6.out.2.2.1; have v2 := J6.out.2.2.2.1; have v3 := J6.out.2.2.2.2.1; clear hq6 hb6))
        have x0 := J6.out.2.2.2.2.2.1
        have y0 := J6.out.2.2.2.2.2.2
        clear u1 u2 u3 u4 u5 u6 v1 v2 v3 xa ya xb yb xc yc ca cb cc
        go_wp2_with fail
        refine (HPL.out _ _ _).mono ?_
        rintro e w7 ⟨rfl, hb7⟩
        have J7 := hid (J6.out.step hb7)
        clear hb7 x0 y0 ha' hb' hc' za zb zc
        go_wp2_with fail
        refine (HK1.out _).mono ?_
        rintro e w8 ⟨rfl, rfl⟩
        cases d1 with
        | false =>
          go_wp2_with fail
          go_ret
          exact ⟨rfl, J7.out.1⟩
        | true =>
          go_wp2_with fail
          refine (HK2.out _).mono ?_
          rintro e w9 ⟨rfl, rfl⟩
          cases d2 with
          | false =>
            go_wp2_with fail
            go_ret
            exact ⟨rfl, J7.out.1⟩
          | true =>
            go_wp2_with fail
            refine (HK3.out _).mono ?_
            rintro e w10 ⟨rfl, rfl⟩
            cases d3 with
            | false =>
              go_wp2_with fail
              go_ret
              exact ⟨rfl, J7.out.1⟩
            | true =>
              go_wp2_with fail
              refine (HK4.out _).mono ?_
              rintro e w11 ⟨rfl, rfl⟩
              go_wp2_with fail
              go_ret
              exact ⟨rfl, J7.out.1⟩
end Go.Proofs.YtdbebbbceeopaaaGreat

set_option linter.unusedSimpArgs false
namespace Go.Proofs.YtdbebbbceeopaaaGreat
open Go.RowKit

theorem cell_new {w : World} {o : Obj} {a : Addr} {v : Value} (h : w.cell? a = some v) : (w.alloc o).cell? a = some v :=
  (((Below.refl w.heap.size w).alloc (Nat.le_refl _) o).cell (World.block_lt_of_cell? w _ h)).trans h

set_option maxRecDepth 100000 in
set_option maxHeartbeats 1000000 in
theorem lies_closure (px py : Nat → Int) (n qb qo cap bp bq : Nat) (t : Int × Int × Int) (x y : Int) (W : World) (hp : Pts W qb qo n px py) (X : -1000 ≤ x ∧ x ≤ 1000) (Y : -1000 ≤ y ∧ y ≤ 1000)
    (h1 : W.cell? ⟨bp, 0, none⟩ = some (.slice (some ⟨qb, qo, none⟩) n cap)) (h2 : W.cell? ⟨bq, 0, none⟩ = some (.int .i64 x)) (h3 : W.cell? ⟨bq, 1, none⟩ = some (.int .i64 y)) :
    Calls Tryz.prog 38 #[.agg #[.int .i64 t.1, .int .i64 t.2.1, .int .i64 t.2.2], .pointer (some ⟨bp, 0, none⟩), .pointer (some ⟨bq, 0, none⟩)] W fun e w' => e = .returned (.bool (liesB px py n x y t)) ∧ Below W.heap.size W w' := by
  obtain ⟨ta, tb, tc⟩ := t
  have HL := hid (fun (W' : World) (hb : Below W.heap.size W W') => liesIn_any px py n qb qo cap ta tb tc x y W' (hp.below hb hp.lt) X Y)
  have c1 := cell_new (o := .cells #[.int .i64 ta, .int .i64 tb, .int .i64 tc] 46) h1
  have c2 := cell_new (o := .cells #[.int .i64 ta, .int .i64 tb, .int .i64 tc] 46) h2
  have c3 := cell_new (o := .cells #[.int .i64 ta, .int .i64 tb, .int .i64 tc] 46) h3
  clear hp X Y
  go_enter Tryz.func38, Tryz.ntmps38
  go_wp2_with fail
  refine (HL.out _ ((Below.refl _ _).alloc (Nat.le_refl _) _)).mono ?_
  rintro e w' ⟨rfl, hb⟩
  have HB := hid hb
  clear hb h1 h2 h3 c1 c2 c3
  go_wp2_with fail
  go_ret
  exact ⟨rfl, ((Below.refl _ _).alloc (Nat.le_refl _) _).trans (HB.out.mono (by simp))⟩

/-- The triangles of a list of whole numbers. -/
def tris (z : List Int) (m : Nat) : List (Int × Int × Int) := (List.range m).map fun i => (z.getD (i * 3) 0, z.getD (i * 3 + 1) 0, z.getD (i * 3 + 2) 0)

theorem tris_len (z : List Int) (m : Nat) : (tris z m).length = m := by simp [tris]

theorem tris_at (z : List Int) (m j : Nat) (hj : j < m) : (tris z m)[j]! = (z.getD (j * 3) 0, z.getD (j * 3 + 1) 0, z.getD (j * 3 + 2) 0) := by
  rw [getElem!_pos _ _ (by simpa [tris] using hj)]
  simp [tris]

/-- A row of triangles: block g, from o on, m of them, three cells each. -/
def Trs (w : World) (g o m : Nat) (z : List Int) : Prop :=
  g < w.heap.size ∧ ∀ j, j < m → w.cell? ⟨g, o + j * 3, none⟩ = some (.int .i64 (z.getD (j * 3) 0)) ∧ w.cell? ⟨g, o + j * 3 + 1, none⟩ = some (.int .i64 (z.getD (j * 3 + 1) 0)) ∧ w.cell? ⟨g, o + j * 3 + 2, none⟩ = some (.int .i64 (z.getD (j * 3 + 2) 0))

theorem Trs.below {w w' : World} {g o m : Nat} {z : List Int} (h : Trs w g o m z) (hb : Below w.heap.size w w') : Trs w' g o m z :=
  ⟨Nat.lt_of_lt_of_le h.1 hb.size, fun j hj => ⟨(hb.cell h.1).trans (h.2 j hj).1, (hb.cell h.1).trans (h.2 j hj).2.1, (hb.cell h.1).trans (h.2 j hj).2.2⟩⟩

def encT (t : Int × Int × Int) : List Value := [.int .i64 t.1, .int .i64 t.2.1, .int .i64 t.2.2]

/-- What Locate answers. -/
def locI (px py : Nat → Int) (n : Nat) (z : List Int) (m : Nat) (x y : Int) : Int :=
  if nearB x && nearB y then Lib.idxBy (fun _ t => liesB px py n x y t) (tris z m) default else -1

theorem index_any (px py : Nat → Int) (n qb qo cap bp bq g o m mcap : Nat) (z : List Int) (x y : Int) (w : World) (hp : Pts w qb qo n px py) (X : -1000 ≤ x ∧ x ≤ 1000) (Y : -1000 ≤ y ∧ y ≤ 1000)
    (h1 : w.cell? ⟨bp, 0, none⟩ = some (.slice (some ⟨qb, qo, none⟩) n cap)) (h2 : w.cell? ⟨bq, 0, none⟩ = some (.int .i64 x)) (h3 : w.cell? ⟨bq, 1, none⟩ = some (.int .i64 y)) (ht : Trs w g o m z) (hm : m ≤ 8796093021952) :
    Calls Tryz.prog 37 #[.slice (some ⟨g, o, none⟩) m mcap, .func (.func 38) #[] #[.pointer (some ⟨bp, 0, none⟩), .pointer (some ⟨bq, 0, none⟩)]] w fun e w' =>
      e = .returned (.int .i64 (Lib.idxBy (fun _ t => liesB px py n x y t) (tris z m) default)) ∧ Below w.heap.size w w' := by
  have eg : ∀ args w, (callFunc 38 args).run Tryz.prog w = .ok (.enter 38 args) w := enters_of Tryz.func38 (by kernel_rfl) rfl
  have hpr : PredBelow Tryz.prog 38 #[.pointer (some ⟨bp, 0, none⟩), .pointer (some ⟨bq, 0, none⟩)] (fun t => .agg (encT t).toArray) (fun t => liesB px py n x y t) w := by
    intro W t hb
    have := lies_closure px py n qb qo cap bp bq t x y W (hp.below hb hp.lt) X Y ((hb.cell (World.block_lt_of_cell? w _ h1)).trans h1) ((hb.cell (World.block_lt_of_cell? w _ h2)).trans h2) ((hb.cell (World.block_lt_of_cell? w _ h3)).trans h3)
    refine this.mono ?_
    rintro e w' ⟨rfl, hb'⟩
    exact ⟨rfl, hb.trans (hb'.mono hb.size)⟩
  have := AnyQ.slices_IndexFunc Tryz.indexL 3 Tryz.isAgg46 Tryz.sizeOf46 encT (fun _ => rfl) (fun t => liesB px py n x y t) 38 #[.pointer (some ⟨bp, 0, none⟩), .pointer (some ⟨bq, 0, none⟩)] eg g o m mcap (tris z m) w hpr (by rw [tris_len]; exact Nat.le_refl _) (by omega) ht.1
    (fun j hj i v hi => by
      rw [tris_len] at hj
      rw [tris_at z m j hj] at hi
      obtain ⟨a1, a2, a3⟩ := ht.2 j hj
      rcases i with _ | _ | _ | i
      · simp [encT] at hi; subst hi; exact a1
      · simp [encT] at hi; subst hi; exact a2
      · simp [encT] at hi; subst hi; exact a3
      · simp [encT] at hi)
  change Calls Tryz.prog 37 _ _ _ at this
  rw [show (tris z m).take m = tris z m from List.take_of_length_le (by rw [tris_len]; exact Nat.le_refl _)] at this
  exact this

set_option maxRecDepth 100000 in
set_option maxHeartbeats 1000000 in
theorem locate_any (px py : Nat → Int) (n qb qo cap g o m mcap : Nat) (z : List Int) (x y : Int) (w : World) (hp : Pts w qb qo n px py) (ht : Trs w g o m z) (hm : m ≤ 8796093021952) :
    Calls Tryz.prog 24 #[.slice (some ⟨qb, qo, none⟩) n cap, .slice (some ⟨g, o, none⟩) m mcap, .agg #[.int .i64 x, .int .i64 y]] w fun e w' => e = .returned (.int .i64 (locI px py n z m x y)) ∧ Below w.heap.size w w' := by
  have HP := hid hp
  have HT := hid ht
  have HI := hid (inBounds_any x y)
  unfold locI
  clear hp ht
  cases hr : (nearB x && nearB y) with
  | false =>
    rw [hr] at HI
    rw [if_neg (by simp)]
    clear hr
    go_enter Tryz.func24, Tryz.ntmps24
    go_wp2_with fail
    have b2 : Hid (Below w.heap.size w ((w.alloc (.cells #[.slice (some ⟨qb, qo, none⟩) n cap] 26)).alloc (.cells #[.int .i64 x, .int .i64 y] 35))) := hid (((Below.refl _ _).alloc (Nat.le_refl _) _).alloc (by simp) _)
    refine (HI.out _).mono ?_
    rintro e w' ⟨rfl, hb⟩
    have HB := bstep b2 hb
    clear hb b2
    go_wp2_with fail
    go_ret
    exact ⟨rfl, HB.out⟩
  | true =>
    rw [hr] at HI
    rw [if_pos rfl]
    obtain ⟨r, hr'⟩ : ∃ r, Lib.idxBy (fun _ t => liesB px py n x y t) (tris z m) default = r := ⟨_, rfl⟩
    rw [hr']
    have HR := hid hr'
    clear hr'
    rw [Bool.and_eq_true, nearB_iff, nearB_iff] at hr
    obtain ⟨X, Y⟩ := hr
    have HX := hid X
    have HY := hid Y
    clear X Y
    go_enter Tryz.func24, Tryz.ntmps24
    go_wp2_with fail
    obtain ⟨W1, hW1⟩ : ∃ W1 : World, W1 = (w.alloc (.cells #[.slice (some ⟨qb, qo, none⟩) n cap] 26)).alloc (.cells #[.int .i64 x, .int .i64 y] 35) := ⟨_, rfl⟩
    rw [← hW1]
    have b1 : Hid (Below w.heap.size w W1) := hid (by rw [hW1]; exact ((Below.refl _ _).alloc (Nat.le_refl _) _).alloc (by simp) _)
    have a1 : W1.cell? ⟨w.heap.size, 0, none⟩ = some (.slice (some ⟨qb, qo, none⟩) n cap) := by
      rw [hW1, World.cell?_alloc_past _ _ _ (by simp), World.cell?_alloc_at _ _ _ _ (by simp)]; rfl
    have a2 : W1.cell? ⟨w.heap.size + 1, 0, none⟩ = some (.int .i64 x) := by rw [hW1, World.cell?_alloc_at _ _ _ _ (by simp)]; rfl
    have a3 : W1.cell? ⟨w.heap.size + 1, 1, none⟩ = some (.int .i64 y) := by rw [hW1, World.cell?_alloc_at _ _ _ _ (by simp)]; rfl
    clear hW1
    refine (HI.out _).mono ?_
    rintro e W2 ⟨rfl, hb⟩
    have HB := bstep b1 hb
    have A1 := hid ((hb.cell (World.block_lt_of_cell? W1 _ a1)).trans a1)
    have A2 := hid ((hb.cell (World.block_lt_of_cell? W1 _ a2)).trans a2)
    have A3 := hid ((hb.cell (World.block_lt_of_cell? W1 _ a3)).trans a3)
    clear hb a1 a2 a3 b1
    go_wp2_with fail
    refine (index_any px py n qb qo cap w.heap.size (w.heap.size + 1) g o m mcap z x y W2 (HP.out.below HB.out HP.out.lt) HX.out HY.out A1.out A2.out A3.out (HT.out.below HB.out) hm).mono ?_
    rintro e W3 ⟨rfl, hb⟩
    have HB3 := bstep HB hb
    clear hb
    rw [HR.out]
    go_wp2_with fail
    go_ret
    exact ⟨rfl, HB3.out⟩
end Go.Proofs.YtdbebbbceeopaaaGreat

set_option linter.unusedSimpArgs false
namespace Go.Proofs.YtdbebbbceeopaaaGreat
open Go.RowKit

/-- Whole numbers in cells. -/
def Cel (W : World) (l : List (Nat × Nat × Int)) : Prop := ∀ q ∈ l, W.cell? ⟨q.1, q.2.1, none⟩ = some (.int .i64 q.2.2)

theorem Cel.step {W W' : World} {l : List (Nat × Nat × Int)} (h : Cel W l) (hb : Below W.heap.size W W') : Cel W' l := fun q hq =>
  (hb.cell (World.block_lt_of_cell? W _ (h q hq))).trans (h q hq)

theorem Cel.new {W : World} {l : List (Nat × Nat × Int)} (h : Cel W l) (o : Obj) : Cel (W.alloc o) l := fun q hq => cell_new (h q hq)

theorem Cel.cons {W : World} {l : List (Nat × Nat × Int)} {b o : Nat} {v : Int} (h : W.cell? ⟨b, o, none⟩ = some (.int .i64 v)) (hl : Cel W l) : Cel W ((b, o, v) :: l) := by
  intro q hq
  rcases List.mem_cons.1 hq with rfl | h'
  · exact h
  · exact hl q h'

theorem Cel.get {W : World} {l : List (Nat × Nat × Int)} (h : Cel W l) (i : Nat) (q : Nat × Nat × Int) (hi : l[i]? = some q) : W.cell? ⟨q.1, q.2.1, none⟩ = some (.int .i64 q.2.2) := h q (List.mem_of_getElem? hi)

theorem hit_far {px py : Nat → Int} {n a b c : Nat} {x y : Int} (h : (nearB x && nearB y) = false ∨ (nearB (px a) && nearB (py a)) = false ∨ (nearB (px b) && nearB (py b)) = false ∨ (nearB (px c) && nearB (py c)) = false) :
    ((nearB x && nearB y) && liesB px py n x y (a, b, c)) = false := by
  rcases h with h | h | h | h <;> simp [liesB, usB, h]

theorem hit_near {px py : Nat → Int} {n a b c : Nat} {x y : Int} (h0 : (nearB x && nearB y) = true) (h1 : (nearB (px a) && nearB (py a)) = true) (h2 : (nearB (px b) && nearB (py b)) = true) (h3 : (nearB (px c) && nearB (py c)) = true) (ha : a < n) (hb : b < n) (hc : c < n) :
    ((nearB x && nearB y) && liesB px py n x y (a, b, c)) = (decide (0 < tw (px a) (py a) (px b) (py b) (px c) (py c)) && (decide (0 ≤ tw (px a) (py a) (px b) (py b) x y) && (decide (0 ≤ tw (px b) (py b) (px c) (py c) x y) && decide (0 ≤ tw (px c) (py c) (px a) (py a) x y)))) := by
  have e1 : usB px py n (a : Int) = true := by simp [usB, h1]; exact ha
  have e2 : usB px py n (b : Int) = true := by simp [usB, h2]; exact hb
  have e3 : usB px py n (c : Int) = true := by simp [usB, h3]; exact hc
  rw [h0]
  simp [liesB, e1, e2, e3]

def hitB (px py : Nat → Int) (n : Nat) (x y : Int) (t : Int × Int × Int) : Bool := (nearB x && nearB y) && liesB px py n x y t

theorem loc_miss {px py : Nat → Int} {n m : Nat} {z : List Int} {x y : Int} (h : ∀ j, j < m → hitB px py n x y (tris z m)[j]! = false) : locI px py n z m x y = -1 := by
  unfold locI
  cases hr : (nearB x && nearB y) with
  | false => rfl
  | true =>
    rw [if_pos rfl]
    have := Lib.idxBy_miss (fun (_ : Int × Int × Int) t => liesB px py n x y t) (tris z m) m default (fun j hj => by have := h j hj; unfold hitB at this; rw [hr] at this; simpa using this)
    rw [show (tris z m).take m = tris z m from List.take_of_length_le (by rw [tris_len]; exact Nat.le_refl _)] at this
    exact this

theorem loc_hit {px py : Nat → Int} {n m k : Nat} {z : List Int} {x y : Int} (hk : k < m) (h : hitB px py n x y (tris z m)[k]! = true) (h' : ∀ j, j < k → hitB px py n x y (tris z m)[j]! = false) : locI px py n z m x y = k := by
  unfold hitB at h h'
  rw [Bool.and_eq_true] at h
  unfold locI
  rw [h.1, if_pos rfl]
  have := Lib.idxBy_hit (fun (_ : Int × Int × Int) t => liesB px py n x y t) (tris z m) m k default hk (by rw [tris_len]; exact Nat.le_refl _) h.2 (fun j hj => by have := h' j hj; rw [h.1] at this; simpa using this)
  rw [show (tris z m).take m = tris z m from List.take_of_length_le (by rw [tris_len]; exact Nat.le_refl _)] at this
  exact this

set_option maxRecDepth 100000 in
set_option maxHeartbeats 4000000 in
theorem refLocate_any (px py : Nat → Int) (n cap m mcap : Nat) (pp pt : Option Addr) (z : List Int) (x y : Int) (w : World) (hn : n ≤ 8796093021952) (hm : m ≤ 8796093021952)
    (hp : 0 < n → ∃ qb qo, pp = some ⟨qb, qo, none⟩ ∧ Pts w qb qo n px py) (ht : 0 < m → ∃ g o, pt = some ⟨g, o, none⟩ ∧ Trs w g o m z) :
    Calls Tryz.prog 54 #[.slice pp n cap, .slice pt m mcap, .agg #[.int .i64 x, .int .i64 y]] w fun e w' => e = .returned (.int .i64 (locI px py n z m x y)) ∧ Below w.heap.size w w' := by
  have HP := hid hp
  have HT := hid ht
  have B0 := hid ((Below.refl w.heap.size w).alloc (Nat.le_refl _) (.cells #[.int .i64 x, .int .i64 y] 35))
  have C0 : Hid (Cel (w.alloc (.cells #[.int .i64 x, .int .i64 y] 35)) [(w.heap.size, 0, x), (w.heap.size, 1, y)]) := hid (Cel.cons (World.cell?_alloc_at _ _ _ _ rfl) (Cel.cons (World.cell?_alloc_at _ _ _ _ rfl) (fun q hq => by cases hq)))
  clear hp ht
  go_enter Tryz.func54, Tryz.ntmps54
  go_wp2
  go_loopw [7] (fun i wr => ∃ k : Nat, k ≤ m ∧ i = .int .i64 k ∧ Hid (Below w.heap.size w wr) ∧ Hid (Cel wr [(w.heap.size, 0, x), (w.heap.size, 1, y)]) ∧ Hid (∀ j, j < k → hitB px py n x y (tris z m)[j]! = false)) (fun i _ => m - (intOf i).toNat)
  case atStart => exact ⟨0, Nat.zero_le _, rfl, B0, C0, hid (fun j hj => absurd hj (Nat.not_lt_zero _))⟩
  case round =>
    clear B0 C0
    obtain ⟨k, hk, rfl, HB, HC, HA⟩ := hrel
    by_cases hlt : k < m
    · have hlt' : (k : Int) < m := by omega
      obtain ⟨g, o, rfl, hT⟩ := HT.out (by omega)
      obtain ⟨t0, t1, t2⟩ := (hT.below HB.out).2 k hlt
      have hN : Hid (∀ t : Int × Int × Int, hitB px py n x y t = false → t = (z.getD (k * 3) 0, z.getD (k * 3 + 1) 0, z.getD (k * 3 + 2) 0) → ∀ j, j < k + 1 → hitB px py n x y (tris z m)[j]! = false) := hid (by
        intro t h1 h2 j hj
        rcases Nat.lt_or_ge j k with h | h
        · exact HA.out j h
        · obtain rfl : j = k := by omega
          rw [tris_at z m j hlt, ← h2]; exact h1)
      have hY : Hid (∀ t : Int × Int × Int, hitB px py n x y t = true → t = (z.getD (k * 3) 0, z.getD (k * 3 + 1) 0, z.getD (k * 3 + 2) 0) → locI px py n z m x y = k) := hid (by
        intro t h1 h2
        exact loc_hit hlt (by rw [tris_at z m k hlt, ← h2]; exact h1) HA.out)
      generalize z.getD (k * 3) 0 = ta at *
      generalize z.getD (k * 3 + 1) 0 = tb at *
      generalize z.getD (k * 3 + 2) 0 = tc at *
      have HB1 := hid (HB.out.alloc HB.out.size (.cells #[.int .i64 ta, .int .i64 tb, .int .i64 tc] 46))
      have HC1 := hid (HC.out.new (.cells #[.int .i64 ta, .int .i64 tb, .int .i64 tc] 46))
      clear hT HT
      have out : Hid (¬ ((0 ≤ ta ∧ ta < n) ∧ (0 ≤ tb ∧ tb < n) ∧ (0 ≤ tc ∧ tc < n)) → hitB px py n x y (ta, tb, tc) = false) := hid (by
        intro h
        have : (usB px py n ta && (usB px py n tb && usB px py n tc)) = false := by
          cases h1 : (usB px py n ta && (usB px py n tb && usB px py n tc)) with
          | false => rfl
          | true =>
            rw [Bool.and_eq_true, Bool.and_eq_true] at h1
            obtain ⟨a, e1, h2, _⟩ := usB_true h1.1
            obtain ⟨b, e3, h4, _⟩ := usB_true h1.2.1
            obtain ⟨c, e5, h6, _⟩ := usB_true h1.2.2
            exact absurd (by omega) h
        simp only [hitB, liesB, this, Bool.false_and, Bool.and_false])
      have hcase : ta < 0 ∨ (¬ ta < 0 ∧ (n : Int) ≤ ta) ∨ (¬ ta < 0 ∧ ¬ (n : Int) ≤ ta ∧ tb < 0) ∨ (¬ ta < 0 ∧ ¬ (n : Int) ≤ ta ∧ ¬ tb < 0 ∧ (n : Int) ≤ tb) ∨ (¬ ta < 0 ∧ ¬ (n : Int) ≤ ta ∧ ¬ tb < 0 ∧ ¬ (n : Int) ≤ tb ∧ tc < 0) ∨
        (¬ ta < 0 ∧ ¬ (n : Int) ≤ ta ∧ ¬ tb < 0 ∧ ¬ (n : Int) ≤ tb ∧ ¬ tc < 0 ∧ (n : Int) ≤ tc) ∨ (¬ ta < 0 ∧ ¬ (n : Int) ≤ ta ∧ ¬ tb < 0 ∧ ¬ (n : Int) ≤ tb ∧ ¬ tc < 0 ∧ ¬ (n : Int) ≤ tc) := by omega
      rcases hcase with h1 | ⟨h1, h2⟩ | ⟨h1, h2, h3⟩ | ⟨h1, h2, h3, h4⟩ | ⟨h1, h2, h3, h4, h5⟩ | ⟨h1, h2, h3, h4, h5, h6⟩ | ⟨h1, h2, h3, h4, h5, h6⟩
      · go_wp2
        go_roundw
        case rel => exact ⟨k + 1, by omega, by go_num, HB1, HC1, hid (hN.out _ (out.out (by omega)) rfl)⟩
        case measure => simp [intOf]; omega
      · go_wp2
        go_roundw
        case rel => exact ⟨k + 1, by omega, by go_num, HB1, HC1, hid (hN.out _ (out.out (by omega)) rfl)⟩
        case measure => simp [intOf]; omega
      · go_wp2
        go_roundw
        case rel => exact ⟨k + 1, by omega, by go_num, HB1, HC1, hid (hN.out _ (out.out (by omega)) rfl)⟩
        case measure => simp [intOf]; omega
      · go_wp2
        go_roundw
        case rel => exact ⟨k + 1, by omega, by go_num, HB1, HC1, hid (hN.out _ (out.out (by omega)) rfl)⟩
        case measure => simp [intOf]; omega
      · go_wp2
        go_roundw
        case rel => exact ⟨k + 1, by omega, by go_num, HB1, HC1, hid (hN.out _ (out.out (by omega)) rfl)⟩
        case measure => simp [intOf]; omega
      · go_wp2
        go_roundw
        case rel => exact ⟨k + 1, by omega, by go_num, HB1, HC1, hid (hN.out _ (out.out (by omega)) rfl)⟩
        case measure => simp [intOf]; omega
      · obtain ⟨a, rfl⟩ : ∃ a : Nat, ta = a := ⟨ta.toNat, by omega⟩
        obtain ⟨b, rfl⟩ : ∃ b : Nat, tb = b := ⟨tb.toNat, by omega⟩
        obtain ⟨c, rfl⟩ : ∃ c : Nat, tc = c := ⟨tc.toNat, by omega⟩
        obtain ⟨qb, qo, rfl, hP⟩ := HP.out (by omega)
        have hPw := hP.below HB.out hP.lt
        have xa := cell_new (o := .cells #[.int .i64 a, .int .i64 b, .int .i64 c] 46) (hPw.x a (by omega))
        have ya := cell_new (o := .cells #[.int .i64 a, .int .i64 b, .int .i64 c] 46) (hPw.y a (by omega))
        have xb := cell_new (o := .cells #[.int .i64 (px a), .int .i64 (py a)] 35) (cell_new (o := .cells #[.int .i64 a, .int .i64 b, .int .i64 c] 46) (hPw.x b (by omega)))
        have yb := cell_new (o := .cells #[.int .i64 (px a), .int .i64 (py a)] 35) (cell_new (o := .cells #[.int .i64 a, .int .i64 b, .int .i64 c] 46) (hPw.y b (by omega)))
        have xc := cell_new (o := .cells #[.int .i64 (px b), .int .i64 (py b)] 35) (cell_new (o := .cells #[.int .i64 (px a), .int .i64 (py a)] 35) (cell_new (o := .cells #[.int .i64 a, .int .i64 b, .int .i64 c] 46) (hPw.x c (by omega))))
        have yc := cell_new (o := .cells #[.int .i64 (px b), .int .i64 (py b)] 35) (cell_new (o := .cells #[.int .i64 (px a), .int .i64 (py a)] 35) (cell_new (o := .cells #[.int .i64 a, .int .i64 b, .int .i64 c] 46) (hPw.y c (by omega))))
        have p0 := (HC1.out.new (.cells #[.int .i64 (px a), .int .i64 (py a)] 35)).new (.cells #[.int .i64 (px b), .int .i64 (py b)] 35) |>.new (.cells #[.int .i64 (px c), .int .i64 (py c)] 35)
        have p1 := p0 _ (List.mem_cons_self ..)
        have p2 := p0 _ (List.mem_cons_of_mem _ (List.mem_cons_self ..))
        have q1 : (a : Int) < n := by omega
        have q2 : (b : Int) < n := by omega
        have q3 : (c : Int) < n := by omega
        dsimp only at p1 p2
        clear hP hPw p0
        go_wp2_with fail
        obtain ⟨W4, hW4⟩ : ∃ W4 : World, W4 = (((wr.alloc (.cells #[.int .i64 a, .int .i64 b, .int .i64 c] 46)).alloc (.cells #[.int .i64 (px a), .int .i64 (py a)] 35)).alloc (.cells #[.int .i64 (px b), .int .i64 (py b)] 35)).alloc (.cells #[.int .i64 (px c), .int .i64 (py c)] 35) := ⟨_, rfl⟩
        rw [← hW4]
        have C4 : Hid (Cel W4 [(w.heap.size, 0, x), (w.heap.size, 1, y), (wr.heap.size + 1, 0, px a), (wr.heap.size + 1, 1, py a), (wr.heap.size + 1 + 1, 0, px b), (wr.heap.size + 1 + 1, 1, py b), (wr.heap.size + 1 + 1 + 1, 0, px c), (wr.heap.size + 1 + 1 + 1, 1, py c)]) := hid (by
          refine Cel.cons ?_ (Cel.cons ?_ (Cel.cons ?_ (Cel.cons ?_ (Cel.cons ?_ (Cel.cons ?_ (Cel.cons ?_ (Cel.cons ?_ (fun q hq => by cases hq))))))))
          · rw [hW4]; exact p1
          · rw [hW4]; exact p2
          · rw [hW4]; exact cell_new (cell_new ((World.cell?_alloc_at _ _ _ _ (by simp)).trans rfl))
          · rw [hW4]; exact cell_new (cell_new ((World.cell?_alloc_at _ _ _ _ (by simp)).trans rfl))
          · rw [hW4]; exact cell_new ((World.cell?_alloc_at _ _ _ _ (by simp)).trans rfl)
          · rw [hW4]; exact cell_new ((World.cell?_alloc_at _ _ _ _ (by simp)).trans rfl)
          · rw [hW4]; exact (World.cell?_alloc_at _ _ _ _ (by simp)).trans rfl
          · rw [hW4]; exact (World.cell?_alloc_at _ _ _ _ (by simp)).trans rfl)
        have B4 : Hid (Below w.heap.size w W4) := hid (by
          rw [hW4]
          have hs := HB.out.size
          exact ((HB1.out.alloc (by simp; omega) _).alloc (by simp; omega) _).alloc (by simp; omega) _)
        clear hW4 xa ya xb yb xc yc p1 p2 HB1 HC1 HP t0 t1 t2
        have F0 := hid (far_any x y W4)
        refine F0.out.mono ?_
        clear F0
        rintro e W5 ⟨rfl, hb5⟩
        have C5 := hid (C4.out.step hb5)
        have B5 := bstep B4 hb5
        clear hb5 C4 B4
        cases f0 : (nearB x && nearB y) with
        | false =>
          have hh := hid (hN.out (a, b, c) (hit_far (.inl f0)) rfl)
          have P5 := hid (show Cel W5 [(w.heap.size, 0, x), (w.heap.size, 1, y)] from Cel.cons (C5.out.get 0 _ rfl) (Cel.cons (C5.out.get 1 _ rfl) (fun q hq => by cases hq)))
          clear f0
          go_wp2_with fail
          go_roundw
          case rel => exact ⟨k + 1, by omega, by go_num, B5, P5, hh⟩
          case measure => simp [intOf]; omega
        | true =>
          have ax0 : W5.cell? ⟨wr.heap.size + 1, 0, none⟩ = some (.int .i64 (px a)) := C5.out.get 2 _ rfl
          have ay0 : W5.cell? ⟨wr.heap.size + 1, 1, none⟩ = some (.int .i64 (py a)) := C5.out.get 3 _ rfl
          go_wp2_with fail
          refine (far_any _ _ _).mono ?_
          rintro e W6 ⟨rfl, hbb⟩
          have C6 := hid (C5.out.step hbb)
          have B6 := bstep B5 hbb
          clear hbb C5 B5 ax0 ay0
          cases f1 : (nearB (px a) && nearB (py a)) with
          | false =>
            have hh := hid (hN.out (a, b, c) (hit_far (.inr (.inl f1))) rfl)
            have PP := hid (show Cel W6 [(w.heap.size, 0, x), (w.heap.size, 1, y)] from Cel.cons (C6.out.get 0 _ rfl) (Cel.cons (C6.out.get 1 _ rfl) (fun q hq => by cases hq)))
            go_wp2_with fail
            go_roundw
            case rel => exact ⟨k + 1, by omega, by go_num, B6, PP, hh⟩
            case measure => simp [intOf]; omega
          | true =>
            have bx0 : W6.cell? ⟨wr.heap.size + 1 + 1, 0, none⟩ = some (.int .i64 (px b)) := C6.out.get 4 _ rfl
            have by0 : W6.cell? ⟨wr.heap.size + 1 + 1, 1, none⟩ = some (.int .i64 (py b)) := C6.out.get 5 _ rfl
            go_wp2_with fail
            refine (far_any _ _ _).mono ?_
            rintro e W7 ⟨rfl, hbb⟩
            have C7 := hid (C6.out.step hbb)
            have B7 := bstep B6 hbb
            clear hbb C6 B6 bx0 by0
            cases f2 : (nearB (px b) && nearB (py b)) with
            | false =>
              have hh := hid (hN.out (a, b, c) (hit_far (.inr (.inr (.inl f2)))) rfl)
              have PP := hid (show Cel W7 [(w.heap.size, 0, x), (w.heap.size, 1, y)] from Cel.cons (C7.out.get 0 _ rfl) (Cel.cons (C7.out.get 1 _ rfl) (fun q hq => by cases hq)))
              go_wp2_with fail
              go_roundw
              case rel => exact ⟨k + 1, by omega, by go_num, B7, PP, hh⟩
              case measure => simp [intOf]; omega
            | true =>
              have cx0 : W7.cell? ⟨wr.heap.size + 1 + 1 + 1, 0, none⟩ = some (.int .i64 (px c)) := C7.out.get 6 _ rfl
              have cy0 : W7.cell? ⟨wr.heap.size + 1 + 1 + 1, 1, none⟩ = some (.int .i64 (py c)) := C7.out.get 7 _ rfl
              go_wp2_with fail
              refine (far_any _ _ _).mono ?_
              rintro e W8 ⟨rfl, hbb⟩
              have C8 := hid (C7.out.step hbb)
              have B8 := bstep B7 hbb
              clear hbb C7 B7 cx0 cy0
              cases f3 : (nearB (px c) && nearB (py c)) with
              | false =>
                have hh := hid (hN.out (a, b, c) (hit_far (.inr (.inr (.inr f3)))) rfl)
                have PP := hid (show Cel W8 [(w.heap.size, 0, x), (w.heap.size, 1, y)] from Cel.cons (C8.out.get 0 _ rfl) (Cel.cons (C8.out.get 1 _ rfl) (fun q hq => by cases hq)))
                go_wp2_with fail
                go_roundw
                case rel => exact ⟨k + 1, by omega, by go_num, B8, PP, hh⟩
                case measure => simp [intOf]; omega
              | true =>
                have HH := hid (hit_near (n := n) f0 f1 f2 f3 (by omega) (by omega) (by omega))
                rw [Bool.and_eq_true, nearB_iff, nearB_iff] at f0 f1 f2 f3
                have K1 := hid (rturn_any (px a) (py a) (px b) (py b) (px c) (py c) f1.1 f1.2 f2.1 f2.2 f3.1 f3.2)
                have K2 := hid (rturn_any (px a) (py a) (px b) (py b) x y f1.1 f1.2 f2.1 f2.2 f0.1 f0.2)
                have K3 := hid (rturn_any (px b) (py b) (px c) (py c) x y f2.1 f2.2 f3.1 f3.2 f0.1 f0.2)
                have K4 := hid (rturn_any (px c) (py c) (px a) (py a) x y f3.1 f3.2 f1.1 f1.2 f0.1 f0.2)
                clear f0 f1 f2 f3
                generalize tw (px a) (py a) (px b) (py b) (px c) (py c) = T1 at *
                generalize tw (px a) (py a) (px b) (py b) x y = T2 at *
                generalize tw (px b) (py b) (px c) (py c) x y = T3 at *
                generalize tw (px c) (py c) (px a) (py a) x y = T4 at *
                have ax0 : W8.cell? ⟨wr.heap.size + 1, 0, none⟩ = some (.int .i64 (px a)) := C8.out.get 2 _ rfl
                have ay0 : W8.cell? ⟨wr.heap.size + 1, 1, none⟩ = some (.int .i64 (py a)) := C8.out.get 3 _ rfl
                have bx0 : W8.cell? ⟨wr.heap.size + 1 + 1, 0, none⟩ = some (.int .i64 (px b)) := C8.out.get 4 _ rfl
                have by0 : W8.cell? ⟨wr.heap.size + 1 + 1, 1, none⟩ = some (.int .i64 (py b)) := C8.out.get 5 _ rfl
                have cx0 : W8.cell? ⟨wr.heap.size + 1 + 1 + 1, 0, none⟩ = some (.int .i64 (px c)) := C8.out.get 6 _ rfl
                have cy0 : W8.cell? ⟨wr.heap.size + 1 + 1 + 1, 1, none⟩ = some (.int .i64 (py c)) := C8.out.get 7 _ rfl
                go_wp2_with fail
                refine (K1.out _).mono ?_
                rintro e W9 ⟨rfl, hbb⟩
                have C9 := hid (C8.out.step hbb)
                have B9 := bstep B8 hbb
                clear hbb C8 B8 K1 ax0 ay0 bx0 by0 cx0 cy0
                have ax0 : W9.cell? ⟨wr.heap.size + 1, 0, none⟩ = some (.int .i64 (px a)) := C9.out.get 2 _ rfl
                have ay0 : W9.cell? ⟨wr.heap.size + 1, 1, none⟩ = some (.int .i64 (py a)) := C9.out.get 3 _ rfl
                have bx0 : W9.cell? ⟨wr.heap.size + 1 + 1, 0, none⟩ = some (.int .i64 (px b)) := C9.out.get 4 _ rfl
                have by0 : W9.cell? ⟨wr.heap.size + 1 + 1, 1, none⟩ = some (.int .i64 (py b)) := C9.out.get 5 _ rfl
                have px0 : W9.cell? ⟨w.heap.size, 0, none⟩ = some (.int .i64 x) := C9.out.get 0 _ rfl
                have py0 : W9.cell? ⟨w.heap.size, 1, none⟩ = some (.int .i64 y) := C9.out.get 1 _ rfl
                go_wp2_with fail
                refine (K2.out _).mono ?_
                rintro e W10 ⟨rfl, hbb⟩
                have C10 := hid (C9.out.step hbb)
                have B10 := bstep B9 hbb
                clear hbb C9 B9 K2 ax0 ay0 bx0 by0 px0 py0
                have bx0 : W10.cell? ⟨wr.heap.size + 1 + 1, 0, none⟩ = some (.int .i64 (px b)) := C10.out.get 4 _ rfl
                have by0 : W10.cell? ⟨wr.heap.size + 1 + 1, 1, none⟩ = some (.int .i64 (py b)) := C10.out.get 5 _ rfl
                have cx0 : W10.cell? ⟨wr.heap.size + 1 + 1 + 1, 0, none⟩ = some (.int .i64 (px c)) := C10.out.get 6 _ rfl
                have cy0 : W10.cell? ⟨wr.heap.size + 1 + 1 + 1, 1, none⟩ = some (.int .i64 (py c)) := C10.out.get 7 _ rfl
                have px0 : W10.cell? ⟨w.heap.size, 0, none⟩ = some (.int .i64 x) := C10.out.get 0 _ rfl
                have py0 : W10.cell? ⟨w.heap.size, 1, none⟩ = some (.int .i64 y) := C10.out.get 1 _ rfl
                go_wp2_with fail
                refine (K3.out _).mono ?_
                rintro e W11 ⟨rfl, hbb⟩
                have C11 := hid (C10.out.step hbb)
                have B11 := bstep B10 hbb
                clear hbb C10 B10 K3 bx0 by0 cx0 cy0 px0 py0
                have cx0 : W11.cell? ⟨wr.heap.size + 1 + 1 + 1, 0, none⟩ = some (.int .i64 (px c)) := C11.out.get 6 _ rfl
                have cy0 : W11.cell? ⟨wr.heap.size + 1 + 1 + 1, 1, none⟩ = some (.int .i64 (py c)) := C11.out.get 7 _ rfl
                have ax0 : W11.cell? ⟨wr.heap.size + 1, 0, none⟩ = some (.int .i64 (px a)) := C11.out.get 2 _ rfl
                have ay0 : W11.cell? ⟨wr.heap.size + 1, 1, none⟩ = some (.int .i64 (py a)) := C11.out.get 3 _ rfl
                have px0 : W11.cell? ⟨w.heap.size, 0, none⟩ = some (.int .i64 x) := C11.out.get 0 _ rfl
                have py0 : W11.cell? ⟨w.heap.size, 1, none⟩ = some (.int .i64 y) := C11.out.get 1 _ rfl
                go_wp2_with fail
                refine (K4.out _).mono ?_
                rintro e W12 ⟨rfl, hbb⟩
                have C12 := hid (C11.out.step hbb)
                have B12 := bstep B11 hbb
                clear hbb C11 B11 K4 cx0 cy0 ax0 ay0 px0 py0
                by_cases d1 : 0 < T1
                rotate_left
                · have hh := hid (hN.out (a, b, c) (HH.out.trans (by simp; omega)) rfl)
                  have PP := hid (show Cel W12 [(w.heap.size, 0, x), (w.heap.size, 1, y)] from Cel.cons (C12.out.get 0 _ rfl) (Cel.cons (C12.out.get 1 _ rfl) (fun q hq => by cases hq)))
                  go_wp2_with fail
                  go_roundw
                  case rel => exact ⟨k + 1, by omega, by go_num, B12, PP, hh⟩
                  case measure => simp [intOf]; omega
                by_cases d2 : 0 ≤ T2
                rotate_left
                · have hh := hid (hN.out (a, b, c) (HH.out.trans (by simp; omega)) rfl)
                  have PP := hid (show Cel W12 [(w.heap.size, 0, x), (w.heap.size, 1, y)] from Cel.cons (C12.out.get 0 _ rfl) (Cel.cons (C12.out.get 1 _ rfl) (fun q hq => by cases hq)))
                  go_wp2_with fail
                  go_roundw
                  case rel => exact ⟨k + 1, by omega, by go_num, B12, PP, hh⟩
                  case measure => simp [intOf]; omega
                by_cases d3 : 0 ≤ T3
                rotate_left
                · have hh := hid (hN.out (a, b, c) (HH.out.trans (by simp; omega)) rfl)
                  have PP := hid (show Cel W12 [(w.heap.size, 0, x), (w.heap.size, 1, y)] from Cel.cons (C12.out.get 0 _ rfl) (Cel.cons (C12.out.get 1 _ rfl) (fun q hq => by cases hq)))
                  go_wp2_with fail
                  go_roundw
                  case rel => exact ⟨k + 1, by omega, by go_num, B12, PP, hh⟩
                  case measure => simp [intOf]; omega
                by_cases d4 : 0 ≤ T4
                rotate_left
                · have hh := hid (hN.out (a, b, c) (HH.out.trans (by simp; omega)) rfl)
                  have PP := hid (show Cel W12 [(w.heap.size, 0, x), (w.heap.size, 1, y)] from Cel.cons (C12.out.get 0 _ rfl) (Cel.cons (C12.out.get 1 _ rfl) (fun q hq => by cases hq)))
                  go_wp2_with fail
                  go_roundw
                  case rel => exact ⟨k + 1, by omega, by go_num, B12, PP, hh⟩
                  case measure => simp [intOf]; omega
                have hh := hid (hY.out (a, b, c) (HH.out.trans (by simp; omega)) rfl)
                go_wp2_with fail
                go_ret
                exact ⟨by rw [hh.out]; rfl, B12.out⟩
    · have hkm : k = m := by omega
      subst hkm
      go_wp2
      go_ret
      exact ⟨by rw [loc_miss HA.out]; rfl, HB.out⟩
end Go.Proofs.YtdbebbbceeopaaaGreat

set_option linter.unusedSimpArgs false
namespace Go.Proofs.YtdbebbbceeopaaaGreat
open Go.RowKit

/-- The corner of a triangle that follows two others; -1: it has not these two. -/
def thirdI (x y z a b : Int) : Int := if x = a ∧ y = b then z else if y = a ∧ z = b then x else if z = a ∧ x = b then y else -1

set_option maxHeartbeats 1000000 in
theorem third_any (x y z a b : Int) (w : World) :
    Calls Tryz.prog 122 #[.agg #[.int .i64 x, .int .i64 y, .int .i64 z], .int .i64 a, .int .i64 b] w fun e w' => e = .returned (.int .i64 (thirdI x y z a b)) ∧ Below w.heap.size w w' := by
  have B := hid ((Below.refl w.heap.size w).alloc (Nat.le_refl _) (.cells #[.int .i64 x, .int .i64 y, .int .i64 z] 46))
  obtain ⟨r, hr⟩ : ∃ r, r = thirdI x y z a b := ⟨_, rfl⟩
  rw [← hr]
  have HR := hid hr
  clear hr
  by_cases c1 : x = a ∧ y = b
  · have d1 : (x == a) = true := by simp [c1.1]
    have d2 : (y == b) = true := by simp [c1.2]
    have e : Hid (r = z) := hid (by rw [HR.out, thirdI, if_pos c1])
    clear c1
    go_enter Tryz.func122, Tryz.ntmps122
    go_wp2
    go_ret
    exact ⟨by rw [e.out]; rfl, B.out⟩
  · have e1 : Hid (thirdI x y z a b = if y = a ∧ z = b then x else if z = a ∧ x = b then y else -1) := hid (by rw [thirdI, if_neg c1])
    have f1 : (x == a) = false ∨ ((x == a) = true ∧ (y == b) = false) := by
      by_cases k : x = a
      · exact .inr ⟨by simp [k], by simp; intro k2; exact c1 ⟨k, k2⟩⟩
      · exact .inl (by simp [k])
    clear c1
    by_cases c2 : y = a ∧ z = b
    · have d1 : (y == a) = true := by simp [c2.1]
      have d2 : (z == b) = true := by simp [c2.2]
      have e : Hid (r = x) := hid (by rw [HR.out, e1.out, if_pos c2])
      clear c2
      rcases f1 with f1 | ⟨f1, f1'⟩
      · go_enter Tryz.func122, Tryz.ntmps122
        go_wp2
        go_ret
        exact ⟨by rw [e.out]; rfl, B.out⟩
      · go_enter Tryz.func122, Tryz.ntmps122
        go_wp2
        go_ret
        exact ⟨by rw [e.out]; rfl, B.out⟩
    · have e2 : Hid (thirdI x y z a b = if z = a ∧ x = b then y else -1) := hid (by rw [e1.out, if_neg c2])
      have f2 : (y == a) = false ∨ ((y == a) = true ∧ (z == b) = false) := by
        by_cases k : y = a
        · exact .inr ⟨by simp [k], by simp; intro k2; exact c2 ⟨k, k2⟩⟩
        · exact .inl (by simp [k])
      clear c2
      by_cases c3 : z = a ∧ x = b
      · have d1 : (z == a) = true := by simp [c3.1]
        have d2 : (x == b) = true := by simp [c3.2]
        have e : Hid (r = y) := hid (by rw [HR.out, e2.out, if_pos c3])
        clear c3
        rcases f1 with f1 | ⟨f1, f1'⟩ <;> rcases f2 with f2 | ⟨f2, f2'⟩
        all_goals
          go_enter Tryz.func122, Tryz.ntmps122
          go_wp2
          go_ret
          exact ⟨by rw [e.out]; rfl, B.out⟩
      · have e : Hid (r = -1) := hid (by rw [HR.out, e2.out, if_neg c3])
        have f3 : (z == a) = false ∨ ((z == a) = true ∧ (x == b) = false) := by
          by_cases k : z = a
          · exact .inr ⟨by simp [k], by simp; intro k2; exact c3 ⟨k, k2⟩⟩
          · exact .inl (by simp [k])
        clear c3
        rcases f1 with f1 | ⟨f1, f1'⟩ <;> rcases f2 with f2 | ⟨f2, f2'⟩ <;> rcases f3 with f3 | ⟨f3, f3'⟩
        all_goals
          go_enter Tryz.func122, Tryz.ntmps122
          go_wp2
          go_ret
          exact ⟨by rw [e.out]; rfl, B.out⟩
end Go.Proofs.YtdbebbbceeopaaaGreat

set_option linter.unusedSimpArgs false
namespace Go.Proofs.YtdbebbbceeopaaaGreat
open Go.RowKit

def thirdZ (z : List Int) (k : Nat) (a b : Int) : Int := thirdI (z.getD (k * 3) 0) (z.getD (k * 3 + 1) 0) (z.getD (k * 3 + 2) 0) a b

/-- How many triangles have a side this way round, and the third corner of the last. -/
def acr (z : List Int) (a b : Int) : Nat → Int × Int
  | 0 => (0, -1)
  | k + 1 => if 0 ≤ thirdZ z k a b then ((acr z a b k).1 + 1, thirdZ z k a b) else acr z a b k

theorem acr_bd (z : List Int) (a b : Int) (k : Nat) : 0 ≤ (acr z a b k).1 ∧ (acr z a b k).1 ≤ k := by
  induction k with
  | zero => simp [acr]
  | succ k ih =>
    unfold acr
    split
    · dsimp only; omega
    · omega

set_option maxRecDepth 100000 in
set_option maxHeartbeats 2000000 in
theorem across_any (m mcap : Nat) (pt : Option Addr) (z : List Int) (a b : Int) (w : World) (hm : m ≤ 8796093021952) (ht : 0 < m → ∃ g o, pt = some ⟨g, o, none⟩ ∧ Trs w g o m z) :
    Calls Tryz.prog 89 #[.slice pt m mcap, .int .i64 a, .int .i64 b] w fun e w' => e = .returned (.tuple #[.int .i64 (acr z a b m).1, .int .i64 (acr z a b m).2]) ∧ Below w.heap.size w w' := by
  have HT := hid ht
  clear ht
  go_enter Tryz.func89, Tryz.ntmps89
  go_wp2
  go_loopw [8, 9, 10] (fun n c i wr => ∃ k : Nat, k ≤ m ∧ i = .int .i64 k ∧ n = .int .i64 (acr z a b k).1 ∧ c = .int .i64 (acr z a b k).2 ∧ Hid (Below w.heap.size w wr)) (fun _ _ i _ => m - (intOf i).toNat)
  case atStart => exact ⟨0, Nat.zero_le _, rfl, rfl, rfl, hid (Below.refl _ _)⟩
  case round =>
    obtain ⟨k, hk, rfl, rfl, rfl, HB⟩ := hrel
    by_cases hlt : k < m
    · have hlt' : (k : Int) < m := by omega
      obtain ⟨g, o, rfl, hT⟩ := HT.out (by omega)
      obtain ⟨t0, t1, t2⟩ := (hT.below HB.out).2 k hlt
      have bd := acr_bd z a b k
      have K := hid (third_any (z.getD (k * 3) 0) (z.getD (k * 3 + 1) 0) (z.getD (k * 3 + 2) 0) a b)
      have A1 : Hid (0 ≤ thirdZ z k a b → acr z a b (k + 1) = ((acr z a b k).1 + 1, thirdZ z k a b)) := hid (fun h => by rw [acr, if_pos h])
      have A2 : Hid (¬ 0 ≤ thirdZ z k a b → acr z a b (k + 1) = acr z a b k) := hid (fun h => by rw [acr, if_neg h])
      rw [show thirdI (z.getD (k * 3) 0) (z.getD (k * 3 + 1) 0) (z.getD (k * 3 + 2) 0) a b = thirdZ z k a b from rfl] at K
      generalize thirdZ z k a b = x at *
      generalize z.getD (k * 3) 0 = ta at *
      generalize z.getD (k * 3 + 1) 0 = tb at *
      generalize z.getD (k * 3 + 2) 0 = tc at *
      obtain ⟨n0, hn0⟩ : ∃ n0, (acr z a b k).1 = n0 := ⟨_, rfl⟩
      obtain ⟨c0, hc0⟩ : ∃ c0, (acr z a b k).2 = c0 := ⟨_, rfl⟩
      have N0 := hid hn0
      have C0 := hid hc0
      rw [hn0] at bd ⊢
      rw [hc0]
      clear hn0 hc0 hT HT
      go_wp2_with fail
      refine (K.out _).mono ?_
      rintro e W2 ⟨rfl, hb⟩
      have HB2 := bstep HB hb
      clear hb t0 t1 t2
      by_cases hx : 0 ≤ x
      · have e1 : Hid (acr z a b (k + 1) = (n0 + 1, x)) := hid (by rw [A1.out hx, N0.out])
        go_wp2_with fail
        go_roundw
        case rel => exact ⟨k + 1, by omega, by go_num, by rw [e1.out], by rw [e1.out], HB2⟩
        case measure => simp [intOf]; omega
      · have e1 : Hid (acr z a b (k + 1) = acr z a b k) := hid (A2.out (by omega))
        go_wp2_with fail
        go_roundw
        case rel => exact ⟨k + 1, by omega, by go_num, by rw [e1.out, N0.out], by rw [e1.out, C0.out], HB2⟩
        case measure => simp [intOf]; omega
    · have hkm : k = m := by omega
      subst hkm
      go_wp2
      go_ret2
      exact ⟨rfl, HB.out⟩

/-- Within, as the document has it. -/
def wnR (ax ay bx bya cx cy dx dy : Int) : Int :=
  (ax - dx) * ((bya - dy) * ((cx - dx) * (cx - dx) + (cy - dy) * (cy - dy)) - ((bx - dx) * (bx - dx) + (bya - dy) * (bya - dy)) * (cy - dy)) -
    (ay - dy) * ((bx - dx) * ((cx - dx) * (cx - dx) + (cy - dy) * (cy - dy)) - ((bx - dx) * (bx - dx) + (bya - dy) * (bya - dy)) * (cx - dx)) +
    ((ax - dx) * (ax - dx) + (ay - dy) * (ay - dy)) * ((bx - dx) * (cy - dy) - (bya - dy) * (cx - dx))

theorem sqr_bd {u v : Int} (h1 : -2000 ≤ u ∧ u ≤ 2000) (h2 : -2000 ≤ v ∧ v ≤ 2000) : -4000000 ≤ u * v ∧ u * v ≤ 4000000 := by
  have := bnd_mul (a := u) (b := v) (A := 2000) (B := 2000) h1.1 h1.2 h2.1 h2.2
  omega

theorem wide_bd {u v : Int} (h1 : -2000 ≤ u ∧ u ≤ 2000) (h2 : -8000000 ≤ v ∧ v ≤ 8000000) : -16000000000 ≤ u * v ∧ u * v ≤ 16000000000 := by
  have := bnd_mul (a := u) (b := v) (A := 2000) (B := 8000000) h1.1 h1.2 h2.1 h2.2
  omega

theorem wider_bd {u v : Int} (h1 : -2000 ≤ u ∧ u ≤ 2000) (h2 : -32000000000 ≤ v ∧ v ≤ 32000000000) : -64000000000000 ≤ u * v ∧ u * v ≤ 64000000000000 := by
  have := bnd_mul (a := u) (b := v) (A := 2000) (B := 32000000000) h1.1 h1.2 h2.1 h2.2
  omega

theorem both_bd {u v : Int} (h1 : -8000000 ≤ u ∧ u ≤ 8000000) (h2 : -8000000 ≤ v ∧ v ≤ 8000000) : -64000000000000 ≤ u * v ∧ u * v ≤ 64000000000000 := by
  have := bnd_mul (a := u) (b := v) (A := 8000000) (B := 8000000) h1.1 h1.2 h2.1 h2.2
  omega

set_option maxRecDepth 100000 in
set_option maxHeartbeats 4000000 in
theorem rwithin_any (ax ay bx bya cx cy dx dy : Int) (A : -1000 ≤ ax ∧ ax ≤ 1000) (A' : -1000 ≤ ay ∧ ay ≤ 1000) (B : -1000 ≤ bx ∧ bx ≤ 1000) (B' : -1000 ≤ bya ∧ bya ≤ 1000) (C : -1000 ≤ cx ∧ cx ≤ 1000) (C' : -1000 ≤ cy ∧ cy ≤ 1000) (D : -1000 ≤ dx ∧ dx ≤ 1000) (D' : -1000 ≤ dy ∧ dy ≤ 1000) (w : World) :
    Calls Tryz.prog 87 #[.agg #[.int .i64 ax, .int .i64 ay], .agg #[.int .i64 bx, .int .i64 bya], .agg #[.int .i64 cx, .int .i64 cy], .agg #[.int .i64 dx, .int .i64 dy]] w fun e w' => e = .returned (.int .i64 (wnR ax ay bx bya cx cy dx dy)) ∧ Below w.heap.size w w' := by
  unfold wnR
  have a1 : -2000 ≤ ax - dx ∧ ax - dx ≤ 2000 := by omega
  have a2 : -2000 ≤ ay - dy ∧ ay - dy ≤ 2000 := by omega
  have b1 : -2000 ≤ bx - dx ∧ bx - dx ≤ 2000 := by omega
  have b2 : -2000 ≤ bya - dy ∧ bya - dy ≤ 2000 := by omega
  have c1 : -2000 ≤ cx - dx ∧ cx - dx ≤ 2000 := by omega
  have c2 : -2000 ≤ cy - dy ∧ cy - dy ≤ 2000 := by omega
  have s1 := sqr_bd a1 a1
  have s2 := sqr_bd a2 a2
  have s3 := sqr_bd b1 b1
  have s4 := sqr_bd b2 b2
  have s5 := sqr_bd c1 c1
  have s6 := sqr_bd c2 c2
  have s7 := sqr_bd b1 c2
  have s8 := sqr_bd b2 c1
  have za : -8000000 ≤ (ax - dx) * (ax - dx) + (ay - dy) * (ay - dy) ∧ (ax - dx) * (ax - dx) + (ay - dy) * (ay - dy) ≤ 8000000 := by omega
  have zb : -8000000 ≤ (bx - dx) * (bx - dx) + (bya - dy) * (bya - dy) ∧ (bx - dx) * (bx - dx) + (bya - dy) * (bya - dy) ≤ 8000000 := by omega
  have zc : -8000000 ≤ (cx - dx) * (cx - dx) + (cy - dy) * (cy - dy) ∧ (cx - dx) * (cx - dx) + (cy - dy) * (cy - dy) ≤ 8000000 := by omega
  have m1 := wide_bd b2 zc
  have m2 := wide_bd c2 zb
  have m3 := wide_bd b1 zc
  have m4 := wide_bd c1 zb
  rw [Int.mul_comm (cy - dy)] at m2
  rw [Int.mul_comm (cx - dx) (_ + _)] at m4
  have x1 := wider_bd a1 (v := (bya - dy) * ((cx - dx) * (cx - dx) + (cy - dy) * (cy - dy)) - ((bx - dx) * (bx - dx) + (bya - dy) * (bya - dy)) * (cy - dy)) (by omega)
  have x2 := wider_bd a2 (v := (bx - dx) * ((cx - dx) * (cx - dx) + (cy - dy) * (cy - dy)) - ((bx - dx) * (bx - dx) + (bya - dy) * (bya - dy)) * (cx - dx)) (by omega)
  have x3 := both_bd za (v := (bx - dx) * (cy - dy) - (bya - dy) * (cx - dx)) (by omega)
  obtain ⟨s1, s1'⟩ := s1
  obtain ⟨s2, s2'⟩ := s2
  obtain ⟨s3, s3'⟩ := s3
  obtain ⟨s4, s4'⟩ := s4
  obtain ⟨s5, s5'⟩ := s5
  obtain ⟨s6, s6'⟩ := s6
  obtain ⟨s7, s7'⟩ := s7
  obtain ⟨s8, s8'⟩ := s8
  obtain ⟨m1, m1'⟩ := m1
  obtain ⟨m2, m2'⟩ := m2
  obtain ⟨m3, m3'⟩ := m3
  obtain ⟨m4, m4'⟩ := m4
  obtain ⟨x1, x1'⟩ := x1
  obtain ⟨x2, x2'⟩ := x2
  obtain ⟨x3, x3'⟩ := x3
  clear za zb zc
  go_enter Tryz.func87, Tryz.ntmps87
  go_wp2
  go_ret
  refine ⟨rfl, ?_⟩
  exact ((((Below.refl _ _).alloc (Nat.le_refl _) _).alloc (by simp) _).alloc (by simp; omega) _).alloc (by simp; omega) _
end Go.Proofs.YtdbebbbceeopaaaGreat
