import Derived.Test.YtdbebbbceeopaaaGreatG11
import Derived.Deep.RegionHeld3
import Derived.Test.YtdbebbbceeopaaaGreatG1
import Derived.Test.YtdbebbbceeopaaaGreatG9
set_option linter.unusedSimpArgs false
namespace Go.Proofs.YtdbebbbceeopaaaGreat
open Go.RowKit

set_option maxHeartbeats 400000 in
theorem rturn_any (ax ay bx bya cx cy : Int) (A : -1000 ≤ ax ∧ ax ≤ 1000) (A' : -1000 ≤ ay ∧ ay ≤ 1000) (B : -1000 ≤ bx ∧ bx ≤ 1000) (B' : -1000 ≤ bya ∧ bya ≤ 1000) (C : -1000 ≤ cx ∧ cx ≤ 1000) (C' : -1000 ≤ cy ∧ cy ≤ 1000) (w : World) :
    Calls Tryz.prog 86 #[.agg #[.int .i64 ax, .int .i64 ay], .agg #[.int .i64 bx, .int .i64 bya], .agg #[.int .i64 cx, .int .i64 cy]] w fun e w' => e = .returned (.int .i64 (tw ax ay bx bya cx cy)) ∧ Below w.heap.size w w' := by
  have hb := tw_bd A A' B B' C C'
  obtain ⟨hb1, hb2, hb3, hb4⟩ := hb
  unfold tw
  go_enter Tryz.func86, Tryz.ntmps86
  go_wp2
  go_ret
  refine ⟨rfl, ?_⟩
  exact (((Below.refl _ _).alloc (Nat.le_refl _) _).alloc (by simp) _).alloc (by simp; omega) _

set_option maxHeartbeats 400000 in
theorem far_any (x y : Int) (w : World) :
    Calls Tryz.prog 85 #[.agg #[.int .i64 x, .int .i64 y]] w fun e w' => e = .returned (.bool (!(nearB x && nearB y))) ∧ Below w.heap.size w w' := by
  unfold nearB
  by_cases h1 : x < -1000
  · have d1 : decide (x < -1000) = true := by simp; omega
    go_enter Tryz.func85, Tryz.ntmps85
    go_wp2
    go_ret
    exact ⟨by simp; omega, (Below.refl _ _).alloc (Nat.le_refl _) _⟩
  · have d1 : decide (x < -1000) = false := by simp; omega
    by_cases h2 : 1000 < x
    · have d2 : decide (1000 < x) = true := by simp; omega
      go_enter Tryz.func85, Tryz.ntmps85
      go_wp2
      go_ret
      exact ⟨by simp; omega, (Below.refl _ _).alloc (Nat.le_refl _) _⟩
    · have d2 : decide (1000 < x) = false := by simp; omega
      by_cases h3 : y < -1000
      · have d3 : decide (y < -1000) = true := by simp; omega
        go_enter Tryz.func85, Tryz.ntmps85
        go_wp2
        go_ret
        exact ⟨by simp; omega, (Below.refl _ _).alloc (Nat.le_refl _) _⟩
      · have d3 : decide (y < -1000) = false := by simp; omega
        by_cases h4 : 1000 < y
        · have d4 : decide (1000 < y) = true := by simp; omega
          go_enter Tryz.func85, Tryz.ntmps85
          go_wp2
          go_ret
          exact ⟨by simp; omega, (Below.refl _ _).alloc (Nat.le_refl _) _⟩
        · have d4 : decide (1000 < y) = false := by simp; omega
          go_enter Tryz.func85, Tryz.ntmps85
          go_wp2
          go_ret
          exact ⟨by simp, (Below.refl _ _).alloc (Nat.le_refl _) _⟩

/-- All of the first k points to the left of the way from a to b, or on its line? -/
def bordB (px py : Nat → Int) (a b : Nat) : Nat → Bool
  | 0 => true
  | k + 1 => bordB px py a b k && decide (0 ≤ T px py a b k)

theorem bordB_iff (px py : Nat → Int) (a b n : Nat) : bordB px py a b n = true ↔ ∀ i, i < n → 0 ≤ T px py a b i := by
  induction n with
  | zero => simp [bordB]
  | succ n ih =>
    simp only [bordB, Bool.and_eq_true, ih, decide_eq_true_eq]
    constructor
    · rintro ⟨h1, h2⟩ i hi
      by_cases e : i = n
      · subst e; exact h2
      · exact h1 i (by omega)
    · intro h
      exact ⟨fun i hi => h i (by omega), h n (by omega)⟩

theorem bordB_false (px py : Nat → Int) (a b n k : Nat) (hk : k < n) (h : T px py a b k < 0) : bordB px py a b n = false := by
  cases h' : bordB px py a b n with
  | false => rfl
  | true => have := (bordB_iff px py a b n).1 h' k hk; omega

def Bds (n : Nat) (px py : Nat → Int) : Prop := ∀ i, i < n → (-1000 ≤ px i ∧ px i ≤ 1000) ∧ (-1000 ≤ py i ∧ py i ≤ 1000)

theorem rturn_at {n : Nat} {px py : Nat → Int} (hbd : Bds n px py) (a b c : Nat) (ha : a < n) (hb : b < n) (hc : c < n) (w : World) :
    Calls Tryz.prog 86 #[.agg #[.int .i64 (px a), .int .i64 (py a)], .agg #[.int .i64 (px b), .int .i64 (py b)], .agg #[.int .i64 (px c), .int .i64 (py c)]] w fun e w' => e = .returned (.int .i64 (T px py a b c)) ∧ Below w.heap.size w w' :=
  rturn_any _ _ _ _ _ _ (hbd a ha).1 (hbd a ha).2 (hbd b hb).1 (hbd b hb).2 (hbd c hc).1 (hbd c hc).2 w

set_option maxRecDepth 100000 in
set_option maxHeartbeats 1000000 in
theorem border_any (px py : Nat → Int) (n qb qo cap a b : Nat) (w : World) (hp : Pts w qb qo n px py) (hn : n ≤ 40) (hbd : Bds n px py) (ha : a < n) (hb : b < n) :
    Calls Tryz.prog 82 #[.slice (some ⟨qb, qo, none⟩) n cap, .int .i64 a, .int .i64 b] w fun e w' => e = .returned (.bool (bordB px py a b n)) ∧ Below w.heap.size w w' := by
  have HP := hid hp
  have HBD := hid hbd
  have a' : (a : Int) < n := by omega
  have b' : (b : Int) < n := by omega
  clear hp hbd
  go_enter Tryz.func82, Tryz.ntmps82
  go_wp2
  go_loopw [7] (fun i wr => ∃ k : Nat, k ≤ n ∧ i = .int .i64 k ∧ bordB px py a b k = true ∧ Below w.heap.size w wr) (fun i _ => n - (intOf i).toNat)
  case atStart => exact ⟨0, Nat.zero_le _, rfl, rfl, Below.refl _ _⟩
  case round =>
    obtain ⟨k, hk, rfl, hB, hbl⟩ := hrel
    have HB := hid hbl
    have HA := hid hB
    clear hbl hB
    by_cases hlt : k < n
    · have hpw := HP.out.below HB.out HP.out.lt
      have xa := hpw.x a ha
      have ya := hpw.y a ha
      have xb := hpw.x b hb
      have yb := hpw.y b hb
      have xk := hpw.x k hlt
      have yk := hpw.y k hlt
      have gl := hpw.lt
      have K1 := hid (rturn_at HBD.out a b k ha hb hlt)
      have hlt' : (k : Int) < n := by omega
      have z1 : (0 : Int) ≤ (k : Int) := by omega
      have z2 : (0 : Int) ≤ (a : Int) := by omega
      have z3 : (0 : Int) ≤ (b : Int) := by omega
      clear hpw
      by_cases ht : T px py a b k < 0
      · have hd : decide (T px py a b k < 0) = true := by simp [ht]
        have HT := hid ht
        clear ht
        have HF := hid (bordB_false px py a b n k hlt HT.out)
        clear HT
        generalize T px py a b k = t at *
        go_wp2
        go_region_held3 (fun w' => w'.cell? ⟨qb, qo + a * 2, none⟩ = some (.int .i64 (px a)) ∧ w'.cell? ⟨qb, qo + a * 2 + 1, none⟩ = some (.int .i64 (py a)) ∧ w'.cell? ⟨qb, qo + b * 2, none⟩ = some (.int .i64 (px b)) ∧ w'.cell? ⟨qb, qo + b * 2 + 1, none⟩ = some (.int .i64 (py b)) ∧ w'.cell? ⟨qb, qo + k * 2, none⟩ = some (.int .i64 (px k)) ∧ w'.cell? ⟨qb, qo + k * 2 + 1, none⟩ = some (.int .i64 (py k))) (go_keep) ((go_at_call 86; refine (K1.out _).mono ?_; rintro e w6 ⟨rfl, hb6⟩; have u1 := (hb6.cell (p := ⟨qb, qo + a * 2, none⟩) gl).trans xa; have u2 := (hb6.cell (p := ⟨qb, qo + a * 2 + 1, none⟩) gl).trans ya; have u3 := (hb6.cell (p := ⟨qb, qo + b * 2, none⟩) gl).trans xb; have u4 := (hb6.cell (p := ⟨qb, qo + b * 2 + 1, none⟩) gl).trans yb; have u5 := (hb6.cell (p := ⟨qb, qo + k * 2, none⟩) gl).trans xk; have u6 := (hb6.cell (p := ⟨qb, qo + k * 2 + 1, none⟩) gl).trans yk; have HB6 := hid hb6; clear hb6))
        clear u1 u2 u3 u4 u5 u6 xa ya xb yb xk yk
        go_wp2
        go_ret
        exact ⟨by rw [HF.out]; rfl, HB.out.drew.trans (HB6.out.mono HB.out.size)⟩
      · have hd : decide (T px py a b k < 0) = false := by simp; omega
        have HT := hid (show bordB px py a b (k + 1) = true by rw [bordB, HA.out, decide_eq_true (by omega)]; rfl)
        clear ht
        generalize T px py a b k = t at *
        go_wp2
        go_region_held3 (fun w' => w'.cell? ⟨qb, qo + a * 2, none⟩ = some (.int .i64 (px a)) ∧ w'.cell? ⟨qb, qo + a * 2 + 1, none⟩ = some (.int .i64 (py a)) ∧ w'.cell? ⟨qb, qo + b * 2, none⟩ = some (.int .i64 (px b)) ∧ w'.cell? ⟨qb, qo + b * 2 + 1, none⟩ = some (.int .i64 (py b)) ∧ w'.cell? ⟨qb, qo + k * 2, none⟩ = some (.int .i64 (px k)) ∧ w'.cell? ⟨qb, qo + k * 2 + 1, none⟩ = some (.int .i64 (py k))) (go_keep) ((go_at_call 86; refine (K1.out _).mono ?_; rintro e w6 ⟨rfl, hb6⟩; have u1 := (hb6.cell (p := ⟨qb, qo + a * 2, none⟩) gl).trans xa; have u2 := (hb6.cell (p := ⟨qb, qo + a * 2 + 1, none⟩) gl).trans ya; have u3 := (hb6.cell (p := ⟨qb, qo + b * 2, none⟩) gl).trans xb; have u4 := (hb6.cell (p := ⟨qb, qo + b * 2 + 1, none⟩) gl).trans yb; have u5 := (hb6.cell (p := ⟨qb, qo + k * 2, none⟩) gl).trans xk; have u6 := (hb6.cell (p := ⟨qb, qo + k * 2 + 1, none⟩) gl).trans yk; have HB6 := hid hb6; clear hb6))
        clear u1 u2 u3 u4 u5 u6 xa ya xb yb xk yk
        go_wp2
        go_roundw
        case rel => exact ⟨k + 1, by omega, by go_num, HT.out, HB.out.drew.trans (HB6.out.mono HB.out.size)⟩
        case measure => simp [intOf]; omega
    · have : k = n := by omega
      subst this
      go_wp2
      go_ret
      exact ⟨by rw [HA.out]; rfl, HB.out⟩

theorem bx3 (w : World) (o1 o2 o3 : Obj) : Below w.heap.size w (((w.alloc o1).alloc o2).alloc o3) :=
  (((Below.refl _ _).alloc (Nat.le_refl _) _).alloc (by simp) _).alloc (by simp; omega) _

theorem boxes3 (wr : World) (a b c d e f : Value) {w4 : World} (hb : Below (((wr.alloc (.cells #[a, b] 35)).alloc (.cells #[c, d] 35)).alloc (.cells #[e, f] 35)).heap.size (((wr.alloc (.cells #[a, b] 35)).alloc (.cells #[c, d] 35)).alloc (.cells #[e, f] 35)) w4) :
    w4.cell? ⟨wr.heap.size, 0, none⟩ = some a ∧ w4.cell? ⟨wr.heap.size, 1, none⟩ = some b ∧ w4.cell? ⟨wr.heap.size + 1, 0, none⟩ = some c ∧ w4.cell? ⟨wr.heap.size + 1, 1, none⟩ = some d ∧ w4.cell? ⟨wr.heap.size + 1 + 1, 0, none⟩ = some e ∧ w4.cell? ⟨wr.heap.size + 1 + 1, 1, none⟩ = some f := by
  have e1 : (((wr.alloc (.cells #[a, b] 35)).alloc (.cells #[c, d] 35)).alloc (.cells #[e, f] 35)).heap.size = wr.heap.size + 3 := by simp
  have k : ∀ p : Addr, p.block < wr.heap.size + 3 → w4.cell? p = (((wr.alloc (.cells #[a, b] 35)).alloc (.cells #[c, d] 35)).alloc (.cells #[e, f] 35)).cell? p := fun p hp => hb.cell (by rw [e1]; exact hp)
  refine ⟨?_, ?_, ?_, ?_, ?_, ?_⟩
  · rw [k ⟨wr.heap.size, 0, none⟩ (by simp), World.cell?_alloc_past _ _ _ (by simp; omega), World.cell?_alloc_past _ _ _ (by simp), World.cell?_alloc_at _ _ _ _ rfl]; rfl
  · rw [k ⟨wr.heap.size, 1, none⟩ (by simp), World.cell?_alloc_past _ _ _ (by simp; omega), World.cell?_alloc_past _ _ _ (by simp), World.cell?_alloc_at _ _ _ _ rfl]; rfl
  · rw [k ⟨wr.heap.size + 1, 0, none⟩ (by simp), World.cell?_alloc_past _ _ _ (by simp), World.cell?_alloc_at _ _ _ _ (by simp)]; rfl
  · rw [k ⟨wr.heap.size + 1, 1, none⟩ (by simp), World.cell?_alloc_past _ _ _ (by simp), World.cell?_alloc_at _ _ _ _ (by simp)]; rfl
  · rw [k ⟨wr.heap.size + 1 + 1, 0, none⟩ (by simp), World.cell?_alloc_at _ _ _ _ (by simp)]; rfl
  · rw [k ⟨wr.heap.size + 1 + 1, 1, none⟩ (by simp), World.cell?_alloc_at _ _ _ _ (by simp)]; rfl

/-- triskelref.between, of numbers. -/
def btwB (ax ay bx bya cx cy : Int) : Bool :=
  decide (tw ax ay bx bya cx cy = 0) && !(cx == ax && cy == ay) && !(cx == bx && cy == bya) && decide ((cx - ax) * (cx - bx) ≤ 0) && decide ((cy - ay) * (cy - bya) ≤ 0)

set_option maxRecDepth 100000 in
set_option maxHeartbeats 1000000 in
theorem between_any (ax ay bx bya cx cy : Int) (A : -1000 ≤ ax ∧ ax ≤ 1000) (A' : -1000 ≤ ay ∧ ay ≤ 1000) (B : -1000 ≤ bx ∧ bx ≤ 1000) (B' : -1000 ≤ bya ∧ bya ≤ 1000) (C : -1000 ≤ cx ∧ cx ≤ 1000) (C' : -1000 ≤ cy ∧ cy ≤ 1000) (w : World) :
    Calls Tryz.prog 83 #[.agg #[.int .i64 ax, .int .i64 ay], .agg #[.int .i64 bx, .int .i64 bya], .agg #[.int .i64 cx, .int .i64 cy]] w fun e w' => e = .returned (.bool (btwB ax ay bx bya cx cy)) ∧ Below w.heap.size w w' := by
  have K1 := hid (rturn_any ax ay bx bya cx cy A A' B B' C C')
  have m1 := bnd_mul (a := cx - ax) (b := cx - bx) (A := 2000) (B := 2000) (by omega) (by omega) (by omega) (by omega)
  have m2 := bnd_mul (a := cy - ay) (b := cy - bya) (A := 2000) (B := 2000) (by omega) (by omega) (by omega) (by omega)
  have q1 := eqPt.1 (cx, cy) (ax, ay)
  have q2 := eqPt.1 (cx, cy) (bx, bya)
  simp only [encPt] at q1 q2
  unfold btwB
  generalize tw ax ay bx bya cx cy = t at *
  generalize (cx == ax && cy == ay) = e1 at *
  generalize (cx == bx && cy == bya) = e2 at *
  by_cases ht : t = 0
  · subst ht
    cases e1
    · cases e2
      · by_cases h1 : (cx - ax) * (cx - bx) ≤ 0
        · by_cases h2 : (cy - ay) * (cy - bya) ≤ 0
          · go_enter Tryz.func83, Tryz.ntmps83
            go_wp2_with fail
            refine (K1.out _).mono ?_
            rintro e w1 ⟨rfl, hb1⟩
            obtain ⟨b1, b2, b3, b4, b5, b6⟩ := boxes3 w _ _ _ _ _ _ hb1
            have HB1 := hid hb1
            clear hb1
            go_wp2_with fail
            go_ret
            exact ⟨by simp [h1, h2], (bx3 w _ _ _).trans (HB1.out.mono (by simp; omega))⟩
          · go_enter Tryz.func83, Tryz.ntmps83
            go_wp2_with fail
            refine (K1.out _).mono ?_
            rintro e w1 ⟨rfl, hb1⟩
            obtain ⟨b1, b2, b3, b4, b5, b6⟩ := boxes3 w _ _ _ _ _ _ hb1
            have HB1 := hid hb1
            clear hb1
            go_wp2_with fail
            go_ret
            exact ⟨by simp [h1, h2], (bx3 w _ _ _).trans (HB1.out.mono (by simp; omega))⟩
        · go_enter Tryz.func83, Tryz.ntmps83
          go_wp2_with fail
          refine (K1.out _).mono ?_
          rintro e w1 ⟨rfl, hb1⟩
          obtain ⟨b1, b2, b3, b4, b5, b6⟩ := boxes3 w _ _ _ _ _ _ hb1
          have HB1 := hid hb1
          clear hb1
          go_wp2_with fail
          go_ret
          exact ⟨by simp; omega, (bx3 w _ _ _).trans (HB1.out.mono (by simp; omega))⟩
      · go_enter Tryz.func83, Tryz.ntmps83
        go_wp2_with fail
        refine (K1.out _).mono ?_
        rintro e w1 ⟨rfl, hb1⟩
        obtain ⟨b1, b2, b3, b4, b5, b6⟩ := boxes3 w _ _ _ _ _ _ hb1
        have HB1 := hid hb1
        clear hb1
        go_wp2_with fail
        go_ret
        exact ⟨by simp, (bx3 w _ _ _).trans (HB1.out.mono (by simp; omega))⟩
    · go_enter Tryz.func83, Tryz.ntmps83
      go_wp2_with fail
      refine (K1.out _).mono ?_
      rintro e w1 ⟨rfl, hb1⟩
      obtain ⟨b1, b2, b3, b4, b5, b6⟩ := boxes3 w _ _ _ _ _ _ hb1
      have HB1 := hid hb1
      clear hb1
      go_wp2_with fail
      go_ret
      exact ⟨by simp, (bx3 w _ _ _).trans (HB1.out.mono (by simp; omega))⟩
  · have ht' : (t != 0) = true := by simpa using ht
    go_enter Tryz.func83, Tryz.ntmps83
    go_wp2_with fail
    refine (K1.out _).mono ?_
    rintro e w1 ⟨rfl, hb1⟩
    have HB1 := hid hb1
    clear hb1
    go_wp2_with fail
    go_ret
    exact ⟨by simp [ht], (bx3 w _ _ _).trans (HB1.out.mono (by simp; omega))⟩
end Go.Proofs.YtdbebbbceeopaaaGreat

set_option linter.unusedSimpArgs false
namespace Go.Proofs.YtdbebbbceeopaaaGreat
open Go.RowKit

theorem allB_false' (px py : Nat → Int) (n k : Nat) (hk : k < n) (h : (!(nearB (px k) && nearB (py k))) = true) : allB px py n = false :=
  allB_false px py n k hk (by cases hx : (nearB (px k) && nearB (py k)) with
    | false => rfl
    | true => rw [hx] at h; cases h)

set_option maxRecDepth 100000 in
set_option maxHeartbeats 2000000 in
theorem check_any (px py : Nat → Int) (n qb qo cap : Nat) (w : World) (hp : Pts w qb qo n px py) (h3 : 3 ≤ n) (hn : n ≤ 40) :
    Calls Tryz.prog 49 #[.slice (some ⟨qb, qo, none⟩) n cap] w fun e w' => e = .returned (.int .i64 (refI px py n)) ∧ Below w.heap.size w w' := by
  have g3 : decide ((n : Int) < 3) = false := by simp; omega
  have g40 : decide ((40 : Int) < n) = false := by simp; omega
  have HP := hid hp
  clear hp
  go_enter Tryz.func49, Tryz.ntmps49
  go_wp2
  go_loopw [3] (fun i wr => ∃ k : Nat, k ≤ n ∧ i = .int .i64 k ∧ allB px py k = true ∧ Below w.heap.size w wr) (fun i _ => n - (intOf i).toNat)
  case atStart => exact ⟨0, Nat.zero_le _, rfl, rfl, Below.refl _ _⟩
  case round =>
    obtain ⟨k, hk, rfl, ha, hb⟩ := hrel
    have HB := hid hb
    have HA := hid ha
    clear hb ha
    by_cases hlt : k < n
    · have hpw := HP.out.below HB.out HP.out.lt
      have hx := hpw.x k hlt
      have hy := hpw.y k hlt
      have hlt' : (k : Int) < n := by omega
      have hc := far_any (px k) (py k)
      cases hr : (!(nearB (px k) && nearB (py k)))
      · rw [hr] at hc
        have HC := hid hc
        have HR := hid (show allB px py (k + 1) = true by rw [allB, HA.out]; simpa using hr)
        clear hpw hc hr
        go_wp2_with fail
        refine (HC.out _).mono ?_
        rintro e w' ⟨rfl, hb'⟩
        have HB' := hid (HB.out.trans (hb'.mono HB.out.size))
        clear hb'
        go_wp2_with fail
        go_roundw
        case rel => exact ⟨k + 1, by omega, by go_num, HR.out, HB'.out⟩
        case measure => simp [intOf]; omega
      · rw [hr] at hc
        have HC := hid hc
        have HR := hid (allB_false' px py n k hlt hr)
        clear hpw hc hr
        go_wp2_with fail
        refine (HC.out _).mono ?_
        rintro e w' ⟨rfl, hb'⟩
        have HB' := hid (HB.out.trans (hb'.mono HB.out.size))
        clear hb'
        go_wp2_with fail
        go_ret
        exact ⟨by unfold refI; rw [if_pos HR.out]; rfl, HB'.out⟩
    · have hkn : k = n := by omega
      subst hkn
      have HBD : Hid (Bds k px py) := by
        intro i hi
        have := (allB_iff px py k).1 HA.out i hi
        exact ⟨(near_iff _).1 this.1, (near_iff _).1 this.2⟩
      go_wp2
      go_loopw [5] (fun i wr2 => ∃ j : Nat, j ≤ k ∧ i = .int .i64 j ∧ twB px py j = false ∧ Below w.heap.size w wr2) (fun i _ => k - (intOf i).toNat)
      case atStart => exact ⟨0, Nat.zero_le _, rfl, rfl, HB.out⟩
      case round =>
        obtain ⟨j, hj, rfl, hT, hb2⟩ := hrel
        have HB2 := hid hb2
        have HT := hid hT
        clear hb2 hT
        by_cases hjk : j < k
        · have hjk' : (j : Int) < k := by omega
          have HPW := hid (HP.out.below HB2.out HP.out.lt)
          obtain ⟨W0, rfl⟩ : ∃ W0, W0 = wr := ⟨wr, rfl⟩
          go_wp2
          go_loopw [6] (fun i wr3 => ∃ l : Nat, l ≤ j ∧ i = .int .i64 l ∧ (∀ m, m < l → ¬ (px j = px m ∧ py j = py m)) ∧ ∃ q, wr3 = W0.drewN q) (fun i _ => j - (intOf i).toNat)
          case atStart => exact ⟨0, Nat.zero_le _, rfl, fun m hm => by omega, 0, rfl⟩
          case round =>
            obtain ⟨l, hl, rfl, hno, q, rfl⟩ := hrel
            have HNO := hid hno
            clear hno
            have HQ := hid (⟨q, rfl⟩ : ∃ q', W0.drewN q = W0.drewN q')
            have HPQ : Hid (Pts (W0.drewN q) qb qo k px py) := ⟨HPW.out.lt, HPW.out.x, HPW.out.y⟩
            have HBQ := hid (below_drewN HB2.out q)
            generalize W0.drewN q = wz at *
            by_cases hlj : l < j
            · have xj := HPQ.out.x j hjk
              have yj := HPQ.out.y j hjk
              have xl := HPQ.out.x l (by omega)
              have yl := HPQ.out.y l (by omega)
              have hlj' : (l : Int) < j := by omega
              have hlk' : (l : Int) < k := by omega
              have heq := eqPt.1 (px j, py j) (px l, py l)
              simp only [encPt] at heq
              by_cases hs : px j = px l ∧ py j = py l
              · have hb : (px j == px l && py j == py l) = true := by simp [hs]
                have HR := hid ((twB_iff px py k).2 ⟨j, hjk, (twiceAt_iff px py j).2 ⟨l, hlj, hs.1, hs.2⟩⟩)
                rw [hb] at heq
                clear hb hs
                generalize px j = a1 at *
                generalize py j = a2 at *
                generalize px l = a3 at *
                generalize py l = a4 at *
                go_wp2
                go_quiet (fail)
                go_wp2
                go_ret
                exact ⟨by unfold refI; rw [if_neg (by rw [HA.out]; simp), if_pos HR.out]; rfl, below_drewN HBQ.out _⟩
              · have hb : (px j == px l && py j == py l) = false := by
                  cases hx : (px j == px l && py j == py l) with
                  | false => rfl
                  | true => simp at hx; exact absurd hx hs
                have HR : Hid (∀ m, m < l + 1 → ¬ (px j = px m ∧ py j = py m)) := by
                  intro m hm
                  by_cases e : m = l
                  · subst e; exact hs
                  · exact HNO.out m (by omega)
                rw [hb] at heq
                clear hb hs
                go_wp2
                go_quiet (fail)
                go_wp2
                go_roundw
                case rel => exact ⟨l + 1, by omega, by go_num, HR.out, drew_more' HQ.out _⟩
                case measure => simp [intOf]; omega
            · have : l = j := by omega
              subst this
              have HR : Hid (twB px py (l + 1) = false) := by
                show _ = _
                rw [twB, HT.out]
                cases hx : twiceAt px py l with
                | false => rfl
                | true =>
                  obtain ⟨m, hm, e⟩ := (twiceAt_iff px py l).1 hx
                  exact absurd e (HNO.out m hm)
              go_wp2
              go_roundw
              case rel => exact ⟨l + 1, by omega, by go_num, HR.out, HBQ.out⟩
              case measure => simp [intOf]; omega
        · have hjn : j = k := by omega
          subst hjn
          go_wp2
          go_loopw [7] (fun i wr3 => ∃ p : Nat, 2 ≤ p ∧ p ≤ j ∧ i = .int .i64 p ∧ flatB px py (p - 2) = true ∧ Below w.heap.size w wr3) (fun i _ => j - (intOf i).toNat)
          case atStart => exact ⟨2, Nat.le_refl _, by omega, rfl, rfl, HB2.out⟩
          case round =>
            obtain ⟨p, hp2, hpj, rfl, hF, hb3⟩ := hrel
            have HB3 := hid hb3
            have HF := hid hF
            clear hb3 hF
            by_cases hlm : p < j
            · have hpw := HP.out.below HB3.out HP.out.lt
              have xa := hpw.x 0 (by omega)
              have ya := hpw.y 0 (by omega)
              have xb := hpw.x 1 (by omega)
              have yb := hpw.y 1 (by omega)
              have xk := hpw.x p hlm
              have yk := hpw.y p hlm
              have gl := hpw.lt
              simp only [Nat.zero_mul, Nat.add_zero, Nat.one_mul] at xa ya xb yb
              have K1 := hid (rturn_at HBD.out 0 1 p (by omega) (by omega) hlm)
              have hlm' : (p : Int) < j := by omega
              have z0 : (0 : Int) < j := by omega
              have z0' : 0 < j := by omega
              have z1 : (1 : Int) < j := by omega
              have z2 : (0 : Int) ≤ p := by omega
              have hpe : p - 2 + 2 = p := by omega
              have HPE := hid hpe
              clear hpw hpe
              by_cases ht : T px py 0 1 p = 0
              · have HR := hid (show flatB px py (p + 1 - 2) = true by rw [show p + 1 - 2 = (p - 2) + 1 by omega, flatB, HF.out, HPE.out, ht]; rfl)
                rw [ht] at K1
                clear ht
                go_wp2
                go_region_held3 (fun w' => w'.cell? ⟨qb, qo, none⟩ = some (.int .i64 (px 0)) ∧ w'.cell? ⟨qb, qo + 1, none⟩ = some (.int .i64 (py 0)) ∧ w'.cell? ⟨qb, qo + 2, none⟩ = some (.int .i64 (px 1)) ∧ w'.cell? ⟨qb, qo + 2 + 1, none⟩ = some (.int .i64 (py 1)) ∧ w'.cell? ⟨qb, qo + p * 2, none⟩ = some (.int .i64 (px p)) ∧ w'.cell? ⟨qb, qo + p * 2 + 1, none⟩ = some (.int .i64 (py p))) (go_keep) ((go_at_call 86; refine (K1.out _).mono ?_; rintro e w6 ⟨rfl, hb6⟩; have u1 := (hb6.cell (p := ⟨qb, qo, none⟩) gl).trans xa; have u2 := (hb6.cell (p := ⟨qb, qo + 1, none⟩) gl).trans ya; have u3 := (hb6.cell (p := ⟨qb, qo + 2, none⟩) gl).trans xb; have u4 := (hb6.cell (p := ⟨qb, qo + 2 + 1, none⟩) gl).trans yb; have u5 := (hb6.cell (p := ⟨qb, qo + p * 2, none⟩) gl).trans xk; have u6 := (hb6.cell (p := ⟨qb, qo + p * 2 + 1, none⟩) gl).trans yk; have HB6 := hid hb6; clear hb6))
                clear u1 u2 u3 u4 u5 u6 xa ya xb yb xk yk
                go_wp2
                go_roundw
                case rel => exact ⟨p + 1, by omega, by omega, by go_num, HR.out, HB3.out.drew.trans (HB6.out.mono HB3.out.size)⟩
                case measure => simp [intOf]; omega
              · have HR := hid (flatB_false px py (j - 2) (p - 2) (by omega) (by rw [HPE.out]; exact ht))
                have ht' : (T px py 0 1 p != 0) = true := by simpa using ht
                clear ht
                generalize T px py 0 1 p = t at *
                go_wp2
                go_region_held3 (fun w' => w'.cell? ⟨qb, qo, none⟩ = some (.int .i64 (px 0)) ∧ w'.cell? ⟨qb, qo + 1, none⟩ = some (.int .i64 (py 0)) ∧ w'.cell? ⟨qb, qo + 2, none⟩ = some (.int .i64 (px 1)) ∧ w'.cell? ⟨qb, qo + 2 + 1, none⟩ = some (.int .i64 (py 1)) ∧ w'.cell? ⟨qb, qo + p * 2, none⟩ = some (.int .i64 (px p)) ∧ w'.cell? ⟨qb, qo + p * 2 + 1, none⟩ = some (.int .i64 (py p))) (go_keep) ((go_at_call 86; refine (K1.out _).mono ?_; rintro e w6 ⟨rfl, hb6⟩; have u1 := (hb6.cell (p := ⟨qb, qo, none⟩) gl).trans xa; have u2 := (hb6.cell (p := ⟨qb, qo + 1, none⟩) gl).trans ya; have u3 := (hb6.cell (p := ⟨qb, qo + 2, none⟩) gl).trans xb; have u4 := (hb6.cell (p := ⟨qb, qo + 2 + 1, none⟩) gl).trans yb; have u5 := (hb6.cell (p := ⟨qb, qo + p * 2, none⟩) gl).trans xk; have u6 := (hb6.cell (p := ⟨qb, qo + p * 2 + 1, none⟩) gl).trans yk; have HB6 := hid hb6; clear hb6))
                clear u1 u2 u3 u4 u5 u6 xa ya xb yb xk yk
                go_wp2
                go_ret
                exact ⟨by unfold refI; rw [if_neg (by rw [HA.out]; simp), if_neg (by rw [HT.out]; simp), if_neg (by rw [HR.out]; simp)]; rfl, HB3.out.drew.trans (HB6.out.mono HB3.out.size)⟩
            · have : p = j := by omega
              subst this
              go_wp2
              go_ret
              exact ⟨by unfold refI; rw [if_neg (by rw [HA.out]; simp), if_neg (by rw [HT.out]; simp), if_pos HF.out]; rfl, HB3.out⟩
end Go.Proofs.YtdbebbbceeopaaaGreat

set_option linter.unusedSimpArgs false
namespace Go.Proofs.YtdbebbbceeopaaaGreat
open Go.RowKit
open Geo

theorem pig : ∀ (n : Nat) (l : List Nat), l.Nodup → (∀ x ∈ l, x < n) → l.length ≤ n := by
  intro n
  induction n with
  | zero =>
    intro l _ hl
    cases l with
    | nil => exact Nat.le_refl _
    | cons x r => exact absurd (hl x (by simp)) (by omega)
  | succ n ih =>
    intro l hn hl
    have h1 := ih (l.erase n) (hn.erase n) (fun x hx => by
      have := (hn.mem_erase_iff).1 hx
      have := hl x this.2
      omega)
    rw [List.length_erase] at h1
    split at h1 <;> omega

theorem hull_le {px py : Nat → Int} {n : Nat} {h : List Nat} (H : IsHull px py n h) : h.length ≤ n := by
  refine pig n h ?_ ?_
  · refine List.pairwise_iff_getElem.2 ?_
    intro i j hi hj hij e
    have := H.inj i j hij hj
    rw [List.getD_eq_getElem?_getD, List.getD_eq_getElem?_getD, List.getElem?_eq_getElem hi, List.getElem?_eq_getElem hj] at this
    exact this e
  · intro x hx
    obtain ⟨i, hi, rfl⟩ := List.getElem_of_mem hx
    have := H.lt i hi
    rw [List.getD_eq_getElem?_getD, List.getElem?_eq_getElem hi] at this
    exact this

theorem btwB_iff (px py : Nat → Int) (a b c : Nat) : btwB (px a) (py a) (px b) (py b) (px c) (py c) = true ↔ Btw px py a b c := by
  unfold btwB Btw T
  simp only [Bool.and_eq_true, decide_eq_true_eq, Bool.not_eq_true', Bool.and_eq_false_iff, beq_eq_false_iff_ne]
  constructor
  · rintro ⟨⟨⟨⟨a1, a2⟩, a3⟩, a4⟩, a5⟩
    exact ⟨a1, by omega, by omega, a4, a5⟩
  · rintro ⟨a1, a2, a3, a4, a5⟩
    exact ⟨⟨⟨⟨a1, by omega⟩, by omega⟩, a4⟩, a5⟩

/-- What the inner loop of the reference knows behind k points: from corner a, whose next corner is b. -/
def Nx (px py : Nat → Int) (n a b k : Nat) (x : Int) : Prop :=
  (x = -1 ∧ k ≤ b) ∨ ∃ c : Nat, x = c ∧ c < n ∧ c < k ∧ c ≠ a ∧ (∀ p, p < n → 0 ≤ T px py a c p) ∧ (b < k → c = b)

theorem Nx.skip {px py : Nat → Int} {n a b k : Nat} {x : Int} (h : Nx px py n a b k x) (hk : k ≠ b) : Nx px py n a b (k + 1) x := by
  rcases h with ⟨h1, h2⟩ | ⟨c, h1, h2, h3, h4, h5, h6⟩
  · exact Or.inl ⟨h1, by omega⟩
  · exact Or.inr ⟨c, h1, h2, by omega, h4, h5, fun hb => h6 (by omega)⟩

theorem between_at {n : Nat} {px py : Nat → Int} (hbd : Bds n px py) (a b c : Nat) (ha : a < n) (hb : b < n) (hc : c < n) (w : World) :
    Calls Tryz.prog 83 #[.agg #[.int .i64 (px a), .int .i64 (py a)], .agg #[.int .i64 (px b), .int .i64 (py b)], .agg #[.int .i64 (px c), .int .i64 (py c)]] w fun e w' => e = .returned (.bool (btwB (px a) (py a) (px b) (py b) (px c) (py c))) ∧ Below w.heap.size w w' :=
  between_any _ _ _ _ _ _ (hbd a ha).1 (hbd a ha).2 (hbd b hb).1 (hbd b hb).2 (hbd c hc).1 (hbd c hc).2 w

theorem take_enc (h : List Nat) (r : Nat) (hr : r < h.length) : (h.take r).map encN ++ [.int .i64 (h.getD r 0 : Nat)] = (h.take (r + 1)).map encN := by
  rw [List.take_succ_eq_append_getElem hr, List.map_append, List.getD_eq_getElem?_getD, List.getElem?_eq_getElem hr]
  rfl

theorem one_owns (B : Nat) (w : World) (x : Nat) (hB : B ≤ w.heap.size) : (w.alloc (.cells #[.int .i64 (x : Nat)] 3)).ownsRow B 3 1 (.slice (some ⟨w.heap.size, 0, none⟩) 1 1) (0 + 1) ([x].map encN) :=
  ⟨rfl, .inr ⟨w.heap.size, 1, _, rfl, hB, heap_alloc_new w _, Nat.le_refl _, by unfold maxLen; omega, rfl, rfl⟩⟩

theorem take_one {h : List Nat} (hl : 0 < h.length) : h.take (0 + 1) = [h.getD 0 0] := by
  cases h with
  | nil => simp at hl
  | cons x r => rfl

def lexL (px py : Nat → Int) (i j : Nat) : Prop := px i < px j ∨ (px i = px j ∧ py i < py j)

set_option maxRecDepth 100000 in
set_option maxHeartbeats 4000000 in
theorem refHull_any (px py : Nat → Int) (n qb qo cap : Nat) (w : World) (hp : Pts w qb qo n px py) (h3 : 3 ≤ n) (hn : n ≤ 40) (hr : refI px py n = 0) (h : List Nat) (hH : IsHull px py n h) (hne : ∀ i j, i < n → j < n → i ≠ j → ¬ (px i = px j ∧ py i = py j)) :
    Calls Tryz.prog 46 #[.slice (some ⟨qb, qo, none⟩) n cap] w fun e w' => ∃ v, e = .returned (.tuple #[v, .int .i64 0]) ∧ Below w.heap.size w w' ∧ w'.ownsRow w.heap.size 3 1 v h.length (h.map encN) := by
  have c1 := check_any px py n qb qo cap w hp h3 hn
  rw [hr] at c1
  have C1 := hid c1
  have HP := hid hp
  have HH := hid hH
  have HNE := hid hne
  have HBD : Hid (Bds n px py) := by
    intro i hi
    have hA : allB px py n = true := by
      cases hx : allB px py n with
      | true => rfl
      | false => simp [refI, hx] at hr
    have := (allB_iff px py n).1 hA i hi
    exact ⟨(near_iff _).1 this.1, (near_iff _).1 this.2⟩
  clear hp hH hne hr c1
  obtain ⟨i0, hi, hz0, hz1, hz2⟩ := info_parts Tryz.info3
  go_enter Tryz.func46, Tryz.ntmps46
  go_wp2_with fail
  refine C1.out.mono ?_
  rintro e w1 ⟨rfl, hb1⟩
  have HB1 := hid hb1
  have HP1 := hid (HP.out.below hb1 HP.out.lt)
  clear C1 hb1
  go_wp2
  go_loopw [5, 6] (fun f i wr => ∃ k fi : Nat, k ≤ n ∧ i = .int .i64 k ∧ fi < n ∧ f = .int .i64 fi ∧ (∀ m, m < k → ¬ lexL px py m fi) ∧ ∃ q, wr = w1.drewN q) (fun _ i _ => n - (intOf i).toNat)
  case atStart => exact ⟨0, 0, Nat.zero_le _, rfl, by omega, rfl, fun m hm => by omega, 0, rfl⟩
  case round =>
    obtain ⟨k, fi, hk, rfl, hfi, rfl, hmin, q, rfl⟩ := hrel
    have HM := hid hmin
    have HQ := hid (⟨q, rfl⟩ : ∃ q', w1.drewN q = w1.drewN q')
    have HPQ : Hid (Pts (w1.drewN q) qb qo n px py) := ⟨HP1.out.lt, HP1.out.x, HP1.out.y⟩
    clear hmin
    by_cases hkn : k < n
    · have xk := HPQ.out.x k hkn
      have yk := HPQ.out.y k hkn
      have xf := HPQ.out.x fi hfi
      have yf := HPQ.out.y fi hfi
      have k' : (k : Int) < n := by omega
      have f' : (fi : Int) < n := by omega
      have HMT : Hid (lexL px py k fi → ∀ m, m < k + 1 → ¬ lexL px py m k) := by
        intro hl m hm
        by_cases e : m = k
        · subst e; unfold lexL; omega
        · have := HM.out m (by omega)
          unfold lexL at *
          omega
      have HMF : Hid (¬ lexL px py k fi → ∀ m, m < k + 1 → ¬ lexL px py m fi) := by
        intro hl m hm
        by_cases e : m = k
        · subst e; exact hl
        · exact HM.out m (by omega)
      generalize w1.drewN q = wq at *
      by_cases d1 : px k < px fi
      · have b1 : decide (px k < px fi) = true := by simp [d1]
        have HL := hid (show lexL px py k fi from Or.inl d1)
        clear d1
        go_wp2
        go_quiet (fail)
        go_wp2
        go_roundw
        case rel => exact ⟨k + 1, k, by omega, by go_num, hkn, rfl, HMT.out HL.out, drew_more' HQ.out _⟩
        case measure => simp [intOf]; omega
      · have b1 : decide (px k < px fi) = false := by simp; omega
        by_cases d2 : px k = px fi
        · have b2 : (px k == px fi) = true := by simp [d2]
          by_cases d3 : py k < py fi
          · have b3 : decide (py k < py fi) = true := by simp [d3]
            have HL := hid (show lexL px py k fi from Or.inr ⟨d2, d3⟩)
            clear d1 d2 d3
            go_wp2
            go_quiet (fail)
            go_wp2
            go_roundw
            case rel => exact ⟨k + 1, k, by omega, by go_num, hkn, rfl, HMT.out HL.out, drew_more' HQ.out _⟩
            case measure => simp [intOf]; omega
          · have b3 : decide (py k < py fi) = false := by simp; omega
            have HL := hid (show ¬ lexL px py k fi by unfold lexL; omega)
            clear d1 d2 d3
            go_wp2
            go_quiet (fail)
            go_wp2
            go_roundw
            case rel => exact ⟨k + 1, fi, by omega, by go_num, hfi, rfl, HMF.out HL.out, drew_more' HQ.out _⟩
            case measure => simp [intOf]; omega
        · have b2 : (px k == px fi) = false := by simp [d2]
          have HL := hid (show ¬ lexL px py k fi by unfold lexL; omega)
          clear d1 d2
          go_wp2
          go_quiet (fail)
          go_wp2
          go_roundw
          case rel => exact ⟨k + 1, fi, by omega, by go_num, hfi, rfl, HMF.out HL.out, drew_more' HQ.out _⟩
          case measure => simp [intOf]; omega
    · have hkn' : k = n := by omega
      subst hkn'
      have hf0 : fi = h.getD 0 0 := by
        have hl := HH.out.lt 0 (by have := HH.out.len; omega)
        rcases HH.out.first fi hfi with e | e
        · exact e
        · exact absurd (show lexL px py (h.getD 0 0) fi by unfold Lt Lex at e; unfold lexL; omega) (HM.out _ hl)
      have HF0 := hid hf0
      have hm3 := HH.out.len
      have hmn := hull_le HH.out
      have HBQ := hid (below_drewN HB1.out q)
      generalize w1.drewN q = wq at *
      clear hf0 HM HQ HP1 HB1
      obtain ⟨m, hm⟩ : ∃ m, m = h.length := ⟨_, rfl⟩
      have HMM := hid hm
      rw [← hm] at hm3 hmn
      clear hm
      have HO0 := hid (one_owns w.heap.size wq fi HBQ.out.size)
      have HB0 := hid (HBQ.out.alloc HBQ.out.size (.cells #[.int .i64 (fi : Nat)] 3))
      have HP0 : Hid (Pts (wq.alloc (.cells #[.int .i64 (fi : Nat)] 3)) qb qo k px py) := HPQ.out.below ((Below.refl wq.heap.size wq).alloc (Nat.le_refl _) _) HPQ.out.lt
      go_wp2
      go_loopw [7] (fun o wr => ∃ r : Nat, r < m ∧ wr.ownsRow w.heap.size 3 1 o (r + 1) ((h.take (r + 1)).map encN) ∧ Below w.heap.size w wr ∧ Pts wr qb qo k px py) (fun o _ => m - lenOf o)
      case atStart => exact ⟨0, by omega, by rw [take_one (by rw [← HMM.out]; omega), ← HF0.out]; exact HO0.out, HB0.out, HP0.out⟩
      case round =>
        obtain ⟨r, hrm, ho, hb, hpw⟩ := hrel
        clear HO0 HB0 HP0
        obtain ⟨g, cp, hv, hgb, hgl, hcp⟩ := ownsRow_shape ho (by omega)
        subst hv
        obtain ⟨a, ha⟩ : ∃ a, a = h.getD r 0 := ⟨_, rfl⟩
        obtain ⟨b, hb'⟩ : ∃ b, b = h.getD ((r + 1) % m) 0 := ⟨_, rfl⟩
        obtain ⟨c, hc'⟩ : ∃ c, c = h.getD ((r + 2) % m) 0 := ⟨_, rfl⟩
        have hca : wr.cell? ⟨g, r, none⟩ = some (.int .i64 (a : Nat)) := by
          rw [ho.cellAt r (by omega), ha]
          simp [encN, List.getElem?_take, show r < r + 1 by omega, show r < h.length by rw [← HMM.out]; exact hrm]
        have ha1 : a < k := by rw [ha]; exact HH.out.lt r (by rw [← HMM.out]; exact hrm)
        have hb1 : b < k := by rw [hb']; exact HH.out.lt _ (by rw [← HMM.out]; exact Nat.mod_lt _ (by omega))
        have hc1 : c < k := by rw [hc']; exact HH.out.lt _ (by rw [← HMM.out]; exact Nat.mod_lt _ (by omega))
        have hs1 : ∀ p, p < k → 0 ≤ T px py a b p := by
          have := HH.out.side r (by rw [← HMM.out]; exact hrm)
          rw [← HMM.out, ← ha, ← hb'] at this
          exact this
        have hs2 : ∀ p, p < k → 0 ≤ T px py b c p := by
          have := HH.out.side ((r + 1) % m) (by rw [← HMM.out]; exact Nat.mod_lt _ (by omega))
          rw [← HMM.out, ← hb', Nat.mod_add_mod, ← hc'] at this
          exact this
        have htn : 0 < T px py a b c := by
          have := HH.out.turn r (by rw [← HMM.out]; exact hrm)
          rw [← HMM.out, ← ha, ← hb', ← hc'] at this
          exact this
        have hab : a ≠ b := by
          intro e
          rw [e, T_cyc, T_cyc, T_two] at htn
          omega
        have HNEAR := hid (fun d (hd : d < k) (hda : d ≠ a) (hdb : d ≠ b) hbo => step_near hb1 hd hs1 hs2 hc1 htn HNE.out ha1 hda hdb hbo)
        have HS1 := hid hs1
        have HAB := hid hab
        have HO := hid ho
        have HB := hid hb
        have HPW := hid hpw
        have HBB := hid hb'
        clear hs1 hs2 htn hab ho hb hpw ha hb' hc'
        have ea : ((r + 1 : Nat) : Int) - 1 = (r : Int) := by omega
        obtain ⟨W0, rfl⟩ : ∃ W0, W0 = wr := ⟨wr, rfl⟩
        go_wp2
        go_loopw [9, 10] (fun nx bb w2 => ∃ (j : Nat) (x : Int), j ≤ k ∧ bb = .int .i64 j ∧ nx = .int .i64 x ∧ Nx px py k a b j x ∧ Below W0.heap.size W0 w2) (fun _ bb _ => k - (intOf bb).toNat)
        case atStart => exact ⟨0, -1, Nat.zero_le _, rfl, rfl, Or.inl ⟨rfl, Nat.zero_le _⟩, Below.refl _ _⟩
        case round =>
          obtain ⟨j, x, hj, rfl, rfl, hnx, hb2⟩ := hrel
          have HNX := hid hnx
          have HB2 := hid hb2
          clear hnx hb2
          by_cases hjk : j < k
          · have hjk' : (j : Int) < k := by omega
            by_cases hja : j = a
            · have hd : ((j : Int) == (a : Int)) = true := by simp [hja]
              have HR := hid (HNX.out.skip (show j ≠ b by rw [hja]; exact HAB.out))
              clear hja
              go_wp2
              go_roundw
              case rel => exact ⟨j + 1, x, by omega, by go_num, rfl, HR.out, HB2.out⟩
              case measure => simp [intOf]; omega
            · have hd : ((j : Int) == (a : Int)) = false := by simp; omega
              have HJA := hid hja
              clear hja
              have hp2 := HPW.out.below HB2.out HPW.out.lt
              have hbc := border_any px py k qb qo cap a j wr hp2 hn HBD.out ha1 hjk
              cases hbo : bordB px py a j k
              · rw [hbo] at hbc
                have HR := hid (HNX.out.skip (show j ≠ b by
                  intro e
                  rw [e, (bordB_iff px py a b k).2 HS1.out] at hbo
                  cases hbo))
                have HC := hid hbc
                clear hbc hbo hp2
                go_wp2_with fail
                refine HC.out.mono ?_
                rintro e w3 ⟨rfl, hb3⟩
                have HB3 := hid (HB2.out.trans (hb3.mono HB2.out.size))
                clear hb3 HC
                go_wp2_with fail
                go_roundw
                case rel => exact ⟨j + 1, x, by omega, by go_num, rfl, HR.out, HB3.out⟩
                case measure => simp [intOf]; omega
              · rw [hbo] at hbc
                have HBO := hid ((bordB_iff px py a j k).1 hbo)
                have HC := hid hbc
                have HP2 := hid hp2
                clear hbc hbo hp2
                rcases HNX.out with ⟨hx, hjb⟩ | ⟨c2, hx, hc2, hc2j, hc2a, hc2b, hc2e⟩
                · have HR : Hid (Nx px py k a b (j + 1) (j : Int)) := Or.inr ⟨j, rfl, hjk, by omega, HJA.out, HBO.out, fun hb => by omega⟩
                  subst hx
                  go_wp2_with fail
                  refine HC.out.mono ?_
                  rintro e w3 ⟨rfl, hb3⟩
                  have HB3 := hid (HB2.out.trans (hb3.mono HB2.out.size))
                  clear hb3 HC
                  go_wp2
                  go_quiet (fail)
                  go_wp2
                  go_roundw
                  case rel => exact ⟨j + 1, j, by omega, by go_num, rfl, HR.out, below_drewN HB3.out _⟩
                  case measure => simp [intOf]; omega
                · subst hx
                  have HC2 := hid (And.intro hc2b hc2e)
                  clear hc2b hc2e
                  go_wp2_with fail
                  refine HC.out.mono ?_
                  rintro e w3 ⟨rfl, hb3⟩
                  have hp3 := HP2.out.below hb3 HP2.out.lt
                  have HB3 := hid (HB2.out.trans (hb3.mono HB2.out.size))
                  have xa := hp3.x a ha1
                  have ya := hp3.y a ha1
                  have xj := hp3.x j hjk
                  have yj := hp3.y j hjk
                  have xc := hp3.x c2 hc2
                  have yc := hp3.y c2 hc2
                  have gl := hp3.lt
                  have q1 : (a : Int) < k := by omega
                  have q2 : (c2 : Int) < k := by omega
                  have q3 : (0 : Int) ≤ c2 := by omega
                  have q4 : (0 : Int) ≤ a := by omega
                  have q5 : (0 : Int) ≤ j := by omega
                  have hkb := between_at HBD.out a j c2 ha1 hjk hc2
                  have hbi := btwB_iff px py a j c2
                  clear hb3 HC hp3
                  cases hbt : btwB (px a) (py a) (px j) (py j) (px c2) (py c2)
                  · rw [hbt] at hkb hbi
                    have HR : Hid (Nx px py k a b (j + 1) (c2 : Int)) := by
                      refine Or.inr ⟨c2, rfl, hc2, by omega, hc2a, HC2.out.1, fun hb => ?_⟩
                      by_cases e : j = b
                      · by_cases e2 : c2 = b
                        · exact e2
                        · have := (HNEAR.out c2 hc2 hc2a e2 HC2.out.1).1
                          rw [← e] at this
                          exact absurd (hbi.2 this) (by simp)
                      · exact HC2.out.2 (by omega)
                    have K1 := hid hkb
                    clear hkb hbi hbt
                    go_wp2
                    go_region_held3 (fun w' => w'.cell? ⟨qb, qo + a * 2, none⟩ = some (.int .i64 (px a)) ∧ w'.cell? ⟨qb, qo + a * 2 + 1, none⟩ = some (.int .i64 (py a)) ∧ w'.cell? ⟨qb, qo + j * 2, none⟩ = some (.int .i64 (px j)) ∧ w'.cell? ⟨qb, qo + j * 2 + 1, none⟩ = some (.int .i64 (py j)) ∧ w'.cell? ⟨qb, qo + c2 * 2, none⟩ = some (.int .i64 (px c2)) ∧ w'.cell? ⟨qb, qo + c2 * 2 + 1, none⟩ = some (.int .i64 (py c2))) (go_keep) ((go_at_call 83; refine (K1.out _).mono ?_; rintro e w6 ⟨rfl, hb6⟩; have u1 := (hb6.cell (p := ⟨qb, qo + a * 2, none⟩) gl).trans xa; have u2 := (hb6.cell (p := ⟨qb, qo + a * 2 + 1, none⟩) gl).trans ya; have u3 := (hb6.cell (p := ⟨qb, qo + j * 2, none⟩) gl).trans xj; have u4 := (hb6.cell (p := ⟨qb, qo + j * 2 + 1, none⟩) gl).trans yj; have u5 := (hb6.cell (p := ⟨qb, qo + c2 * 2, none⟩) gl).trans xc; have u6 := (hb6.cell (p := ⟨qb, qo + c2 * 2 + 1, none⟩) gl).trans yc; have HB6 := hid hb6; clear hb6))
                    clear u1 u2 u3 u4 u5 u6 xa ya xj yj xc yc
                    go_wp2
                    go_roundw
                    case rel => exact ⟨j + 1, c2, by omega, by go_num, rfl, HR.out, HB3.out.drew.trans (HB6.out.mono HB3.out.size)⟩
                    case measure => simp [intOf]; omega
                  · rw [hbt] at hkb hbi
                    have HR : Hid (Nx px py k a b (j + 1) (j : Int)) := by
                      refine Or.inr ⟨j, rfl, hjk, by omega, HJA.out, HBO.out, fun hb => ?_⟩
                      by_cases e : j = b
                      · exact e
                      · have e2 : c2 = b := HC2.out.2 (by omega)
                        have := (HNEAR.out j hjk HJA.out e HBO.out).2
                        rw [← e2] at this
                        exact absurd (hbi.1 rfl) this
                    have K1 := hid hkb
                    clear hkb hbi hbt
                    go_wp2
                    go_region_held3 (fun w' => w'.cell? ⟨qb, qo + a * 2, none⟩ = some (.int .i64 (px a)) ∧ w'.cell? ⟨qb, qo + a * 2 + 1, none⟩ = some (.int .i64 (py a)) ∧ w'.cell? ⟨qb, qo + j * 2, none⟩ = some (.int .i64 (px j)) ∧ w'.cell? ⟨qb, qo + j * 2 + 1, none⟩ = some (.int .i64 (py j)) ∧ w'.cell? ⟨qb, qo + c2 * 2, none⟩ = some (.int .i64 (px c2)) ∧ w'.cell? ⟨qb, qo + c2 * 2 + 1, none⟩ = some (.int .i64 (py c2))) (go_keep) ((go_at_call 83; refine (K1.out _).mono ?_; rintro e w6 ⟨rfl, hb6⟩; have u1 := (hb6.cell (p := ⟨qb, qo + a * 2, none⟩) gl).trans xa; have u2 := (hb6.cell (p := ⟨qb, qo + a * 2 + 1, none⟩) gl).trans ya; have u3 := (hb6.cell (p := ⟨qb, qo + j * 2, none⟩) gl).trans xj; have u4 := (hb6.cell (p := ⟨qb, qo + j * 2 + 1, none⟩) gl).trans yj; have u5 := (hb6.cell (p := ⟨qb, qo + c2 * 2, none⟩) gl).trans xc; have u6 := (hb6.cell (p := ⟨qb, qo + c2 * 2 + 1, none⟩) gl).trans yc; have HB6 := hid hb6; clear hb6))
                    clear u1 u2 u3 u4 u5 u6 xa ya xj yj xc yc
                    go_wp2
                    go_roundw
                    case rel => exact ⟨j + 1, j, by omega, by go_num, rfl, HR.out, HB3.out.drew.trans (HB6.out.mono HB3.out.size)⟩
                    case measure => simp [intOf]; omega
          · have hjk' : j = k := by omega
            subst hjk'
            have hxb : x = (b : Int) := by
              rcases HNX.out with ⟨_, hjb⟩ | ⟨c2, hx, _, _, _, _, he⟩
              · omega
              · rw [hx, he hb1]
            subst hxb
            have hlb : decide ((b : Int) < 0) = false := by simp
            have HBF := hid (HB.out.trans (HB2.out.mono HB.out.size))
            have HOF := hid (owns_below HO.out HB2.out)
            have HPF := hid (HPW.out.below HB2.out HPW.out.lt)
            by_cases hrm1 : r + 1 = m
            · have hbf : ((b : Int) == (fi : Int)) = true := by
                have : b = fi := by rw [HBB.out, hrm1, Nat.mod_self, HF0.out]
                simp [this]
              have HE : Hid (wr.ownsRow w.heap.size 3 1 (.slice (some ⟨g, 0, none⟩) (r + 1) cp) h.length (h.map encN)) := by
                have h1 := HOF.out
                rw [hrm1, HMM.out, List.take_length] at h1
                rw [hrm1, HMM.out]
                exact h1
              go_wp2
              go_ret2
              exact ⟨_, rfl, HBF.out, HE.out⟩
            · have hlt : r + 1 < m := by omega
              have hbr : b = h.getD (r + 1) 0 := by rw [HBB.out, Nat.mod_eq_of_lt hlt]
              have hbf : ((b : Int) == (fi : Int)) = false := by
                have : b ≠ fi := by rw [hbr, HF0.out]; exact (HH.out.inj 0 (r + 1) (by omega) (by rw [← HMM.out]; exact hlt)).symm
                simp; omega
              have hlg : decide ((j : Int) < (r : Int) + 1) = false := by simp; omega
              have HT := hid (take_enc h (r + 1) (by rw [← HMM.out]; exact hlt))
              rw [← hbr] at HT
              clear hbr
              go_wp2_with (at_builtin; go_must (refine wpList_append_own _ rfl _ _ 25 rfl w.heap.size 3 i0 (.int .i64 0) 1 8 Tryz.underlying25 hi hz0 hz1 hz2 rfl (by decide) _ _ _ rfl (HOF.out.alloc _) ⟨wr.heap.size, 0, none⟩ 1 1 [.int .i64 (b : Nat)] rfl rfl ?c1 ?c2 ?c3 ?c4 ?c5 ?_))
              case c1 =>
                intro l u hl
                match l, hl with
                | 0, hl => simp at hl; subst hl; simp [Addr.add]
              case c2 => intro u hu; simp at hu; subst hu; rfl
              case c3 => unfold maxLen; omega
              case c4 => omega
              case c5 => have := HBF.out.size; simp; omega
              intro v' w7 hown' hgrow _
              have hb7 : Below w.heap.size w w7 := (HBF.out.alloc HBF.out.size _).grown hgrow (by have := HBF.out.size; simp; omega) (fun l hl => by cases hl; exact hgb)
              have hown7 : w7.ownsRow w.heap.size 3 1 v' (r + 1 + 1) ((h.take (r + 1 + 1)).map encN) := by rw [← HT.out, List.map_take]; exact hown'
              have HR := hid (And.intro hown7 (And.intro hb7 (HP.out.below hb7 HP.out.lt)))
              obtain ⟨a9, c9, hv9⟩ := owns_len hown7
              subst hv9
              clear hown' hgrow hb7 hown7
              go_wp2
              go_roundw
              case rel => exact ⟨r + 1, hlt, HR.out.1, HR.out.2.1, HR.out.2.2⟩
              case measure => simp [lenOf]; omega
end Go.Proofs.YtdbebbbceeopaaaGreat

set_option linter.unusedSimpArgs false
namespace Go.Proofs.YtdbebbbceeopaaaGreat
open Go.RowKit
open Flt (Is)

theorem bstep {w W W' : World} (h : Hid (Below w.heap.size w W)) (hb : Below W.heap.size W W') : Hid (Below w.heap.size w W') := hid (h.out.trans (hb.mono h.out.size))

theorem geq_zero {r : Nat} {v : Int} (h : Is r v) : (FloatKind.f64.format.order r 0 == some Ordering.gt || FloatKind.f64.format.order r 0 == some Ordering.eq) = decide (0 ≤ v) := by
  rw [h.order is_zero]
  by_cases h1 : 0 < v
  · have h3 : 0 ≤ v := by omega
    simp [Int.compare_eq_gt.2 h1, h3]
  · by_cases h2 : v < 0
    · have h3 : ¬ 0 ≤ v := by omega
      simp [Int.compare_eq_lt.2 h2, h3]
    · have : v = 0 := by omega
      subst this; simp

end Go.Proofs.YtdbebbbceeopaaaGreat

set_option linter.unusedSimpArgs false
namespace Go.Proofs.YtdbebbbceeopaaaGreat
open Go.RowKit

theorem cell_new {w : World} {o : Obj} {a : Addr} {v : Value} (h : w.cell? a = some v) : (w.alloc o).cell? a = some v :=
  (((Below.refl w.heap.size w).alloc (Nat.le_refl _) o).cell (World.block_lt_of_cell? w _ h)).trans h

/-- A row of triangles: block g, from o on, m of them, three cells each. -/
def Trs (w : World) (g o m : Nat) (z : List Int) : Prop :=
  g < w.heap.size ∧ ∀ j, j < m → w.cell? ⟨g, o + j * 3, none⟩ = some (.int .i64 (z.getD (j * 3) 0)) ∧ w.cell? ⟨g, o + j * 3 + 1, none⟩ = some (.int .i64 (z.getD (j * 3 + 1) 0)) ∧ w.cell? ⟨g, o + j * 3 + 2, none⟩ = some (.int .i64 (z.getD (j * 3 + 2) 0))

theorem Trs.below {w w' : World} {g o m : Nat} {z : List Int} (h : Trs w g o m z) (hb : Below w.heap.size w w') : Trs w' g o m z :=
  ⟨Nat.lt_of_lt_of_le h.1 hb.size, fun j hj => ⟨(hb.cell h.1).trans (h.2 j hj).1, (hb.cell h.1).trans (h.2 j hj).2.1, (hb.cell h.1).trans (h.2 j hj).2.2⟩⟩

end Go.Proofs.YtdbebbbceeopaaaGreat

set_option linter.unusedSimpArgs false
namespace Go.Proofs.YtdbebbbceeopaaaGreat
open Go.RowKit

/-- Whole numbers in cells. -/
def Cel (W : World) (l : List (Nat × Nat × Int)) : Prop := ∀ q ∈ l, W.cell? ⟨q.1, q.2.1, none⟩ = some (.int .i64 q.2.2)

theorem Cel.step {W W' : World} {l : List (Nat × Nat × Int)} (h : Cel W l) (hb : Below W.heap.size W W') : Cel W' l := fun q hq =>
  (hb.cell (World.block_lt_of_cell? W _ (h q hq))).trans (h q hq)

theorem Cel.new {W : World} {l : List (Nat × Nat × Int)} (h : Cel W l) (o : Obj) : Cel (W.alloc o) l := fun q hq => cell_new (h q hq)

theorem Cel.cons {W : World} {l : List (Nat × Nat × Int)} {b o : Nat} {v : Int} (h : W.cell? ⟨b, o, none⟩ = some (.int .i64 v)) (hl : Cel W l) : Cel W ((b, o, v) :: l) := by
  intro q hq
  rcases List.mem_cons.1 hq with rfl | h'
  · exact h
  · exact hl q h'

theorem Cel.get {W : World} {l : List (Nat × Nat × Int)} (h : Cel W l) (i : Nat) (q : Nat × Nat × Int) (hi : l[i]? = some q) : W.cell? ⟨q.1, q.2.1, none⟩ = some (.int .i64 q.2.2) := h q (List.mem_of_getElem? hi)

end Go.Proofs.YtdbebbbceeopaaaGreat

set_option linter.unusedSimpArgs false
namespace Go.Proofs.YtdbebbbceeopaaaGreat
open Go.RowKit

/-- The corner of a triangle that follows two others; -1: it has not these two. -/
def thirdI (x y z a b : Int) : Int := if x = a ∧ y = b then z else if y = a ∧ z = b then x else if z = a ∧ x = b then y else -1

set_option maxHeartbeats 1000000 in
theorem third_any (x y z a b : Int) (w : World) :
    Calls Tryz.prog 122 #[.agg #[.int .i64 x, .int .i64 y, .int .i64 z], .int .i64 a, .int .i64 b] w fun e w' => e = .returned (.int .i64 (thirdI x y z a b)) ∧ Below w.heap.size w w' := by
  have B := hid ((Below.refl w.heap.size w).alloc (Nat.le_refl _) (.cells #[.int .i64 x, .int .i64 y, .int .i64 z] 46))
  obtain ⟨r, hr⟩ : ∃ r, r = thirdI x y z a b := ⟨_, rfl⟩
  rw [← hr]
  have HR := hid hr
  clear hr
  by_cases c1 : x = a ∧ y = b
  · have d1 : (x == a) = true := by simp [c1.1]
    have d2 : (y == b) = true := by simp [c1.2]
    have e : Hid (r = z) := hid (by rw [HR.out, thirdI, if_pos c1])
    clear c1
    go_enter Tryz.func122, Tryz.ntmps122
    go_wp2
    go_ret
    exact ⟨by rw [e.out]; rfl, B.out⟩
  · have e1 : Hid (thirdI x y z a b = if y = a ∧ z = b then x else if z = a ∧ x = b then y else -1) := hid (by rw [thirdI, if_neg c1])
    have f1 : (x == a) = false ∨ ((x == a) = true ∧ (y == b) = false) := by
      by_cases k : x = a
      · exact .inr ⟨by simp [k], by simp; intro k2; exact c1 ⟨k, k2⟩⟩
      · exact .inl (by simp [k])
    clear c1
    by_cases c2 : y = a ∧ z = b
    · have d1 : (y == a) = true := by simp [c2.1]
      have d2 : (z == b) = true := by simp [c2.2]
      have e : Hid (r = x) := hid (by rw [HR.out, e1.out, if_pos c2])
      clear c2
      rcases f1 with f1 | ⟨f1, f1'⟩
      · go_enter Tryz.func122, Tryz.ntmps122
        go_wp2
        go_ret
        exact ⟨by rw [e.out]; rfl, B.out⟩
      · go_enter Tryz.func122, Tryz.ntmps122
        go_wp2
        go_ret
        exact ⟨by rw [e.out]; rfl, B.out⟩
    · have e2 : Hid (thirdI x y z a b = if z = a ∧ x = b then y else -1) := hid (by rw [e1.out, if_neg c2])
      have f2 : (y == a) = false ∨ ((y == a) = true ∧ (z == b) = false) := by
        by_cases k : y = a
        · exact .inr ⟨by simp [k], by simp; intro k2; exact c2 ⟨k, k2⟩⟩
        · exact .inl (by simp [k])
      clear c2
      by_cases c3 : z = a ∧ x = b
      · have d1 : (z == a) = true := by simp [c3.1]
        have d2 : (x == b) = true := by simp [c3.2]
        have e : Hid (r = y) := hid (by rw [HR.out, e2.out, if_pos c3])
        clear c3
        rcases f1 with f1 | ⟨f1, f1'⟩ <;> rcases f2 with f2 | ⟨f2, f2'⟩
        all_goals
          go_enter Tryz.func122, Tryz.ntmps122
          go_wp2
          go_ret
          exact ⟨by rw [e.out]; rfl, B.out⟩
      · have e : Hid (r = -1) := hid (by rw [HR.out, e2.out, if_neg c3])
        have f3 : (z == a) = false ∨ ((z == a) = true ∧ (x == b) = false) := by
          by_cases k : z = a
          · exact .inr ⟨by simp [k], by simp; intro k2; exact c3 ⟨k, k2⟩⟩
          · exact .inl (by simp [k])
        clear c3
        rcases f1 with f1 | ⟨f1, f1'⟩ <;> rcases f2 with f2 | ⟨f2, f2'⟩ <;> rcases f3 with f3 | ⟨f3, f3'⟩
        all_goals
          go_enter Tryz.func122, Tryz.ntmps122
          go_wp2
          go_ret
          exact ⟨by rw [e.out]; rfl, B.out⟩
end Go.Proofs.YtdbebbbceeopaaaGreat
