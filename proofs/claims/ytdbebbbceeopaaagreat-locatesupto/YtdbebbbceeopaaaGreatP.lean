import Derived.Test.YtdbebbbceeopaaaGreatI
import Derived.Test.YtdbebbbceeopaaaGreatH
import Derived.Deep.RegionHeld3
set_option linter.unusedSimpArgs false
namespace Go.Proofs.YtdbebbbceeopaaaGreat
open Go.RowKit

set_option maxHeartbeats 400000 in
theorem rturn_any (ax ay bx bya cx cy : Int) (A : -1000 ≤ ax ∧ ax ≤ 1000) (A' : -1000 ≤ ay ∧ ay ≤ 1000) (B : -1000 ≤ bx ∧ bx ≤ 1000) (B' : -1000 ≤ bya ∧ bya ≤ 1000) (C : -1000 ≤ cx ∧ cx ≤ 1000) (C' : -1000 ≤ cy ∧ cy ≤ 1000) (w : World) :
    Calls Tryz.prog 86 #[.agg #[.int .i64 ax, .int .i64 ay], .agg #[.int .i64 bx, .int .i64 bya], .agg #[.int .i64 cx, .int .i64 cy]] w fun e w' => e = .returned (.int .i64 (tw ax ay bx bya cx cy)) ∧ Below w.heap.size w w' := by
  have hb := tw_bd A A' B B' C C'
  obtain ⟨hb1, hb2, hb3, hb4⟩ := hb
  unfold tw
  go_enter Tryz.func86, Tryz.ntmps86
  go_wp2
  go_ret
  refine ⟨rfl, ?_⟩
  exact (((Below.refl _ _).alloc (Nat.le_refl _) _).alloc (by simp) _).alloc (by simp; omega) _

set_option maxHeartbeats 400000 in
theorem far_any (x y : Int) (w : World) :
    Calls Tryz.prog 85 #[.agg #[.int .i64 x, .int .i64 y]] w fun e w' => e = .returned (.bool (!(nearB x && nearB y))) ∧ Below w.heap.size w w' := by
  unfold nearB
  by_cases h1 : x < -1000
  · have d1 : decide (x < -1000) = true := by simp; omega
    go_enter Tryz.func85, Tryz.ntmps85
    go_wp2
    go_ret
    exact ⟨by simp; omega, (Below.refl _ _).alloc (Nat.le_refl _) _⟩
  · have d1 : decide (x < -1000) = false := by simp; omega
    by_cases h2 : 1000 < x
    · have d2 : decide (1000 < x) = true := by simp; omega
      go_enter Tryz.func85, Tryz.ntmps85
      go_wp2
      go_ret
      exact ⟨by simp; omega, (Below.refl _ _).alloc (Nat.le_refl _) _⟩
    · have d2 : decide (1000 < x) = false := by simp; omega
      by_cases h3 : y < -1000
      · have d3 : decide (y < -1000) = true := by simp; omega
        go_enter Tryz.func85, Tryz.ntmps85
        go_wp2
        go_ret
        exact ⟨by simp; omega, (Below.refl _ _).alloc (Nat.le_refl _) _⟩
      · have d3 : decide (y < -1000) = false := by simp; omega
        by_cases h4 : 1000 < y
        · have d4 : decide (1000 < y) = true := by simp; omega
          go_enter Tryz.func85, Tryz.ntmps85
          go_wp2
          go_ret
          exact ⟨by simp; omega, (Below.refl _ _).alloc (Nat.le_refl _) _⟩
        · have d4 : decide (1000 < y) = false := by simp; omega
          go_enter Tryz.func85, Tryz.ntmps85
          go_wp2
          go_ret
          exact ⟨by simp, (Below.refl _ _).alloc (Nat.le_refl _) _⟩

/-- All of the first k points to the left of the way from a to b, or on its line? -/
def bordB (px py : Nat → Int) (a b : Nat) : Nat → Bool
  | 0 => true
  | k + 1 => bordB px py a b k && decide (0 ≤ T px py a b k)

theorem bordB_iff (px py : Nat → Int) (a b n : Nat) : bordB px py a b n = true ↔ ∀ i, i < n → 0 ≤ T px py a b i := by
  induction n with
  | zero => simp [bordB]
  | succ n ih =>
    simp only [bordB, Bool.and_eq_true, ih, decide_eq_true_eq]
    constructor
    · rintro ⟨h1, h2⟩ i hi
      by_cases e : i = n
      · subst e; exact h2
      · exact h1 i (by omega)
    · intro h
      exact ⟨fun i hi => h i (by omega), h n (by omega)⟩

theorem bordB_false (px py : Nat → Int) (a b n k : Nat) (hk : k < n) (h : T px py a b k < 0) : bordB px py a b n = false := by
  cases h' : bordB px py a b n with
  | false => rfl
  | true => have := (bordB_iff px py a b n).1 h' k hk; omega

def Bds (n : Nat) (px py : Nat → Int) : Prop := ∀ i, i < n → (-1000 ≤ px i ∧ px i ≤ 1000) ∧ (-1000 ≤ py i ∧ py i ≤ 1000)

theorem rturn_at {n : Nat} {px py : Nat → Int} (hbd : Bds n px py) (a b c : Nat) (ha : a < n) (hb : b < n) (hc : c < n) (w : World) :
    Calls Tryz.prog 86 #[.agg #[.int .i64 (px a), .int .i64 (py a)], .agg #[.int .i64 (px b), .int .i64 (py b)], .agg #[.int .i64 (px c), .int .i64 (py c)]] w fun e w' => e = .returned (.int .i64 (T px py a b c)) ∧ Below w.heap.size w w' :=
  rturn_any _ _ _ _ _ _ (hbd a ha).1 (hbd a ha).2 (hbd b hb).1 (hbd b hb).2 (hbd c hc).1 (hbd c hc).2 w

set_option maxRecDepth 100000 in
set_option maxHeartbeats 1000000 in
theorem border_any (px py : Nat → Int) (n qb qo cap a b : Nat) (w : World) (hp : Pts w qb qo n px py) (hn : n ≤ 40) (hbd : Bds n px py) (ha : a < n) (hb : b < n) :
    Calls Tryz.prog 82 #[.slice (some ⟨qb, qo, none⟩) n cap, .int .i64 a, .int .i64 b] w fun e w' => e = .returned (.bool (bordB px py a b n)) ∧ Below w.heap.size w w' := by
  have HP := hid hp
  have HBD := hid hbd
  have a' : (a : Int) < n := by omega
  have b' : (b : Int) < n := by omega
  clear hp hbd
  go_enter Tryz.func82, Tryz.ntmps82
  go_wp2
  go_loopw [7] (fun i wr => ∃ k : Nat, k ≤ n ∧ i = .int .i64 k ∧ bordB px py a b k = true ∧ Below w.heap.size w wr) (fun i _ => n - (intOf i).toNat)
  case atStart => exact ⟨0, Nat.zero_le _, rfl, rfl, Below.refl _ _⟩
  case round =>
    obtain ⟨k, hk, rfl, hB, hbl⟩ := hrel
    have HB := hid hbl
    have HA := hid hB
    clear hbl hB
    by_cases hlt : k < n
    · have hpw := HP.out.below HB.out HP.out.lt
      have xa := hpw.x a ha
      have ya := hpw.y a ha
      have xb := hpw.x b hb
      have yb := hpw.y b hb
      have xk := hpw.x k hlt
      have yk := hpw.y k hlt
      have gl := hpw.lt
      have K1 := hid (rturn_at HBD.out a b k ha hb hlt)
      have hlt' : (k : Int) < n := by omega
      have z1 : (0 : Int) ≤ (k : Int) := by omega
      have z2 : (0 : Int) ≤ (a : Int) := by omega
      have z3 : (0 : Int) ≤ (b : Int) := by omega
      clear hpw
      by_cases ht : T px py a b k < 0
      · have hd : decide (T px py a b k < 0) = true := by simp [ht]
        have HT := hid ht
        clear ht
        have HF := hid (bordB_false px py a b n k hlt HT.out)
        clear HT
        generalize T px py a b k = t at *
        go_wp2
        go_region_held3 (fun w' => w'.cell? ⟨qb, qo + a * 2, none⟩ = some (.int .i64 (px a)) ∧ w'.cell? ⟨qb, qo + a * 2 + 1, none⟩ = some (.int .i64 (py a)) ∧ w'.cell? ⟨qb, qo + b * 2, none⟩ = some (.int .i64 (px b)) ∧ w'.cell? ⟨qb, qo + b * 2 + 1, none⟩ = some (.int .i64 (py b)) ∧ w'.cell? ⟨qb, qo + k * 2, none⟩ = some (.int .i64 (px k)) ∧ w'.cell? ⟨qb, qo + k * 2 + 1, none⟩ = some (.int .i64 (py k))) (go_keep) ((go_at_call 86; refine (K1.out _).mono ?_; rintro e w6 ⟨rfl, hb6⟩; have u1 := (hb6.cell (p := ⟨qb, qo + a * 2, none⟩) gl).trans xa; have u2 := (hb6.cell (p := ⟨qb, qo + a * 2 + 1, none⟩) gl).trans ya; have u3 := (hb6.cell (p := ⟨qb, qo + b * 2, none⟩) gl).trans xb; have u4 := (hb6.cell (p := ⟨qb, qo + b * 2 + 1, none⟩) gl).trans yb; have u5 := (hb6.cell (p := ⟨qb, qo + k * 2, none⟩) gl).trans xk; have u6 := (hb6.cell (p := ⟨qb, qo + k * 2 + 1, none⟩) gl).trans yk; have HB6 := hid hb6; clear hb6))
        clear u1 u2 u3 u4 u5 u6 xa ya xb yb xk yk
        go_wp2
        go_ret
        exact ⟨by rw [HF.out]; rfl, HB.out.drew.trans (HB6.out.mono HB.out.size)⟩
      · have hd : decide (T px py a b k < 0) = false := by simp; omega
        have HT := hid (show bordB px py a b (k + 1) = true by rw [bordB, HA.out, decide_eq_true (by omega)]; rfl)
        clear ht
        generalize T px py a b k = t at *
        go_wp2
        go_region_held3 (fun w' => w'.cell? ⟨qb, qo + a * 2, none⟩ = some (.int .i64 (px a)) ∧ w'.cell? ⟨qb, qo + a * 2 + 1, none⟩ = some (.int .i64 (py a)) ∧ w'.cell? ⟨qb, qo + b * 2, none⟩ = some (.int .i64 (px b)) ∧ w'.cell? ⟨qb, qo + b * 2 + 1, none⟩ = some (.int .i64 (py b)) ∧ w'.cell? ⟨qb, qo + k * 2, none⟩ = some (.int .i64 (px k)) ∧ w'.cell? ⟨qb, qo + k * 2 + 1, none⟩ = some (.int .i64 (py k))) (go_keep) ((go_at_call 86; refine (K1.out _).mono ?_; rintro e w6 ⟨rfl, hb6⟩; have u1 := (hb6.cell (p := ⟨qb, qo + a * 2, none⟩) gl).trans xa; have u2 := (hb6.cell (p := ⟨qb, qo + a * 2 + 1, none⟩) gl).trans ya; have u3 := (hb6.cell (p := ⟨qb, qo + b * 2, none⟩) gl).trans xb; have u4 := (hb6.cell (p := ⟨qb, qo + b * 2 + 1, none⟩) gl).trans yb; have u5 := (hb6.cell (p := ⟨qb, qo + k * 2, none⟩) gl).trans xk; have u6 := (hb6.cell (p := ⟨qb, qo + k * 2 + 1, none⟩) gl).trans yk; have HB6 := hid hb6; clear hb6))
        clear u1 u2 u3 u4 u5 u6 xa ya xb yb xk yk
        go_wp2
        go_roundw
        case rel => exact ⟨k + 1, by omega, by go_num, HT.out, HB.out.drew.trans (HB6.out.mono HB.out.size)⟩
        case measure => simp [intOf]; omega
    · have : k = n := by omega
      subst this
      go_wp2
      go_ret
      exact ⟨by rw [HA.out]; rfl, HB.out⟩

theorem bx3 (w : World) (o1 o2 o3 : Obj) : Below w.heap.size w (((w.alloc o1).alloc o2).alloc o3) :=
  (((Below.refl _ _).alloc (Nat.le_refl _) _).alloc (by simp) _).alloc (by simp; omega) _

theorem boxes3 (wr : World) (a b c d e f : Value) {w4 : World} (hb : Below (((wr.alloc (.cells #[a, b] 35)).alloc (.cells #[c, d] 35)).alloc (.cells #[e, f] 35)).heap.size (((wr.alloc (.cells #[a, b] 35)).alloc (.cells #[c, d] 35)).alloc (.cells #[e, f] 35)) w4) :
    w4.cell? ⟨wr.heap.size, 0, none⟩ = some a ∧ w4.cell? ⟨wr.heap.size, 1, none⟩ = some b ∧ w4.cell? ⟨wr.heap.size + 1, 0, none⟩ = some c ∧ w4.cell? ⟨wr.heap.size + 1, 1, none⟩ = some d ∧ w4.cell? ⟨wr.heap.size + 1 + 1, 0, none⟩ = some e ∧ w4.cell? ⟨wr.heap.size + 1 + 1, 1, none⟩ = some f := by
  have e1 : (((wr.alloc (.cells #[a, b] 35)).alloc (.cells #[c, d] 35)).alloc (.cells #[e, f] 35)).heap.size = wr.heap.size + 3 := by simp
  have k : ∀ p : Addr, p.block < wr.heap.size + 3 → w4.cell? p = (((wr.alloc (.cells #[a, b] 35)).alloc (.cells #[c, d] 35)).alloc (.cells #[e, f] 35)).cell? p := fun p hp => hb.cell (by rw [e1]; exact hp)
  refine ⟨?_, ?_, ?_, ?_, ?_, ?_⟩
  · rw [k ⟨wr.heap.size, 0, none⟩ (by simp), World.cell?_alloc_past _ _ _ (by simp; omega), World.cell?_alloc_past _ _ _ (by simp), World.cell?_alloc_at _ _ _ _ rfl]; rfl
  · rw [k ⟨wr.heap.size, 1, none⟩ (by simp), World.cell?_alloc_past _ _ _ (by simp; omega), World.cell?_alloc_past _ _ _ (by simp), World.cell?_alloc_at _ _ _ _ rfl]; rfl
  · rw [k ⟨wr.heap.size + 1, 0, none⟩ (by simp), World.cell?_alloc_past _ _ _ (by simp), World.cell?_alloc_at _ _ _ _ (by simp)]; rfl
  · rw [k ⟨wr.heap.size + 1, 1, none⟩ (by simp), World.cell?_alloc_past _ _ _ (by simp), World.cell?_alloc_at _ _ _ _ (by simp)]; rfl
  · rw [k ⟨wr.heap.size + 1 + 1, 0, none⟩ (by simp), World.cell?_alloc_at _ _ _ _ (by simp)]; rfl
  · rw [k ⟨wr.heap.size + 1 + 1, 1, none⟩ (by simp), World.cell?_alloc_at _ _ _ _ (by simp)]; rfl

/-- triskelref.between, of numbers. -/
def btwB (ax ay bx bya cx cy : Int) : Bool :=
  decide (tw ax ay bx bya cx cy = 0) && !(cx == ax && cy == ay) && !(cx == bx && cy == bya) && decide ((cx - ax) * (cx - bx) ≤ 0) && decide ((cy - ay) * (cy - bya) ≤ 0)

set_option maxRecDepth 100000 in
set_option maxHeartbeats 1000000 in
theorem between_any (ax ay bx bya cx cy : Int) (A : -1000 ≤ ax ∧ ax ≤ 1000) (A' : -1000 ≤ ay ∧ ay ≤ 1000) (B : -1000 ≤ bx ∧ bx ≤ 1000) (B' : -1000 ≤ bya ∧ bya ≤ 1000) (C : -1000 ≤ cx ∧ cx ≤ 1000) (C' : -1000 ≤ cy ∧ cy ≤ 1000) (w : World) :
    Calls Tryz.prog 83 #[.agg #[.int .i64 ax, .int .i64 ay], .agg #[.int .i64 bx, .int .i64 bya], .agg #[.int .i64 cx, .int .i64 cy]] w fun e w' => e = .returned (.bool (btwB ax ay bx bya cx cy)) ∧ Below w.heap.size w w' := by
  have K1 := hid (rturn_any ax ay bx bya cx cy A A' B B' C C')
  have m1 := bnd_mul (a := cx - ax) (b := cx - bx) (A := 2000) (B := 2000) (by omega) (by omega) (by omega) (by omega)
  have m2 := bnd_mul (a := cy - ay) (b := cy - bya) (A := 2000) (B := 2000) (by omega) (by omega) (by omega) (by omega)
  have q1 := eqPt.1 (cx, cy) (ax, ay)
  have q2 := eqPt.1 (cx, cy) (bx, bya)
  simp only [encPt] at q1 q2
  unfold btwB
  generalize tw ax ay bx bya cx cy = t at *
  generalize (cx == ax && cy == ay) = e1 at *
  generalize (cx == bx && cy == bya) = e2 at *
  by_cases ht : t = 0
  · subst ht
    cases e1
    · cases e2
      · by_cases h1 : (cx - ax) * (cx - bx) ≤ 0
        · by_cases h2 : (cy - ay) * (cy - bya) ≤ 0
          · go_enter Tryz.func83, Tryz.ntmps83
            go_wp2_with fail
            refine (K1.out _).mono ?_
            rintro e w1 ⟨rfl, hb1⟩
            obtain ⟨b1, b2, b3, b4, b5, b6⟩ := boxes3 w _ _ _ _ _ _ hb1
            have HB1 := hid hb1
            clear hb1
            go_wp2_with fail
            go_ret
            exact ⟨by simp [h1, h2], (bx3 w _ _ _).trans (HB1.out.mono (by simp; omega))⟩
          · go_enter Tryz.func83, Tryz.ntmps83
            go_wp2_with fail
            refine (K1.out _).mono ?_
            rintro e w1 ⟨rfl, hb1⟩
            obtain ⟨b1, b2, b3, b4, b5, b6⟩ := boxes3 w _ _ _ _ _ _ hb1
            have HB1 := hid hb1
            clear hb1
            go_wp2_with fail
            go_ret
            exact ⟨by simp [h1, h2], (bx3 w _ _ _).trans (HB1.out.mono (by simp; omega))⟩
        · go_enter Tryz.func83, Tryz.ntmps83
          go_wp2_with fail
          refine (K1.out _).mono ?_
          rintro e w1 ⟨rfl, hb1⟩
          obtain ⟨b1, b2, b3, b4, b5, b6⟩ := boxes3 w _ _ _ _ _ _ hb1
          have HB1 := hid hb1
          clear hb1
          go_wp2_with fail
          go_ret
          exact ⟨by simp; omega, (bx3 w _ _ _).trans (HB1.out.mono (by simp; omega))⟩
      · go_enter Tryz.func83, Tryz.ntmps83
        go_wp2_with fail
        refine (K1.out _).mono ?_
        rintro e w1 ⟨rfl, hb1⟩
        obtain ⟨b1, b2, b3, b4, b5, b6⟩ := boxes3 w _ _ _ _ _ _ hb1
        have HB1 := hid hb1
        clear hb1
        go_wp2_with fail
        go_ret
        exact ⟨by simp, (bx3 w _ _ _).trans (HB1.out.mono (by simp; omega))⟩
    · go_enter Tryz.func83, Tryz.ntmps83
      go_wp2_with fail
      refine (K1.out _).mono ?_
      rintro e w1 ⟨rfl, hb1⟩
      obtain ⟨b1, b2, b3, b4, b5, b6⟩ := boxes3 w _ _ _ _ _ _ hb1
      have HB1 := hid hb1
      clear hb1
      go_wp2_with fail
      go_ret
      exact ⟨by simp, (bx3 w _ _ _).trans (HB1.out.mono (by simp; omega))⟩
  · have ht' : (t != 0) = true := by simpa using ht
    go_enter Tryz.func83, Tryz.ntmps83
    go_wp2_with fail
    refine (K1.out _).mono ?_
    rintro e w1 ⟨rfl, hb1⟩
    have HB1 := hid hb1
    clear hb1
    go_wp2_with fail
    go_ret
    exact ⟨by simp [ht], (bx3 w _ _ _).trans (HB1.out.mono (by simp; omega))⟩
end Go.Proofs.YtdbebbbceeopaaaGreat
