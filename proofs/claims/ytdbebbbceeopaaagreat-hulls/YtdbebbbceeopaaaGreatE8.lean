import Derived.Test.YtdbebbbceeopaaaGreatE7
import Derived.Test.YtdbebbbceeopaaaGreatE1
namespace Go.Proofs.YtdbebbbceeopaaaGreat
open Go.RowKit
open Flt (Is)

/-- Do the points 2 .. k + 1 lie on the line through the first two? -/
def flatB (px py : Nat → Int) : Nat → Bool
  | 0 => true
  | k + 1 => flatB px py k && decide (T px py 0 1 (k + 2) = 0)

theorem flatB_iff (px py : Nat → Int) (n : Nat) : flatB px py n = true ↔ ∀ i, i < n → T px py 0 1 (i + 2) = 0 := by
  induction n with
  | zero => simp [flatB]
  | succ n ih =>
    simp only [flatB, Bool.and_eq_true, ih, decide_eq_true_eq]
    constructor
    · rintro ⟨h1, h2⟩ i hi
      by_cases e : i = n
      · subst e; exact h2
      · exact h1 i (by omega)
    · intro h
      exact ⟨fun i hi => h i (by omega), h n (by omega)⟩

theorem flatB_false (px py : Nat → Int) (n k : Nat) (hk : k < n) (h : ¬ T px py 0 1 (k + 2) = 0) : flatB px py n = false := by
  cases h' : flatB px py n with
  | false => rfl
  | true => exact absurd ((flatB_iff px py n).1 h' k hk) h

set_option maxRecDepth 100000 in
set_option maxHeartbeats 1000000 in
theorem isFlat_any (px py : Nat → Int) (m pb po cap : Nat) (w : World) (hp : Plc w pb po (m + 2) px py) (hn : m + 2 ≤ 40) (hm : 0 < m) (hcap : m + 2 ≤ cap) :
    Calls Tryz.prog 60 #[.slice (some ⟨pb, po, none⟩) (m + 2 : Nat) cap] w fun e w' => e = .returned (.bool (flatB px py m)) ∧ Below w.heap.size w w' := by
  have HP := hid hp
  have h2 : (2 : Int) ≤ (m : Int) + 2 := by omega
  have h3 : ¬ cap = 2 := by omega
  clear hp
  go_enter Tryz.func60, Tryz.ntmps60
  go_wp2
  go_loopw [8] (fun i wr => ∃ k : Nat, k ≤ m ∧ i = .int .i64 k ∧ flatB px py k = true ∧ Below w.heap.size w wr) (fun i _ => m - (intOf i).toNat)
  case atStart => exact ⟨0, Nat.zero_le _, rfl, rfl, Below.refl _ _⟩
  case round =>
    obtain ⟨k, hk, rfl, ha, hb⟩ := hrel
    have HB := hid hb
    have HA := hid ha
    clear hb ha
    by_cases hlt : k < m
    · have hpw := HP.out.below HB.out HP.out.lt
      obtain ⟨r0, i0, c0, a0, a0'⟩ := hpw.cell 0 (by omega)
      obtain ⟨r1, i1, c1, a1, a1'⟩ := hpw.cell 1 (by omega)
      obtain ⟨rk, ik, ck, ak, ak'⟩ := hpw.cell (k + 2) (by omega)
      obtain ⟨b0, b0'⟩ := hpw.bd 0 (by omega)
      obtain ⟨b1, b1'⟩ := hpw.bd 1 (by omega)
      obtain ⟨bk, bk'⟩ := hpw.bd (k + 2) (by omega)
      obtain ⟨r, hr, hc⟩ := turn_any r0 i0 r1 i1 rk ik _ _ _ _ _ _ a0 a0' a1 a1' ak ak' b0 b0' b1 b1' bk bk'
      have hq := neq_zero hr
      rw [show tw (px 0) (py 0) (px 1) (py 1) (px (k + 2)) (py (k + 2)) = T px py 0 1 (k + 2) from rfl] at hq
      rw [Nat.add_zero] at c0
      have ck' : wr.cell? ⟨pb, po + 2 + k, none⟩ = some (.complex .f64 rk ik) := by rw [show po + 2 + k = po + (k + 2) by omega]; exact ck
      have HC := hid hc
      have hlt' : (k : Int) < m := by omega
      clear hc hr a0 a0' a1 a1' ak ak' b0 b0' b1 b1' bk bk' hpw ck
      by_cases ht : T px py 0 1 (k + 2) = 0
      · have hq' : (FloatKind.f64.format.order r 0 != some Ordering.eq) = false := by rw [hq]; simp [ht]
        have HT := hid ht
        clear ht hq
        go_wp2
        go_quiet ((go_at_call 68; exact Calls.quiet_of_same (HC.out _)))
        go_wp2
        go_roundw
        case rel => exact ⟨k + 1, by omega, by go_num, by rw [flatB, HA.out, HT.out]; rfl, below_drewN HB.out _⟩
        case measure => simp [intOf]; omega
      · have hq' : (FloatKind.f64.format.order r 0 != some Ordering.eq) = true := by rw [hq]; simp [ht]
        have HT := hid ht
        clear ht hq
        go_wp2
        go_quiet ((go_at_call 68; exact Calls.quiet_of_same (HC.out _)))
        go_wp2
        go_ret
        exact ⟨by rw [flatB_false _ _ _ k hlt HT.out]; rfl, below_drewN HB.out _⟩
    · have : k = m := by omega
      subst this
      go_wp2
      go_ret
      exact ⟨by rw [HA.out]; rfl, HB.out⟩

end Go.Proofs.YtdbebbbceeopaaaGreat

namespace Go.Proofs.YtdbebbbceeopaaaGreat
open Go.RowKit
open Go.Sort (SortedIn)
open Flt (Is)

/-- Which of Hull's errors applies first (0: none), of 3 to 40 points. -/
def refI (px py : Nat → Int) (n : Nat) : Int :=
  if allB px py n = false then 2 else if twB px py n = true then 3 else if flatB px py (n - 2) = true then 4 else 0

theorem near_iff (n : Int) : nearB n = true ↔ -1000 ≤ n ∧ n ≤ 1000 := by simp [nearB]

set_option maxRecDepth 100000 in
set_option maxHeartbeats 1000000 in
theorem refusal_any (px py : Nat → Int) (n qb qo cap : Nat) (w : World) (hp : Pts w qb qo n px py) (h3 : 3 ≤ n) (hn : n ≤ 40) (hcap : n ≤ cap) :
    Calls Tryz.prog 33 #[.slice (some ⟨qb, qo, none⟩) n cap] w fun e w' => e = .returned (.int .i64 (refI px py n)) ∧ Below w.heap.size w w' := by
  have g3 : decide ((n : Int) < 3) = false := by simp; omega
  have g40 : decide ((40 : Int) < n) = false := by simp; omega
  have c1 := hid (allInBounds_any px py n qb qo cap w hp hn)
  have HP := hid hp
  clear hp
  unfold refI
  cases hA : allB px py n
  · rw [hA] at c1
    clear hA
    go_enter Tryz.func33, Tryz.ntmps33
    go_wp2_with fail
    refine c1.out.mono ?_
    rintro e w' ⟨rfl, hb⟩
    have HB := hid hb
    clear hb
    go_wp2_with fail
    go_ret
    exact ⟨rfl, HB.out⟩
  · rw [hA] at c1
    have HA := hid hA
    clear hA
    cases hT : twB px py n
    · obtain ⟨m, rfl⟩ : ∃ m, n = m + 2 := ⟨n - 2, by omega⟩
      rw [show m + 2 - 2 = m from rfl]
      cases hF : flatB px py m
      · go_enter Tryz.func33, Tryz.ntmps33
        go_wp2_with fail
        refine c1.out.mono ?_
        rintro e w1 ⟨rfl, hb1⟩
        have c2 := hid (hasTwice_any px py (m + 2) qb qo cap w1 (HP.out.below hb1 HP.out.lt) hn hcap)
        rw [hT] at c2
        have HB1 := hid hb1
        clear c1 hb1
        go_wp2_with fail
        refine c2.out.mono ?_
        rintro e w2 ⟨rfl, hb2⟩
        have hbd : ∀ i, i < m + 2 → (-1000 ≤ px i ∧ px i ≤ 1000) ∧ (-1000 ≤ py i ∧ py i ≤ 1000) := by
          intro i hi
          have := (allB_iff px py (m + 2)).1 HA.out i hi
          exact ⟨(near_iff _).1 this.1, (near_iff _).1 this.2⟩
        have hb02 : Below w.heap.size w w2 := HB1.out.trans (hb2.mono HB1.out.size)
        have c3 := hid (places_any px py (m + 2) qb qo cap w2 (HP.out.below hb02 HP.out.lt) hn hbd)
        have HB2 := hid hb02
        clear c2 hb2 hb02 HB1 hbd
        go_wp2_with fail
        refine c3.out.mono ?_
        rintro e w3 ⟨rfl, hb3, hp3⟩
        have c4 := hid (isFlat_any px py m w2.heap.size 0 (m + 2) w3 hp3 hn (by omega) (Nat.le_refl _))
        have hb03 : Below w.heap.size w w3 := HB2.out.trans (hb3.mono HB2.out.size)
        have HB3 := hid hb03
        clear c3 hb3 hp3 HB2 hb03
        rw [hF] at c4
        clear hF
        go_wp2_with fail
        refine c4.out.mono ?_
        rintro e w4 ⟨rfl, hb4⟩
        have HB4 := hid (HB3.out.trans (hb4.mono HB3.out.size))
        clear hb4
        go_wp2_with fail
        go_ret
        exact ⟨rfl, HB4.out⟩
      · go_enter Tryz.func33, Tryz.ntmps33
        go_wp2_with fail
        refine c1.out.mono ?_
        rintro e w1 ⟨rfl, hb1⟩
        have c2 := hid (hasTwice_any px py (m + 2) qb qo cap w1 (HP.out.below hb1 HP.out.lt) hn hcap)
        rw [hT] at c2
        have HB1 := hid hb1
        clear c1 hb1
        go_wp2_with fail
        refine c2.out.mono ?_
        rintro e w2 ⟨rfl, hb2⟩
        have hbd : ∀ i, i < m + 2 → (-1000 ≤ px i ∧ px i ≤ 1000) ∧ (-1000 ≤ py i ∧ py i ≤ 1000) := by
          intro i hi
          have := (allB_iff px py (m + 2)).1 HA.out i hi
          exact ⟨(near_iff _).1 this.1, (near_iff _).1 this.2⟩
        have hb02 : Below w.heap.size w w2 := HB1.out.trans (hb2.mono HB1.out.size)
        have c3 := hid (places_any px py (m + 2) qb qo cap w2 (HP.out.below hb02 HP.out.lt) hn hbd)
        have HB2 := hid hb02
        clear c2 hb2 hb02 HB1 hbd
        go_wp2_with fail
        refine c3.out.mono ?_
        rintro e w3 ⟨rfl, hb3, hp3⟩
        have c4 := hid (isFlat_any px py m w2.heap.size 0 (m + 2) w3 hp3 hn (by omega) (Nat.le_refl _))
        have hb03 : Below w.heap.size w w3 := HB2.out.trans (hb3.mono HB2.out.size)
        have HB3 := hid hb03
        clear c3 hb3 hp3 HB2 hb03
        rw [hF] at c4
        clear hF
        go_wp2_with fail
        refine c4.out.mono ?_
        rintro e w4 ⟨rfl, hb4⟩
        have HB4 := hid (HB3.out.trans (hb4.mono HB3.out.size))
        clear hb4
        go_wp2_with fail
        go_ret
        exact ⟨rfl, HB4.out⟩
    · go_enter Tryz.func33, Tryz.ntmps33
      go_wp2_with fail
      refine c1.out.mono ?_
      rintro e w1 ⟨rfl, hb1⟩
      have c2 := hid (hasTwice_any px py n qb qo cap w1 (HP.out.below hb1 HP.out.lt) hn hcap)
      rw [hT] at c2
      clear hT
      have HB1 := hid hb1
      clear c1 hb1
      go_wp2_with fail
      refine c2.out.mono ?_
      rintro e w2 ⟨rfl, hb2⟩
      have HB2 := hid (HB1.out.trans (hb2.mono HB1.out.size))
      clear c2 hb2
      go_wp2_with fail
      go_ret
      exact ⟨rfl, HB2.out⟩

set_option maxRecDepth 100000 in
set_option maxHeartbeats 1000000 in
/-- triskel.Hull, where no error applies. -/
theorem hull_ok (px py : Nat → Int) (n : Nat) [NeZero n] (qb qo cap : Nat) (w : World) (hp : Pts w qb qo n px py) (h3 : 3 ≤ n) (hn : n ≤ 40) (hcap : n ≤ cap) (hr : refI px py n = 0) :
    Calls Tryz.prog 21 #[.slice (some ⟨qb, qo, none⟩) n cap] w fun e w' => ∃ v, e = .returned (.tuple #[v, .int .i64 0]) ∧ Below w.heap.size w w' ∧
      ∃ d : Array (Fin n), d.size = n ∧ d.toList.Perm (List.finRange n) ∧ SortedIn (ltOf (cfI px py)) 0 n d ∧
        w'.ownsRow w.heap.size 3 1 v (hullOf (T px py) (nums d)).length ((hullOf (T px py) (nums d)).map encN) := by
  have c1 := refusal_any px py n qb qo cap w hp h3 hn hcap
  rw [hr] at c1
  have C1 := hid c1
  have HP := hid hp
  have hA : allB px py n = true := by
    cases h : allB px py n with
    | true => rfl
    | false => simp [refI, h] at hr
  have hbd : ∀ i, i < n → (-1000 ≤ px i ∧ px i ≤ 1000) ∧ (-1000 ≤ py i ∧ py i ≤ 1000) := by
    intro i hi
    have := (allB_iff px py n).1 hA i hi
    exact ⟨(near_iff _).1 this.1, (near_iff _).1 this.2⟩
  have HBD := hid hbd
  clear hp c1 hr hA hbd
  go_enter Tryz.func21, Tryz.ntmps21
  go_wp2_with fail
  refine C1.out.mono ?_
  rintro e w1 ⟨rfl, hb1⟩
  have c2 := hid (places_any px py n qb qo cap w1 (HP.out.below hb1 HP.out.lt) hn HBD.out)
  have HB1 := hid hb1
  clear C1 hb1
  go_wp2_with fail
  refine c2.out.mono ?_
  rintro e w2 ⟨rfl, hb2, hp2⟩
  have c3 := hid (corners_any px py n w1.heap.size 0 n w2 hp2 hn (by omega))
  have HB2 := hid (HB1.out.trans (hb2.mono HB1.out.size))
  clear c2 hb2 hp2 HB1
  go_wp2_with fail
  refine c3.out.mono ?_
  rintro e w3 ⟨v, rfl, hb3, d, hd, hperm, hsort, hown⟩
  have HB3 := hid (HB2.out.trans (hb3.mono HB2.out.size))
  have HR := hid (And.intro hd (And.intro hperm (And.intro hsort (owns_base hown HB2.out.size))))
  clear c3 hb3 hown HB2 hd hperm hsort
  go_wp2_with fail
  go_ret2
  exact ⟨v, rfl, HB3.out, d, HR.out⟩
end Go.Proofs.YtdbebbbceeopaaaGreat

set_option linter.unusedSimpArgs false
namespace Go.Proofs.YtdbebbbceeopaaaGreat
open Go.RowKit

set_option maxHeartbeats 1000000 in
theorem refusal_count (a : Option Addr) (n cap : Nat) (w : World) (h : n < 3 ∨ 40 < n) (hn : n ≤ 9223372036854775807) :
    Calls Tryz.prog 33 #[.slice a n cap] w fun e w' => e = .returned (.int .i64 1) ∧ w' = w := by
  by_cases h3 : n < 3
  · have d1 : decide ((n : Int) < 3) = true := by simp; omega
    go_enter Tryz.func33, Tryz.ntmps33
    go_wp2
    go_ret
    exact ⟨rfl, rfl⟩
  · have d1 : decide ((n : Int) < 3) = false := by simp; omega
    have d2 : decide ((40 : Int) < n) = true := by simp; omega
    go_enter Tryz.func33, Tryz.ntmps33
    go_wp2
    go_ret
    exact ⟨rfl, rfl⟩

set_option maxHeartbeats 1000000 in
theorem check_count (a : Option Addr) (n cap : Nat) (w : World) (h : n < 3 ∨ 40 < n) (hn : n ≤ 9223372036854775807) :
    Calls Tryz.prog 49 #[.slice a n cap] w fun e w' => e = .returned (.int .i64 1) ∧ w' = w := by
  by_cases h3 : n < 3
  · have d1 : decide ((n : Int) < 3) = true := by simp; omega
    go_enter Tryz.func49, Tryz.ntmps49
    go_wp2
    go_ret
    exact ⟨rfl, rfl⟩
  · have d1 : decide ((n : Int) < 3) = false := by simp; omega
    have d2 : decide ((40 : Int) < n) = true := by simp; omega
    go_enter Tryz.func49, Tryz.ntmps49
    go_wp2
    go_ret
    exact ⟨rfl, rfl⟩

set_option maxHeartbeats 1000000 in
theorem hull_err {arg : Value} {w : World} {x : Int} (hx : x ≠ 0) (hc : Calls Tryz.prog 33 #[arg] w fun e w' => e = .returned (.int .i64 x) ∧ Below w.heap.size w w') :
    Calls Tryz.prog 21 #[arg] w fun e w' => e = .returned (.tuple #[.slice none 0 0, .int .i64 x]) ∧ Below w.heap.size w w' := by
  have C := hid hc
  have d : (x != 0) = true := by simpa using hx
  clear hc hx
  go_enter Tryz.func21, Tryz.ntmps21
  go_wp2_with fail
  refine C.out.mono ?_
  rintro e w1 ⟨rfl, hb⟩
  have HB := hid hb
  clear hb
  go_wp2
  go_ret2
  exact ⟨rfl, HB.out⟩

set_option maxHeartbeats 1000000 in
theorem refHull_err {arg : Value} {w : World} {x : Int} (hx : x ≠ 0) (hc : Calls Tryz.prog 49 #[arg] w fun e w' => e = .returned (.int .i64 x) ∧ Below w.heap.size w w') :
    Calls Tryz.prog 46 #[arg] w fun e w' => e = .returned (.tuple #[.slice none 0 0, .int .i64 x]) ∧ Below w.heap.size w w' := by
  have C := hid hc
  have d : (x != 0) = true := by simpa using hx
  clear hc hx
  go_enter Tryz.func46, Tryz.ntmps46
  go_wp2_with fail
  refine C.out.mono ?_
  rintro e w1 ⟨rfl, hb⟩
  have HB := hid hb
  clear hb
  go_wp2
  go_ret2
  exact ⟨rfl, HB.out⟩

/-- A slice all of whose cells hold the mark m. -/
def Full (w : World) (v : Value) (m : Int) : Prop :=
  (∃ c, v = .slice none 0 c) ∨ ∃ g n c, v = .slice (some ⟨g, 0, none⟩) n c ∧ n ≤ 1000000 ∧ g < w.heap.size ∧ ∀ j, j < n → w.cell? ⟨g, j, none⟩ = some (.int .i64 m)

set_option maxHeartbeats 1000000 in
theorem fullInts_any (v : Value) (m : Int) (w : World) (h : Full w v m) :
    Calls Tryz.prog 56 #[v, .int .i64 m] w fun e w' => e = .returned (.bool true) ∧ w' = w := by
  rcases h with ⟨c, rfl⟩ | ⟨g, n, c, rfl, hn, hg, hc⟩
  · go_enter Tryz.func56, Tryz.ntmps56
    go_wp2
    refine wp_loop_rounds 1 ?_
    rw [rounds_succ]
    go_wp2
    go_ret
    exact ⟨rfl, rfl⟩
  · have HC := hid hc
    have dm : (m != m) = false := by simp
    clear hc
    go_enter Tryz.func56, Tryz.ntmps56
    go_wp2
    go_loop [5] (fun i => ∃ k : Nat, k ≤ n ∧ i = .int .i64 k) (fun i => n - (intOf i).toNat)
    case atStart => exact ⟨0, Nat.zero_le _, rfl⟩
    case round =>
      obtain ⟨k, hk, rfl⟩ := hrel
      by_cases hkn : k < n
      · have hck := HC.out k hkn
        have hkn' : (k : Int) < n := by omega
        go_wp2
        go_round
        case rel => exact ⟨k + 1, by omega, by go_num⟩
        case measure => simp [intOf]; omega
      · have : k = n := by omega
        subst this
        go_wp2
        go_ret
        exact ⟨rfl, rfl⟩
end Go.Proofs.YtdbebbbceeopaaaGreat

namespace Go.Proofs.YtdbebbbceeopaaaGreat
open Go.RowKit
open Go.Sort (SortedIn)
open Geo

theorem walk_ends {Pos : Int → Int → Prop} {px py : Nat → Int} (H : Half Pos) (os : List Nat) (h2 : 2 ≤ os.length) (hos : os.Pairwise (Lt Pos px py)) :
    ∃ m, (stk (T px py) os).reverse.length = m + 1 ∧ 1 ≤ m ∧ Walk Pos px py os (stk (T px py) os).reverse ∧ (stk (T px py) os).reverse.getD 0 0 = os.getD 0 0 ∧ (stk (T px py) os).reverse.getD m 0 = os.getD (os.length - 1) 0 ∧
      ∀ i, i < (stk (T px py) os).reverse.length → (stk (T px py) os).reverse.getD i 0 ∈ os := by
  obtain ⟨s, e1, e2, e3⟩ := stk_good H os hos os.length (by omega) (Nat.le_refl _)
  rw [List.take_length] at e1 e3
  have hl := stk_two (T px py) os h2
  rw [e1] at hl ⊢
  obtain ⟨l, hl'⟩ : ∃ l, l = os[os.length - 1]! := ⟨_, rfl⟩
  rw [← hl'] at e1 e2 e3 hl ⊢
  have hlast : l = os.getD (os.length - 1) 0 := by
    rw [hl', List.getD_eq_getElem?_getD, List.getElem!_eq_getElem?_getD]; rfl
  have hfirst : os[0]! = os.getD 0 0 := by
    rw [List.getD_eq_getElem?_getD, List.getElem!_eq_getElem?_getD]; rfl
  refine ⟨s.length, by simp, by simp at hl; omega, walk_of e3, ?_, ?_, ?_⟩
  · rw [getD_rev _ _ (by simp), ← hfirst]
    rw [List.getLast?_eq_getElem?] at e2
    rw [List.getD_eq_getElem?_getD, Nat.sub_zero, e2]
    rfl
  · rw [getD_rev _ _ (by simp), ← hlast]
    simp
  · intro i hi
    have hm : (l :: s).reverse.getD i 0 ∈ (l :: s).reverse := by
      rw [List.getD_eq_getElem?_getD, List.getElem?_eq_getElem hi]
      exact List.getElem_mem _
    have : (l :: s).reverse.getD i 0 ∈ stk (T px py) os := by rw [e1]; exact List.mem_reverse.1 hm
    have := stk_mem (T px py) os os.length (Nat.le_refl _) _ (by rw [List.take_length]; exact this)
    exact this

theorem nums_mem {n : Nat} {d : Array (Fin n)} (hp : d.toList.Perm (List.finRange n)) (p : Nat) : p ∈ nums d ↔ p < n := by
  constructor
  · exact nums_lt d p
  · intro h
    unfold nums
    rw [List.mem_map]
    exact ⟨⟨p, h⟩, hp.mem_iff.2 (List.mem_finRange _), rfl⟩

theorem nums_sorted {px py : Nat → Int} {n : Nat} [NeZero n] {d : Array (Fin n)} (hd : d.size = n) (hp : d.toList.Perm (List.finRange n)) (hs : SortedIn (ltOf (cfI px py)) 0 n d)
    (hne : ∀ i j, i < n → j < n → i ≠ j → ¬ (px i = px j ∧ py i = py j)) : (nums d).Pairwise (Lt Lex px py) := by
  rw [List.pairwise_iff_getElem]
  intro i j hi hj hij
  have hi' : i < d.size := by rw [nums_len] at hi; exact hi
  have hj' : j < d.size := by rw [nums_len] at hj; exact hj
  have h := hs i j (Nat.zero_le _) hij (by omega)
  have ei : (nums d)[i] = (d[i]!).val := by simp [nums, hi']
  have ej : (nums d)[j] = (d[j]!).val := by simp [nums, hj']
  rw [ei, ej]
  unfold ltOf at h
  rw [decide_eq_false_iff_not, cfI_lt] at h
  have hnd : d.toList.Nodup := hp.nodup_iff.2 (List.nodup_finRange n)
  have hneq : d[i]! ≠ d[j]! := by
    have := List.pairwise_iff_getElem.1 hnd i j (by simpa using hi') (by simpa using hj') hij
    simpa [hi', hj'] using this
  have hv : (d[i]!).val ≠ (d[j]!).val := fun e => hneq (Fin.ext e)
  have := hne _ _ (d[i]!).isLt (d[j]!).isLt hv
  unfold Lt Lex
  omega

/-- THE PROGRAM's CORNERS ARE THE HULL's. -/
theorem hullOf_isHull {px py : Nat → Int} {n : Nat} [NeZero n] {d : Array (Fin n)} (h3 : 3 ≤ n) (hd : d.size = n) (hp : d.toList.Perm (List.finRange n)) (hs : SortedIn (ltOf (cfI px py)) 0 n d)
    (hne : ∀ i j, i < n → j < n → i ≠ j → ¬ (px i = px j ∧ py i = py j)) (hw : ∃ i, i < n ∧ T px py 0 1 i ≠ 0) : IsHull px py n (hullOf (T px py) (nums d)) := by
  have hsort := nums_sorted hd hp hs hne
  have hmem := nums_mem hp
  have hl : (nums d).length = n := by rw [nums_len, hd]
  obtain ⟨m1, a1, a2, a3, a4, a5, a6⟩ := walk_ends half_lex (nums d) (by omega) hsort
  have hrev : (nums d).reverse.Pairwise (Lt Back px py) := by
    rw [List.pairwise_reverse, List.pairwise_iff_getElem]
    intro i j hi hj hij
    exact lt_back.2 (List.pairwise_iff_getElem.1 hsort i j hi hj hij)
  obtain ⟨m2, b1, b2, b3, b4, b5, b6⟩ := walk_ends half_back' (nums d).reverse (by rw [List.length_reverse]; omega) hrev
  have c4 : (nums d).reverse.getD 0 0 = (nums d).getD (n - 1) 0 := by rw [getD_rev _ _ (by omega), hl]; rfl
  have c5 : (nums d).reverse.getD ((nums d).reverse.length - 1) 0 = (nums d).getD 0 0 := by rw [List.length_reverse, getD_rev _ _ (by omega), Nat.sub_self]
  have b3' : Walk Back px py (nums d) (stk (T px py) (nums d).reverse).reverse := ⟨b3.lt, fun j hj p hp => b3.side j hj p (List.mem_reverse.2 hp), b3.turn⟩
  have ord : ∀ i j, i < j → j < n → Lt Lex px py ((nums d).getD i 0) ((nums d).getD j 0) := by
    intro i j hij hj
    have := List.pairwise_iff_getElem.1 hsort i j (by omega) (by omega) hij
    rw [List.getD_eq_getElem?_getD, List.getD_eq_getElem?_getD, List.getElem?_eq_getElem (by omega), List.getElem?_eq_getElem (by omega)]
    exact this
  have idx : ∀ p ∈ nums d, ∃ i, i < n ∧ p = (nums d).getD i 0 := by
    intro p hp
    obtain ⟨i, hi, rfl⟩ := List.getElem_of_mem hp
    refine ⟨i, by omega, ?_⟩
    rw [List.getD_eq_getElem?_getD, List.getElem?_eq_getElem hi]; rfl
  refine isHull_of hmem ?_ a3 b3' m1 m2 a1 b1 a2 b2 a6 (fun i hi => List.mem_reverse.1 (b6 i hi)) ?_ ?_ ?_ ?_
  · obtain ⟨i, hi, ht⟩ := hw
    exact ⟨0, (hmem 0).2 (by omega), 1, (hmem 1).2 (by omega), i, (hmem i).2 hi, ht⟩
  · rw [b5, c5, a4]
  · rw [b4, c4, a5, hl]
  · intro p hp
    obtain ⟨i, hi, rfl⟩ := idx p hp
    rw [a4]
    by_cases h : i = 0
    · subst h; exact Or.inl rfl
    · exact Or.inr (ord 0 i (by omega) hi)
  · intro p hp
    obtain ⟨i, hi, rfl⟩ := idx p hp
    rw [a5, hl]
    by_cases h : i = n - 1
    · subst h; exact Or.inl rfl
    · exact Or.inr (ord i (n - 1) (by omega) (by omega))
end Go.Proofs.YtdbebbbceeopaaaGreat
