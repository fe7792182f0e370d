import Derived.Test.YtdbebbbceeopaaaGreatN11
import Derived.Test.YtdbebbbceeopaaaGreatN1
import Derived.Test.YtdbebbbceeopaaaGreatN3
import Derived.Laws.FloatArith
import Derived.Deep.QuietTactic
namespace Go.Proofs.YtdbebbbceeopaaaGreat
open Go.RowKit
open Flt (Is)

/-- Do the points 2 .. k + 1 lie on the line through the first two? -/
def flatB (px py : Nat → Int) : Nat → Bool
  | 0 => true
  | k + 1 => flatB px py k && decide (T px py 0 1 (k + 2) = 0)

theorem flatB_iff (px py : Nat → Int) (n : Nat) : flatB px py n = true ↔ ∀ i, i < n → T px py 0 1 (i + 2) = 0 := by
  induction n with
  | zero => simp [flatB]
  | succ n ih =>
    simp only [flatB, Bool.and_eq_true, ih, decide_eq_true_eq]
    constructor
    · rintro ⟨h1, h2⟩ i hi
      by_cases e : i = n
      · subst e; exact h2
      · exact h1 i (by omega)
    · intro h
      exact ⟨fun i hi => h i (by omega), h n (by omega)⟩

theorem flatB_false (px py : Nat → Int) (n k : Nat) (hk : k < n) (h : ¬ T px py 0 1 (k + 2) = 0) : flatB px py n = false := by
  cases h' : flatB px py n with
  | false => rfl
  | true => exact absurd ((flatB_iff px py n).1 h' k hk) h

set_option maxRecDepth 100000 in
set_option maxHeartbeats 1000000 in
theorem isFlat_any (px py : Nat → Int) (m pb po cap : Nat) (w : World) (hp : Plc w pb po (m + 2) px py) (hn : m + 2 ≤ 40) (hm : 0 < m) (hcap : m + 2 ≤ cap) :
    Calls Tryz.prog 60 #[.slice (some ⟨pb, po, none⟩) (m + 2 : Nat) cap] w fun e w' => e = .returned (.bool (flatB px py m)) ∧ Below w.heap.size w w' := by
  have HP := hid hp
  have h2 : (2 : Int) ≤ (m : Int) + 2 := by omega
  have h3 : ¬ cap = 2 := by omega
  clear hp
  go_enter Tryz.func60, Tryz.ntmps60
  go_wp2
  go_loopw [8] (fun i wr => ∃ k : Nat, k ≤ m ∧ i = .int .i64 k ∧ flatB px py k = true ∧ Below w.heap.size w wr) (fun i _ => m - (intOf i).toNat)
  case atStart => exact ⟨0, Nat.zero_le _, rfl, rfl, Below.refl _ _⟩
  case round =>
    obtain ⟨k, hk, rfl, ha, hb⟩ := hrel
    have HB := hid hb
    have HA := hid ha
    clear hb ha
    by_cases hlt : k < m
    · have hpw := HP.out.below HB.out HP.out.lt
      obtain ⟨r0, i0, c0, a0, a0'⟩ := hpw.cell 0 (by omega)
      obtain ⟨r1, i1, c1, a1, a1'⟩ := hpw.cell 1 (by omega)
      obtain ⟨rk, ik, ck, ak, ak'⟩ := hpw.cell (k + 2) (by omega)
      obtain ⟨b0, b0'⟩ := hpw.bd 0 (by omega)
      obtain ⟨b1, b1'⟩ := hpw.bd 1 (by omega)
      obtain ⟨bk, bk'⟩ := hpw.bd (k + 2) (by omega)
      obtain ⟨r, hr, hc⟩ := turn_any r0 i0 r1 i1 rk ik _ _ _ _ _ _ a0 a0' a1 a1' ak ak' b0 b0' b1 b1' bk bk'
      have hq := neq_zero hr
      rw [show tw (px 0) (py 0) (px 1) (py 1) (px (k + 2)) (py (k + 2)) = T px py 0 1 (k + 2) from rfl] at hq
      rw [Nat.add_zero] at c0
      have ck' : wr.cell? ⟨pb, po + 2 + k, none⟩ = some (.complex .f64 rk ik) := by rw [show po + 2 + k = po + (k + 2) by omega]; exact ck
      have HC := hid hc
      have hlt' : (k : Int) < m := by omega
      clear hc hr a0 a0' a1 a1' ak ak' b0 b0' b1 b1' bk bk' hpw ck
      by_cases ht : T px py 0 1 (k + 2) = 0
      · have hq' : (FloatKind.f64.format.order r 0 != some Ordering.eq) = false := by rw [hq]; simp [ht]
        have HT := hid ht
        clear ht hq
        go_wp2
        go_quiet ((go_at_call 68; exact Calls.quiet_of_same (HC.out _)))
        go_wp2
        go_roundw
        case rel => exact ⟨k + 1, by omega, by go_num, by rw [flatB, HA.out, HT.out]; rfl, below_drewN HB.out _⟩
        case measure => simp [intOf]; omega
      · have hq' : (FloatKind.f64.format.order r 0 != some Ordering.eq) = true := by rw [hq]; simp [ht]
        have HT := hid ht
        clear ht hq
        go_wp2
        go_quiet ((go_at_call 68; exact Calls.quiet_of_same (HC.out _)))
        go_wp2
        go_ret
        exact ⟨by rw [flatB_false _ _ _ k hlt HT.out]; rfl, below_drewN HB.out _⟩
    · have : k = m := by omega
      subst this
      go_wp2
      go_ret
      exact ⟨by rw [HA.out]; rfl, HB.out⟩

end Go.Proofs.YtdbebbbceeopaaaGreat

namespace Go.Proofs.YtdbebbbceeopaaaGreat
open Go.RowKit
open Go.Sort (SortedIn)
open Flt (Is)

/-- Which of Hull's errors applies first (0: none), of 3 to 40 points. -/
def refI (px py : Nat → Int) (n : Nat) : Int :=
  if allB px py n = false then 2 else if twB px py n = true then 3 else if flatB px py (n - 2) = true then 4 else 0

theorem near_iff (n : Int) : nearB n = true ↔ -1000 ≤ n ∧ n ≤ 1000 := by simp [nearB]

set_option maxRecDepth 100000 in
set_option maxHeartbeats 1000000 in
theorem refusal_any (px py : Nat → Int) (n qb qo cap : Nat) (w : World) (hp : Pts w qb qo n px py) (h3 : 3 ≤ n) (hn : n ≤ 40) (hcap : n ≤ cap) :
    Calls Tryz.prog 33 #[.slice (some ⟨qb, qo, none⟩) n cap] w fun e w' => e = .returned (.int .i64 (refI px py n)) ∧ Below w.heap.size w w' := by
  have g3 : decide ((n : Int) < 3) = false := by simp; omega
  have g40 : decide ((40 : Int) < n) = false := by simp; omega
  have c1 := hid (allInBounds_any px py n qb qo cap w hp hn)
  have HP := hid hp
  clear hp
  unfold refI
  cases hA : allB px py n
  · rw [hA] at c1
    clear hA
    go_enter Tryz.func33, Tryz.ntmps33
    go_wp2_with fail
    refine c1.out.mono ?_
    rintro e w' ⟨rfl, hb⟩
    have HB := hid hb
    clear hb
    go_wp2_with fail
    go_ret
    exact ⟨rfl, HB.out⟩
  · rw [hA] at c1
    have HA := hid hA
    clear hA
    cases hT : twB px py n
    · obtain ⟨m, rfl⟩ : ∃ m, n = m + 2 := ⟨n - 2, by omega⟩
      rw [show m + 2 - 2 = m from rfl]
      cases hF : flatB px py m
      · go_enter Tryz.func33, Tryz.ntmps33
        go_wp2_with fail
        refine c1.out.mono ?_
        rintro e w1 ⟨rfl, hb1⟩
        have c2 := hid (hasTwice_any px py (m + 2) qb qo cap w1 (HP.out.below hb1 HP.out.lt) hn hcap)
        rw [hT] at c2
        have HB1 := hid hb1
        clear c1 hb1
        go_wp2_with fail
        refine c2.out.mono ?_
        rintro e w2 ⟨rfl, hb2⟩
        have hbd : ∀ i, i < m + 2 → (-1000 ≤ px i ∧ px i ≤ 1000) ∧ (-1000 ≤ py i ∧ py i ≤ 1000) := by
          intro i hi
          have := (allB_iff px py (m + 2)).1 HA.out i hi
          exact ⟨(near_iff _).1 this.1, (near_iff _).1 this.2⟩
        have hb02 : Below w.heap.size w w2 := HB1.out.trans (hb2.mono HB1.out.size)
        have c3 := hid (places_any px py (m + 2) qb qo cap w2 (HP.out.below hb02 HP.out.lt) hn hbd)
        have HB2 := hid hb02
        clear c2 hb2 hb02 HB1 hbd
        go_wp2_with fail
        refine c3.out.mono ?_
        rintro e w3 ⟨rfl, hb3, hp3⟩
        have c4 := hid (isFlat_any px py m w2.heap.size 0 (m + 2) w3 hp3 hn (by omega) (Nat.le_refl _))
        have hb03 : Below w.heap.size w w3 := HB2.out.trans (hb3.mono HB2.out.size)
        have HB3 := hid hb03
        clear c3 hb3 hp3 HB2 hb03
        rw [hF] at c4
        clear hF
        go_wp2_with fail
        refine c4.out.mono ?_
        rintro e w4 ⟨rfl, hb4⟩
        have HB4 := hid (HB3.out.trans (hb4.mono HB3.out.size))
        clear hb4
        go_wp2_with fail
        go_ret
        exact ⟨rfl, HB4.out⟩
      · go_enter Tryz.func33, Tryz.ntmps33
        go_wp2_with fail
        refine c1.out.mono ?_
        rintro e w1 ⟨rfl, hb1⟩
        have c2 := hid (hasTwice_any px py (m + 2) qb qo cap w1 (HP.out.below hb1 HP.out.lt) hn hcap)
        rw [hT] at c2
        have HB1 := hid hb1
        clear c1 hb1
        go_wp2_with fail
        refine c2.out.mono ?_
        rintro e w2 ⟨rfl, hb2⟩
        have hbd : ∀ i, i < m + 2 → (-1000 ≤ px i ∧ px i ≤ 1000) ∧ (-1000 ≤ py i ∧ py i ≤ 1000) := by
          intro i hi
          have := (allB_iff px py (m + 2)).1 HA.out i hi
          exact ⟨(near_iff _).1 this.1, (near_iff _).1 this.2⟩
        have hb02 : Below w.heap.size w w2 := HB1.out.trans (hb2.mono HB1.out.size)
        have c3 := hid (places_any px py (m + 2) qb qo cap w2 (HP.out.below hb02 HP.out.lt) hn hbd)
        have HB2 := hid hb02
        clear c2 hb2 hb02 HB1 hbd
        go_wp2_with fail
        refine c3.out.mono ?_
        rintro e w3 ⟨rfl, hb3, hp3⟩
        have c4 := hid (isFlat_any px py m w2.heap.size 0 (m + 2) w3 hp3 hn (by omega) (Nat.le_refl _))
        have hb03 : Below w.heap.size w w3 := HB2.out.trans (hb3.mono HB2.out.size)
        have HB3 := hid hb03
        clear c3 hb3 hp3 HB2 hb03
        rw [hF] at c4
        clear hF
        go_wp2_with fail
        refine c4.out.mono ?_
        rintro e w4 ⟨rfl, hb4⟩
        have HB4 := hid (HB3.out.trans (hb4.mono HB3.out.size))
        clear hb4
        go_wp2_with fail
        go_ret
        exact ⟨rfl, HB4.out⟩
    · go_enter Tryz.func33, Tryz.ntmps33
      go_wp2_with fail
      refine c1.out.mono ?_
      rintro e w1 ⟨rfl, hb1⟩
      have c2 := hid (hasTwice_any px py n qb qo cap w1 (HP.out.below hb1 HP.out.lt) hn hcap)
      rw [hT] at c2
      clear hT
      have HB1 := hid hb1
      clear c1 hb1
      go_wp2_with fail
      refine c2.out.mono ?_
      rintro e w2 ⟨rfl, hb2⟩
      have HB2 := hid (HB1.out.trans (hb2.mono HB1.out.size))
      clear c2 hb2
      go_wp2_with fail
      go_ret
      exact ⟨rfl, HB2.out⟩

set_option maxRecDepth 100000 in
set_option maxHeartbeats 1000000 in
/-- triskel.Hull, where no error applies. -/
theorem hull_ok (px py : Nat → Int) (n : Nat) [NeZero n] (qb qo cap : Nat) (w : World) (hp : Pts w qb qo n px py) (h3 : 3 ≤ n) (hn : n ≤ 40) (hcap : n ≤ cap) (hr : refI px py n = 0) :
    Calls Tryz.prog 21 #[.slice (some ⟨qb, qo, none⟩) n cap] w fun e w' => ∃ v, e = .returned (.tuple #[v, .int .i64 0]) ∧ Below w.heap.size w w' ∧
      ∃ d : Array (Fin n), d.size = n ∧ d.toList.Perm (List.finRange n) ∧ SortedIn (ltOf (cfI px py)) 0 n d ∧
        w'.ownsRow w.heap.size 3 1 v (hullOf (T px py) (nums d)).length ((hullOf (T px py) (nums d)).map encN) := by
  have c1 := refusal_any px py n qb qo cap w hp h3 hn hcap
  rw [hr] at c1
  have C1 := hid c1
  have HP := hid hp
  have hA : allB px py n = true := by
    cases h : allB px py n with
    | true => rfl
    | false => simp [refI, h] at hr
  have hbd : ∀ i, i < n → (-1000 ≤ px i ∧ px i ≤ 1000) ∧ (-1000 ≤ py i ∧ py i ≤ 1000) := by
    intro i hi
    have := (allB_iff px py n).1 hA i hi
    exact ⟨(near_iff _).1 this.1, (near_iff _).1 this.2⟩
  have HBD := hid hbd
  clear hp c1 hr hA hbd
  go_enter Tryz.func21, Tryz.ntmps21
  go_wp2_with fail
  refine C1.out.mono ?_
  rintro e w1 ⟨rfl, hb1⟩
  have c2 := hid (places_any px py n qb qo cap w1 (HP.out.below hb1 HP.out.lt) hn HBD.out)
  have HB1 := hid hb1
  clear C1 hb1
  go_wp2_with fail
  refine c2.out.mono ?_
  rintro e w2 ⟨rfl, hb2, hp2⟩
  have c3 := hid (corners_any px py n w1.heap.size 0 n w2 hp2 hn (by omega))
  have HB2 := hid (HB1.out.trans (hb2.mono HB1.out.size))
  clear c2 hb2 hp2 HB1
  go_wp2_with fail
  refine c3.out.mono ?_
  rintro e w3 ⟨v, rfl, hb3, d, hd, hperm, hsort, hown⟩
  have HB3 := hid (HB2.out.trans (hb3.mono HB2.out.size))
  have HR := hid (And.intro hd (And.intro hperm (And.intro hsort (owns_base hown HB2.out.size))))
  clear c3 hb3 hown HB2 hd hperm hsort
  go_wp2_with fail
  go_ret2
  exact ⟨v, rfl, HB3.out, d, HR.out⟩
end Go.Proofs.YtdbebbbceeopaaaGreat

namespace Go.Proofs.YtdbebbbceeopaaaGreat
open Go.RowKit
open Go.Sort (SortedIn)
open Geo

theorem walk_ends {Pos : Int → Int → Prop} {px py : Nat → Int} (H : Half Pos) (os : List Nat) (h2 : 2 ≤ os.length) (hos : os.Pairwise (Lt Pos px py)) :
    ∃ m, (stk (T px py) os).reverse.length = m + 1 ∧ 1 ≤ m ∧ Walk Pos px py os (stk (T px py) os).reverse ∧ (stk (T px py) os).reverse.getD 0 0 = os.getD 0 0 ∧ (stk (T px py) os).reverse.getD m 0 = os.getD (os.length - 1) 0 ∧
      ∀ i, i < (stk (T px py) os).reverse.length → (stk (T px py) os).reverse.getD i 0 ∈ os := by
  obtain ⟨s, e1, e2, e3⟩ := stk_good H os hos os.length (by omega) (Nat.le_refl _)
  rw [List.take_length] at e1 e3
  have hl := stk_two (T px py) os h2
  rw [e1] at hl ⊢
  obtain ⟨l, hl'⟩ : ∃ l, l = os[os.length - 1]! := ⟨_, rfl⟩
  rw [← hl'] at e1 e2 e3 hl ⊢
  have hlast : l = os.getD (os.length - 1) 0 := by
    rw [hl', List.getD_eq_getElem?_getD, List.getElem!_eq_getElem?_getD]; rfl
  have hfirst : os[0]! = os.getD 0 0 := by
    rw [List.getD_eq_getElem?_getD, List.getElem!_eq_getElem?_getD]; rfl
  refine ⟨s.length, by simp, by simp at hl; omega, walk_of e3, ?_, ?_, ?_⟩
  · rw [getD_rev _ _ (by simp), ← hfirst]
    rw [List.getLast?_eq_getElem?] at e2
    rw [List.getD_eq_getElem?_getD, Nat.sub_zero, e2]
    rfl
  · rw [getD_rev _ _ (by simp), ← hlast]
    simp
  · intro i hi
    have hm : (l :: s).reverse.getD i 0 ∈ (l :: s).reverse := by
      rw [List.getD_eq_getElem?_getD, List.getElem?_eq_getElem hi]
      exact List.getElem_mem _
    have : (l :: s).reverse.getD i 0 ∈ stk (T px py) os := by rw [e1]; exact List.mem_reverse.1 hm
    have := stk_mem (T px py) os os.length (Nat.le_refl _) _ (by rw [List.take_length]; exact this)
    exact this

theorem nums_mem {n : Nat} {d : Array (Fin n)} (hp : d.toList.Perm (List.finRange n)) (p : Nat) : p ∈ nums d ↔ p < n := by
  constructor
  · exact nums_lt d p
  · intro h
    unfold nums
    rw [List.mem_map]
    exact ⟨⟨p, h⟩, hp.mem_iff.2 (List.mem_finRange _), rfl⟩

theorem nums_sorted {px py : Nat → Int} {n : Nat} [NeZero n] {d : Array (Fin n)} (hd : d.size = n) (hp : d.toList.Perm (List.finRange n)) (hs : SortedIn (ltOf (cfI px py)) 0 n d)
    (hne : ∀ i j, i < n → j < n → i ≠ j → ¬ (px i = px j ∧ py i = py j)) : (nums d).Pairwise (Lt Lex px py) := by
  rw [List.pairwise_iff_getElem]
  intro i j hi hj hij
  have hi' : i < d.size := by rw [nums_len] at hi; exact hi
  have hj' : j < d.size := by rw [nums_len] at hj; exact hj
  have h := hs i j (Nat.zero_le _) hij (by omega)
  have ei : (nums d)[i] = (d[i]!).val := by simp [nums, hi']
  have ej : (nums d)[j] = (d[j]!).val := by simp [nums, hj']
  rw [ei, ej]
  unfold ltOf at h
  rw [decide_eq_false_iff_not, cfI_lt] at h
  have hnd : d.toList.Nodup := hp.nodup_iff.2 (List.nodup_finRange n)
  have hneq : d[i]! ≠ d[j]! := by
    have := List.pairwise_iff_getElem.1 hnd i j (by simpa using hi') (by simpa using hj') hij
    simpa [hi', hj'] using this
  have hv : (d[i]!).val ≠ (d[j]!).val := fun e => hneq (Fin.ext e)
  have := hne _ _ (d[i]!).isLt (d[j]!).isLt hv
  unfold Lt Lex
  omega

/-- THE PROGRAM's CORNERS ARE THE HULL's. -/
theorem hullOf_isHull {px py : Nat → Int} {n : Nat} [NeZero n] {d : Array (Fin n)} (h3 : 3 ≤ n) (hd : d.size = n) (hp : d.toList.Perm (List.finRange n)) (hs : SortedIn (ltOf (cfI px py)) 0 n d)
    (hne : ∀ i j, i < n → j < n → i ≠ j → ¬ (px i = px j ∧ py i = py j)) (hw : ∃ i, i < n ∧ T px py 0 1 i ≠ 0) : IsHull px py n (hullOf (T px py) (nums d)) := by
  have hsort := nums_sorted hd hp hs hne
  have hmem := nums_mem hp
  have hl : (nums d).length = n := by rw [nums_len, hd]
  obtain ⟨m1, a1, a2, a3, a4, a5, a6⟩ := walk_ends half_lex (nums d) (by omega) hsort
  have hrev : (nums d).reverse.Pairwise (Lt Back px py) := by
    rw [List.pairwise_reverse, List.pairwise_iff_getElem]
    intro i j hi hj hij
    exact lt_back.2 (List.pairwise_iff_getElem.1 hsort i j hi hj hij)
  obtain ⟨m2, b1, b2, b3, b4, b5, b6⟩ := walk_ends half_back' (nums d).reverse (by rw [List.length_reverse]; omega) hrev
  have c4 : (nums d).reverse.getD 0 0 = (nums d).getD (n - 1) 0 := by rw [getD_rev _ _ (by omega), hl]; rfl
  have c5 : (nums d).reverse.getD ((nums d).reverse.length - 1) 0 = (nums d).getD 0 0 := by rw [List.length_reverse, getD_rev _ _ (by omega), Nat.sub_self]
  have b3' : Walk Back px py (nums d) (stk (T px py) (nums d).reverse).reverse := ⟨b3.lt, fun j hj p hp => b3.side j hj p (List.mem_reverse.2 hp), b3.turn⟩
  have ord : ∀ i j, i < j → j < n → Lt Lex px py ((nums d).getD i 0) ((nums d).getD j 0) := by
    intro i j hij hj
    have := List.pairwise_iff_getElem.1 hsort i j (by omega) (by omega) hij
    rw [List.getD_eq_getElem?_getD, List.getD_eq_getElem?_getD, List.getElem?_eq_getElem (by omega), List.getElem?_eq_getElem (by omega)]
    exact this
  have idx : ∀ p ∈ nums d, ∃ i, i < n ∧ p = (nums d).getD i 0 := by
    intro p hp
    obtain ⟨i, hi, rfl⟩ := List.getElem_of_mem hp
    refine ⟨i, by omega, ?_⟩
    rw [List.getD_eq_getElem?_getD, List.getElem?_eq_getElem hi]; rfl
  refine isHull_of hmem ?_ a3 b3' m1 m2 a1 b1 a2 b2 a6 (fun i hi => List.mem_reverse.1 (b6 i hi)) ?_ ?_ ?_ ?_
  · obtain ⟨i, hi, ht⟩ := hw
    exact ⟨0, (hmem 0).2 (by omega), 1, (hmem 1).2 (by omega), i, (hmem i).2 hi, ht⟩
  · rw [b5, c5, a4]
  · rw [b4, c4, a5, hl]
  · intro p hp
    obtain ⟨i, hi, rfl⟩ := idx p hp
    rw [a4]
    by_cases h : i = 0
    · subst h; exact Or.inl rfl
    · exact Or.inr (ord 0 i (by omega) hi)
  · intro p hp
    obtain ⟨i, hi, rfl⟩ := idx p hp
    rw [a5, hl]
    by_cases h : i = n - 1
    · subst h; exact Or.inl rfl
    · exact Or.inr (ord i (n - 1) (by omega) (by omega))
end Go.Proofs.YtdbebbbceeopaaaGreat

set_option linter.unusedSimpArgs false
namespace Go.Proofs.YtdbebbbceeopaaaGreat
open Go.RowKit

end Go.Proofs.YtdbebbbceeopaaaGreat

set_option linter.unusedSimpArgs false
namespace Go.Proofs.YtdbebbbceeopaaaGreat
open Go.RowKit
open Flt (Is)

set_option maxHeartbeats 400000 in
/-- plane.square, of a way. -/
theorem square_any (u1 u2 : Nat) (ux uy : Int) (hu1 : Is u1 ux) (hu2 : Is u2 uy) (A : -2000 ≤ ux ∧ ux ≤ 2000) (A' : -2000 ≤ uy ∧ uy ≤ 2000) :
    ∃ r, Is r (Geo.sq ux uy) ∧ ∀ w : World, Calls Tryz.prog 135 #[.complex .f64 u1 u2] w fun e w' => e = .returned (.float .f64 r) ∧ w' = w := by
  have hn := hu2.neg
  have b1' := bnd_mul (a := ux) (b := ux) (A := 2000) (B := 2000) (by omega) (by omega) (by omega) (by omega)
  have b2' := bnd_mul (a := -uy) (b := uy) (A := 2000) (B := 2000) (by omega) (by omega) (by omega) (by omega)
  have b3' := bnd_mul (a := ux) (b := uy) (A := 2000) (B := 2000) (by omega) (by omega) (by omega) (by omega)
  have b4' := bnd_mul (a := -uy) (b := ux) (A := 2000) (B := 2000) (by omega) (by omega) (by omega) (by omega)
  obtain ⟨p1, ep1, hp1⟩ := hu1.mul hu1 (by omega) (by omega)
  obtain ⟨p2, ep2, hp2⟩ := hn.mul hu2 (by omega) (by omega)
  obtain ⟨p3, ep3, hp3⟩ := hu1.mul hu2 (by omega) (by omega)
  obtain ⟨p4, ep4, hp4⟩ := hn.mul hu1 (by omega) (by omega)
  obtain ⟨s1, es1, hs1⟩ := hp1.sub hp2 (by omega) (by omega)
  obtain ⟨s2, es2, _⟩ := hp3.add hp4 (by omega) (by omega)
  refine ⟨s1, ?_, ?_⟩
  · have e : Geo.sq ux uy = ux * ux - -uy * uy := by
      unfold Geo.sq; rw [Int.neg_mul]; omega
    rw [e]; exact hs1
  · intro w
    have k3 : cMulBits u1 (Op.negFloat .f64 u2) u1 u2 = some (s1, s2) := by simp [cMulBits, ep1, ep2, ep3, ep4, es1, es2]
    have o3 := fun t w => run_complex_mul (P := Tryz.prog) w t u1 (Op.negFloat .f64 u2) u1 u2 s1 s2 k3
    generalize hnu : Op.negFloat .f64 u2 = nu at *
    clear A A' hu1 hu2 hn b1' b2' b3' b4' ep1 ep2 ep3 ep4 hp1 hp2 hp3 hp4 es1 es2 hs1 k3
    have cj := conj_any u1 u2
    rw [hnu] at cj
    clear hnu
    go_enter Tryz.func135, Tryz.ntmps135
    go_wp2_with (go_at_call 97; refine (cj _).mono ?_; rintro e w' ⟨rfl, rfl⟩)
    go_ret
    exact ⟨rfl, rfl⟩

theorem sq_bd {x y : Int} (h1 : -2000 ≤ x ∧ x ≤ 2000) (h2 : -2000 ≤ y ∧ y ≤ 2000) : 0 ≤ Geo.sq x y ∧ Geo.sq x y ≤ 8000000 := by
  have := Geo.sq_nonneg' x y
  have a := bnd_mul (a := x) (b := x) (A := 2000) (B := 2000) h1.1 h1.2 h1.1 h1.2
  have b := bnd_mul (a := y) (b := y) (A := 2000) (B := 2000) h2.1 h2.2 h2.1 h2.2
  unfold Geo.sq at *
  omega

theorem prod_bd {s c : Int} (h1 : 0 ≤ s ∧ s ≤ 8000000) (h2 : -8000000 ≤ c ∧ c ≤ 8000000) : -64000000000000 ≤ s * c ∧ s * c ≤ 64000000000000 := by
  have := bnd_mul (a := s) (b := c) (A := 8000000) (B := 8000000) (by omega) h1.2 h2.1 h2.2
  omega

theorem tw_bd8 {ax ay bx bya cx cy : Int} (A : -1000 ≤ ax ∧ ax ≤ 1000) (A' : -1000 ≤ ay ∧ ay ≤ 1000) (B : -1000 ≤ bx ∧ bx ≤ 1000) (B' : -1000 ≤ bya ∧ bya ≤ 1000) (C : -1000 ≤ cx ∧ cx ≤ 1000) (C' : -1000 ≤ cy ∧ cy ≤ 1000) :
    -8000000 ≤ tw ax ay bx bya cx cy ∧ tw ax ay bx bya cx cy ≤ 8000000 := by
  have := tw_bd A A' B B' C C'
  unfold tw
  omega

theorem prod_bd8 {s c : Int} (h1 : -8000000 ≤ s ∧ s ≤ 8000000) (h2 : -8000000 ≤ c ∧ c ≤ 8000000) : -64000000000000 ≤ s * c ∧ s * c ≤ 64000000000000 := by
  have := bnd_mul (a := s) (b := c) (A := 8000000) (B := 8000000) (by omega) h1.2 h2.1 h2.2
  omega

/-- The sum that tells whether d lies below, of places and their heights. -/
def blV (ax ay bx bya cx cy dx dy ha hb hc hd : Int) : Int := (ha - hd) * tw dx dy bx bya cx cy + (hb - hd) * tw dx dy cx cy ax ay + (hc - hd) * tw dx dy ax ay bx bya

set_option maxRecDepth 100000 in
set_option maxHeartbeats 4000000 in
/-- plane.Below, of places that stand for points in bounds, with a height as plane.Within has it. -/
theorem below_any134 (a1 a2 b1 b2 c1 c2 d1 d2 ra rb rc rd : Nat) (ax ay bx bya cx cy dx dy ha hb hc hd : Int) (hax : Is a1 ax) (hay : Is a2 ay) (hbx : Is b1 bx) (hby : Is b2 bya) (hcx : Is c1 cx) (hcy : Is c2 cy) (hdx : Is d1 dx) (hdy : Is d2 dy)
    (A : -1000 ≤ ax ∧ ax ≤ 1000) (A' : -1000 ≤ ay ∧ ay ≤ 1000) (B : -1000 ≤ bx ∧ bx ≤ 1000) (B' : -1000 ≤ bya ∧ bya ≤ 1000) (C : -1000 ≤ cx ∧ cx ≤ 1000) (C' : -1000 ≤ cy ∧ cy ≤ 1000) (D : -1000 ≤ dx ∧ dx ≤ 1000) (D' : -1000 ≤ dy ∧ dy ≤ 1000)
    (ia : Is ra ha) (ib : Is rb hb) (ic : Is rc hc) (id : Is rd hd) (BA : 0 ≤ ha ∧ ha ≤ 8000000) (BB : 0 ≤ hb ∧ hb ≤ 8000000) (BC : 0 ≤ hc ∧ hc ≤ 8000000) (BD : 0 ≤ hd ∧ hd ≤ 8000000) (caps : Array Value) (w : World)
    (Ka : Calls Tryz.prog 134 (#[.complex .f64 a1 a2] ++ caps) w fun e w' => e = .returned (.float .f64 ra) ∧ w' = w)
    (Kb : Calls Tryz.prog 134 (#[.complex .f64 b1 b2] ++ caps) w fun e w' => e = .returned (.float .f64 rb) ∧ w' = w)
    (Kc : Calls Tryz.prog 134 (#[.complex .f64 c1 c2] ++ caps) w fun e w' => e = .returned (.float .f64 rc) ∧ w' = w)
    (Kd : Calls Tryz.prog 134 (#[.complex .f64 d1 d2] ++ caps) w fun e w' => e = .returned (.float .f64 rd) ∧ w' = w) :
    Calls Tryz.prog 112 #[.complex .f64 a1 a2, .complex .f64 b1 b2, .complex .f64 c1 c2, .complex .f64 d1 d2, .func (.func 134) #[] caps] w fun e w' =>
      e = .returned (.bool (decide (0 < blV ax ay bx bya cx cy dx dy ha hb hc hd))) ∧ w' = w := by
  obtain ⟨ca, hca, La⟩ := turn_any d1 d2 b1 b2 c1 c2 _ _ _ _ _ _ hdx hdy hbx hby hcx hcy D D' B B' C C'
  obtain ⟨cb, hcb, Lb⟩ := turn_any d1 d2 c1 c2 a1 a2 _ _ _ _ _ _ hdx hdy hcx hcy hax hay D D' C C' A A'
  obtain ⟨cc, hcc, Lc⟩ := turn_any d1 d2 a1 a2 b1 b2 _ _ _ _ _ _ hdx hdy hax hay hbx hby D D' A A' B B'
  obtain ⟨sa, ea, hsa⟩ := ia.sub id (by omega) (by omega)
  obtain ⟨sb, eb, hsb⟩ := ib.sub id (by omega) (by omega)
  obtain ⟨sc, ec, hsc⟩ := ic.sub id (by omega) (by omega)
  have m1 := prod_bd8 (s := ha - hd) (by omega) (tw_bd8 D D' B B' C C')
  have m2 := prod_bd8 (s := hb - hd) (by omega) (tw_bd8 D D' C C' A A')
  have m3 := prod_bd8 (s := hc - hd) (by omega) (tw_bd8 D D' A A' B B')
  obtain ⟨x1, ex1, hx1⟩ := hsa.mul hca (by omega) (by omega)
  obtain ⟨x2, ex2, hx2⟩ := hsb.mul hcb (by omega) (by omega)
  obtain ⟨x3, ex3, hx3⟩ := hsc.mul hcc (by omega) (by omega)
  obtain ⟨y1, ey1, hy1⟩ := hx1.add hx2 (by omega) (by omega)
  obtain ⟨y2, ey2, hy2⟩ := hy1.add hx3 (by omega) (by omega)
  have g := gtr_zero hy2
  have s1 := fun t w => run_float_arith (P := Tryz.prog) w .sub t .f64 ra rd sa ea
  have s2 := fun t w => run_float_arith (P := Tryz.prog) w .sub t .f64 rb rd sb eb
  have s3 := fun t w => run_float_arith (P := Tryz.prog) w .sub t .f64 rc rd sc ec
  have f1 := fun t w => run_float_arith (P := Tryz.prog) w .mul t .f64 sa ca x1 ex1
  have f2 := fun t w => run_float_arith (P := Tryz.prog) w .mul t .f64 sb cb x2 ex2
  have f3 := fun t w => run_float_arith (P := Tryz.prog) w .mul t .f64 sc cc x3 ex3
  have f4 := fun t w => run_float_arith (P := Tryz.prog) w .add t .f64 x1 x2 y1 ey1
  have f5 := fun t w => run_float_arith (P := Tryz.prog) w .add t .f64 y1 x3 y2 ey2
  obtain ⟨d, hd'⟩ : ∃ d, d = decide (0 < blV ax ay bx bya cx cy dx dy ha hb hc hd) := ⟨_, rfl⟩
  have g' : (FloatKind.f64.format.order y2 0 == some Ordering.gt) = d := by rw [hd']; exact g
  rw [← hd']
  have HKa := hid Ka
  have HKb := hid Kb
  have HKc := hid Kc
  have HKd := hid Kd
  have HLa := hid La
  have HLb := hid Lb
  have HLc := hid Lc
  clear hd' g hax hay hbx hby hcx hcy hdx hdy A A' B B' C C' D D' ea eb ec hsa hsb hsc hca hcb hcc m1 m2 m3 ex1 ex2 ex3 ey1 ey2 hx1 hx2 hx3 hy1 hy2 Ka Kb Kc Kd La Lb Lc ia ib ic id BA BB BC BD
  go_enter Tryz.func112, Tryz.ntmps112
  go_wp2_with fail
  refine (HKd.out).mono ?_
  rintro e w' ⟨rfl, rfl⟩
  go_wp2_with fail
  refine (HKa.out).mono ?_
  rintro e w' ⟨rfl, rfl⟩
  go_wp2_with fail
  refine (HLa.out _).mono ?_
  rintro e w' ⟨rfl, rfl⟩
  go_wp2_with fail
  refine (HKb.out).mono ?_
  rintro e w' ⟨rfl, rfl⟩
  go_wp2_with fail
  refine (HLb.out _).mono ?_
  rintro e w' ⟨rfl, rfl⟩
  go_wp2_with fail
  refine (HKc.out).mono ?_
  rintro e w' ⟨rfl, rfl⟩
  go_wp2_with fail
  refine (HLc.out _).mono ?_
  rintro e w' ⟨rfl, rfl⟩
  go_wp2_with fail
  go_ret
  exact ⟨rfl, rfl⟩

set_option maxHeartbeats 400000 in
/-- The height that plane.Within has. -/
theorem height_any (p1 p2 d1 d2 bk : Nat) (x y dx dy : Int) (h1 : Is p1 x) (h2 : Is p2 y) (h3 : Is d1 dx) (h4 : Is d2 dy) (A : -1000 ≤ x ∧ x ≤ 1000) (A' : -1000 ≤ y ∧ y ≤ 1000) (D : -1000 ≤ dx ∧ dx ≤ 1000) (D' : -1000 ≤ dy ∧ dy ≤ 1000) :
    ∃ r, Is r (Geo.sq (x - dx) (y - dy)) ∧ ∀ w : World, w.cell? ⟨bk, 0, none⟩ = some (.complex .f64 d1 d2) → Calls Tryz.prog 134 #[.complex .f64 p1 p2, .pointer (some ⟨bk, 0, none⟩)] w fun e w' => e = .returned (.float .f64 r) ∧ w' = w := by
  obtain ⟨u1, e1, i1⟩ := h1.sub h3 (by omega) (by omega)
  obtain ⟨u2, e2, i2⟩ := h2.sub h4 (by omega) (by omega)
  have k1 : cSumBits .sub .f64 p1 p2 d1 d2 = some (u1, u2) := by simp [cSumBits, e1, e2]
  have o1 := fun t w => run_complex_sum (P := Tryz.prog) w .sub (Or.inr rfl) t .f64 p1 p2 d1 d2 u1 u2 k1
  obtain ⟨r, hr, K⟩ := square_any u1 u2 _ _ i1 i2 (by omega) (by omega)
  refine ⟨r, hr, fun w hc => ?_⟩
  have HK := hid K
  clear K hr k1 e1 e2 i1 i2 h1 h2 h3 h4 A A' D D'
  go_enter Tryz.func134, Tryz.ntmps134
  go_wp2_with fail
  refine (HK.out _).mono ?_
  rintro e w' ⟨rfl, rfl⟩
  go_wp2_with fail
  go_ret
  exact ⟨rfl, rfl⟩

theorem wn_bl (ax ay bx bya cx cy dx dy : Int) : blV ax ay bx bya cx cy dx dy (Geo.sq (ax - dx) (ay - dy)) (Geo.sq (bx - dx) (bya - dy)) (Geo.sq (cx - dx) (cy - dy)) (Geo.sq (dx - dx) (dy - dy)) = Geo.sq (ax - dx) (ay - dy) * tw dx dy bx bya cx cy + Geo.sq (bx - dx) (bya - dy) * tw dx dy cx cy ax ay + Geo.sq (cx - dx) (cy - dy) * tw dx dy ax ay bx bya := by
  have : Geo.sq (dx - dx) (dy - dy) = 0 := by unfold Geo.sq; rw [Int.sub_self, Int.sub_self]; rfl
  unfold blV
  rw [this]
  simp

set_option maxRecDepth 100000 in
set_option maxHeartbeats 4000000 in
/-- plane.Within, of places that stand for points in bounds. -/
theorem within_any (a1 a2 b1 b2 c1 c2 d1 d2 : Nat) (px py : Nat → Int) (a b c d : Nat) (hax : Is a1 (px a)) (hay : Is a2 (py a)) (hbx : Is b1 (px b)) (hby : Is b2 (py b)) (hcx : Is c1 (px c)) (hcy : Is c2 (py c)) (hdx : Is d1 (px d)) (hdy : Is d2 (py d))
    (A : (-1000 ≤ px a ∧ px a ≤ 1000) ∧ (-1000 ≤ py a ∧ py a ≤ 1000)) (B : (-1000 ≤ px b ∧ px b ≤ 1000) ∧ (-1000 ≤ py b ∧ py b ≤ 1000)) (C : (-1000 ≤ px c ∧ px c ≤ 1000) ∧ (-1000 ≤ py c ∧ py c ≤ 1000)) (D : (-1000 ≤ px d ∧ px d ≤ 1000) ∧ (-1000 ≤ py d ∧ py d ≤ 1000)) (w : World) :
    Calls Tryz.prog 117 #[.complex .f64 a1 a2, .complex .f64 b1 b2, .complex .f64 c1 c2, .complex .f64 d1 d2] w fun e w' =>
      e = .returned (.bool (decide (0 < Geo.Wn px py a b c d))) ∧ Below w.heap.size w w' := by
  obtain ⟨ra, ia, Ka⟩ := height_any a1 a2 d1 d2 w.heap.size _ _ _ _ hax hay hdx hdy A.1 A.2 D.1 D.2
  obtain ⟨rb, ib, Kb⟩ := height_any b1 b2 d1 d2 w.heap.size _ _ _ _ hbx hby hdx hdy B.1 B.2 D.1 D.2
  obtain ⟨rc, ic, Kc⟩ := height_any c1 c2 d1 d2 w.heap.size _ _ _ _ hcx hcy hdx hdy C.1 C.2 D.1 D.2
  obtain ⟨rd, id, Kd⟩ := height_any d1 d2 d1 d2 w.heap.size _ _ _ _ hdx hdy hdx hdy D.1 D.2 D.1 D.2
  have cell : (w.alloc (.cells #[.complex .f64 d1 d2] 94)).cell? ⟨w.heap.size, 0, none⟩ = some (.complex .f64 d1 d2) := World.cell?_alloc_at _ _ _ _ rfl
  have K := hid (below_any134 a1 a2 b1 b2 c1 c2 d1 d2 ra rb rc rd _ _ _ _ _ _ _ _ _ _ _ _ hax hay hbx hby hcx hcy hdx hdy A.1 A.2 B.1 B.2 C.1 C.2 D.1 D.2 ia ib ic id (sq_bd (by omega) (by omega)) (sq_bd (by omega) (by omega)) (sq_bd (by omega) (by omega)) (sq_bd (by omega) (by omega)) #[.pointer (some ⟨w.heap.size, 0, none⟩)] (w.alloc (.cells #[.complex .f64 d1 d2] 94)) (Ka _ cell) (Kb _ cell) (Kc _ cell) (Kd _ cell))
  have e : blV (px a) (py a) (px b) (py b) (px c) (py c) (px d) (py d) (Geo.sq (px a - px d) (py a - py d)) (Geo.sq (px b - px d) (py b - py d)) (Geo.sq (px c - px d) (py c - py d)) (Geo.sq (px d - px d) (py d - py d)) = Geo.Wn px py a b c d := wn_bl _ _ _ _ _ _ _ _
  rw [e] at K
  generalize decide (0 < Geo.Wn px py a b c d) = r at *
  clear Ka Kb Kc Kd hax hay hbx hby hcx hcy hdx hdy A B C D ia ib ic id e
  go_enter Tryz.func117, Tryz.ntmps117
  go_wp2_with fail
  refine (K.out).mono ?_
  rintro e w' ⟨rfl, rfl⟩
  go_wp2_with fail
  go_ret
  exact ⟨rfl, (Below.refl _ _).alloc (Nat.le_refl _) _⟩
end Go.Proofs.YtdbebbbceeopaaaGreat
