import Derived.Test.YtdbebbbceeopaaaGreatE
namespace Go.Proofs.YtdbebbbceeopaaaGreat
open Go.RowKit
open Flt (Is)

/-- A row of points: block qb, from qo on, n of them, two cells each. -/
structure Pts (w : World) (qb qo n : Nat) (px py : Nat → Int) : Prop where
  lt : qb < w.heap.size
  x : ∀ i, i < n → w.cell? ⟨qb, qo + i * 2, none⟩ = some (.int .i64 (px i))
  y : ∀ i, i < n → w.cell? ⟨qb, qo + i * 2 + 1, none⟩ = some (.int .i64 (py i))

theorem Pts.below {w w' : World} {B qb qo n : Nat} {px py : Nat → Int} (h : Pts w qb qo n px py) (hb : Below B w w') (hB : qb < B) : Pts w' qb qo n px py :=
  ⟨Nat.lt_of_lt_of_le h.lt hb.size, fun i hi => by rw [hb.cell (by exact hB)]; exact h.x i hi, fun i hi => by rw [hb.cell (by exact hB)]; exact h.y i hi⟩

/-- All of the first n points in bounds. -/
def allB (px py : Nat → Int) : Nat → Bool
  | 0 => true
  | n + 1 => allB px py n && (nearB (px n) && nearB (py n))

theorem allB_iff (px py : Nat → Int) (n : Nat) : allB px py n = true ↔ ∀ i, i < n → nearB (px i) = true ∧ nearB (py i) = true := by
  induction n with
  | zero => simp [allB]
  | succ n ih =>
    simp only [allB, Bool.and_eq_true, ih]
    constructor
    · rintro ⟨h1, h2⟩ i hi
      by_cases e : i = n
      · subst e; exact h2
      · exact h1 i (by omega)
    · intro h
      exact ⟨fun i hi => h i (by omega), h n (by omega)⟩

theorem allB_false (px py : Nat → Int) (n k : Nat) (hk : k < n) (h : (nearB (px k) && nearB (py k)) = false) : allB px py n = false := by
  cases h' : allB px py n with
  | false => rfl
  | true =>
    have := (allB_iff px py n).1 h' k hk
    rw [this.1, this.2] at h
    cases h

set_option maxRecDepth 100000 in
set_option maxHeartbeats 1000000 in
theorem allInBounds_any (px py : Nat → Int) (n qb qo cap : Nat) (w : World) (hp : Pts w qb qo n px py) (hn : n ≤ 40) :
    Calls Tryz.prog 58 #[.slice (some ⟨qb, qo, none⟩) n cap] w fun e w' => e = .returned (.bool (allB px py n)) ∧ Below w.heap.size w w' := by
  have HP := hid hp
  clear hp
  go_enter Tryz.func58, Tryz.ntmps58
  go_wp2
  go_loopw [7] (fun i wr => ∃ k : Nat, k ≤ n ∧ i = .int .i64 k ∧ allB px py k = true ∧ Below w.heap.size w wr) (fun i _ => n - (intOf i).toNat)
  case atStart => exact ⟨0, Nat.zero_le _, rfl, rfl, Below.refl _ _⟩
  case round =>
    obtain ⟨k, hk, rfl, ha, hb⟩ := hrel
    have HB := hid hb
    have HA := hid ha
    clear hb ha
    by_cases hlt : k < n
    · have hpw := HP.out.below HB.out HP.out.lt
      have hx := hpw.x k hlt
      have hy := hpw.y k hlt
      have hblt := hpw.lt
      have hlt' : (k : Int) < n := by omega
      have hc := inBounds_any (px k) (py k)
      cases hr : (nearB (px k) && nearB (py k))
      · rw [hr] at hc
        have HC := hid hc
        have HR := hid hr
        clear hpw hc hr
        go_wp2_with fail
        refine (HC.out _).mono ?_
        rintro e w' ⟨rfl, hb'⟩
        have HB' := hid hb'
        clear hb'
        go_wp2_with fail
        go_ret
        exact ⟨by rw [allB_false _ _ _ k hlt HR.out]; rfl, (HB.out.alloc HB.out.size _).trans (HB'.out.mono (by have := HB.out.size; simp; omega))⟩
      · rw [hr] at hc
        have HC := hid hc
        have HR := hid hr
        clear hpw hc hr
        go_wp2_with fail
        refine (HC.out _).mono ?_
        rintro e w' ⟨rfl, hb'⟩
        have HB' := hid hb'
        clear hb'
        go_wp2_with fail
        go_roundw
        case rel => exact ⟨k + 1, by omega, by go_num, by rw [allB, HA.out, HR.out]; rfl, (HB.out.alloc HB.out.size _).trans (HB'.out.mono (by have := HB.out.size; simp; omega))⟩
        case measure => simp [intOf]; omega
    · have : k = n := by omega
      subst this
      go_wp2
      go_ret
      exact ⟨by rw [HA.out]; rfl, HB.out⟩

theorem owns_below {w w' : World} {base : Nat} {e : TypeId} {size : Nat} {v : Value} {n : Nat} {xs : List Value} (h : w.ownsRow base e size v n xs) (hb : Below w.heap.size w w') : w'.ownsRow base e size v n xs := by
  refine ⟨h.1, ?_⟩
  rcases h.2 with h2 | ⟨g, cap, cur, h1, h2, h3, h4⟩
  · exact .inl h2
  · exact .inr ⟨g, cap, cur, h1, h2, by rw [hb.block g (Array.getElem?_eq_some_iff.1 h3).1]; exact h3, h4⟩

def cx (x y : Int) : Value := .complex .f64 (floatOfInt .f64 x) (floatOfInt .f64 y)

def placed (px py : Nat → Int) (n k : Nat) : List Value := (List.range n).map fun j => if j < k then cx (px j) (py j) else .complex .f64 0 0

theorem placed_set (px py : Nat → Int) (n k : Nat) : (placed px py n k).set k (cx (px k) (py k)) = placed px py n (k + 1) := by
  apply List.ext_getElem?
  intro j
  unfold placed
  rw [List.getElem?_set]
  by_cases h : k = j
  · subst h
    by_cases hk : k < n
    · simp [hk]
    · simp [hk]
  · simp only [h, if_false, List.getElem?_map]
    by_cases hj : j < n
    · simp [hj, show (j < k) = (j < k + 1) from by simp; omega]
    · simp [hj]

theorem placed_zero (px py : Nat → Int) (n : Nat) : (madeCells (Value.complex .f64 0 0).cells (n * 1)).toList = placed px py n 0 := by
  unfold madeCells placed
  simp [Value.cells, Nat.mod_one]

theorem plc_of {w : World} {base g n : Nat} {px py : Nat → Int} (h : w.ownsRow base 94 1 (.slice (some ⟨g, 0, none⟩) n n) n (placed px py n n)) (hg : g < w.heap.size) (hbd : ∀ i, i < n → (-1000 ≤ px i ∧ px i ≤ 1000) ∧ (-1000 ≤ py i ∧ py i ≤ 1000)) : Plc w g 0 n px py := by
  refine ⟨hg, fun i hi => ?_, hbd⟩
  obtain ⟨h1, h2⟩ := hbd i hi
  refine ⟨floatOfInt .f64 (px i), floatOfInt .f64 (py i), ?_, Flt.Is.ofInt (by omega) (by omega), Flt.Is.ofInt (by omega) (by omega)⟩
  rw [Nat.zero_add, h.cellAt i (by omega)]
  simp [placed, hi, cx]

set_option maxRecDepth 100000 in
set_option maxHeartbeats 1000000 in
theorem places_any (px py : Nat → Int) (n qb qo cap : Nat) (w : World) (hp : Pts w qb qo n px py) (hn : n ≤ 40) (hbd : ∀ i, i < n → (-1000 ≤ px i ∧ px i ≤ 1000) ∧ (-1000 ≤ py i ∧ py i ≤ 1000)) :
    Calls Tryz.prog 35 #[.slice (some ⟨qb, qo, none⟩) n cap] w fun e w' => e = .returned (.slice (some ⟨w.heap.size, 0, none⟩) n n) ∧ Below w.heap.size w w' ∧ Plc w' w.heap.size 0 n px py := by
  have HP := hid hp
  obtain ⟨i0, hi, hz0, hz1, hz2⟩ := info_parts Tryz.info94
  clear hp
  have HBD := hid hbd
  clear hbd
  go_enter Tryz.func35, Tryz.ntmps35
  go_wp2_with (at_make; refine wpList_make_full _ rfl (.tmp 7) (.tmp 7) 68 rfl w.heap.size 94 i0 (.complex .f64 0 0) 1 Tryz.underlying68 hi hz0 hz1 .i64 .i64 _ _ n rfl rfl rfl rfl (by rw [hz2]; omega) (by unfold maxLen; omega) (Nat.le_refl _) ?_; intro w2 hown hgrow)
  have hown1 : w2.ownsRow w.heap.size 94 1 (.slice (some ⟨w.heap.size, 0, none⟩) n n) n (placed px py n 0) := by
    rw [← placed_zero]; simpa using hown
  have hb2 : Below w.heap.size w w2 := (Below.refl _ _).grown hgrow (Nat.le_refl _) (fun k hk => by cases hk)
  clear hown hgrow
  have H1 := hid hown1
  have H2 := hid hb2
  clear hown1 hb2
  go_loopw [11] (fun i wr => ∃ k : Nat, k ≤ n ∧ i = .int .i64 k ∧ wr.ownsRow w.heap.size 94 1 (.slice (some ⟨w.heap.size, 0, none⟩) n n) n (placed px py n k) ∧ Below w.heap.size w wr)
    (fun i _ => n - (intOf i).toNat)
  case atStart => exact ⟨0, Nat.zero_le _, rfl, H1.out, H2.out⟩
  case round =>
    obtain ⟨k, hk, rfl, ho, hb⟩ := hrel
    clear H1 H2
    by_cases hlt : k < n
    · have hpw := HP.out.below hb HP.out.lt
      have hx := hpw.x k hlt
      have hy := hpw.y k hlt
      have hblt := hpw.lt
      have hlt' : (k : Int) < n := by omega
      have HC := hid (place_any (px k) (py k))
      have HO := hid ho
      have HB := hid hb
      clear hpw ho hb
      go_wp2_with fail
      refine (HC.out _).mono ?_
      rintro e w3 ⟨rfl, hb'⟩
      have ho3 := owns_below (HO.out.alloc _) hb'
      have hcl := ho3.cellAt k (by omega)
      have hfr := ho3.frozenAt k
      obtain ⟨v0, hv0⟩ : ∃ v0, (placed px py n k)[k]? = some v0 := by simp [placed, hlt]
      rw [hv0] at hcl
      have HS := ho3.stored k (cx (px k) (py k))
      rw [placed_set] at HS
      have HS' := hid HS.1
      have HB3 := hid ((HB.out.alloc HB.out.size _).trans (hb'.mono (by have := HB.out.size; simp; omega)))
      clear HS hb' ho3 hv0 HO HB HC hx hy
      unfold cx at HS'
      generalize floatOfInt .f64 (px k) = fx at *
      generalize floatOfInt .f64 (py k) = fy at *
      have hst : ∀ (a : Addr) (m : Mode) (w : World), (store a (.complex .f64 fx fy) m).run Tryz.prog w = stored Tryz.prog w a (.complex .f64 fx fy) m := fun a m w => run_store Tryz.prog w a _ m rfl
      go_wp2
      go_roundw
      case rel => exact ⟨k + 1, by omega, by go_num, HS'.out, HB3.out.setCell (by simp) _⟩
      case measure => simp [intOf]; omega
    · have hkn : k = n := by omega
      subst hkn
      have hsz : w.heap.size < wr.heap.size := by
        rcases ho.2 with ⟨h', _⟩ | ⟨g', cap', cur, h', _, hg, _⟩
        · cases h'
        · simp only [Value.slice.injEq, Option.some.injEq, Addr.mk.injEq, and_true, true_and] at h'
          obtain ⟨rfl, rfl⟩ := h'
          exact (Array.getElem?_eq_some_iff.1 hg).1
      have HR := hid (And.intro hb (plc_of ho hsz HBD.out))
      clear ho hb
      go_wp2
      go_ret
      exact ⟨rfl, HR.out.1, HR.out.2⟩
end Go.Proofs.YtdbebbbceeopaaaGreat
