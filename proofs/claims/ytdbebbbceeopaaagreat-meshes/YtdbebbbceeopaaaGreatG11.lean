import Derived.Test.YtdbebbbceeopaaaGreatG10
import Derived.Lib.OwnBridge
import Derived.Lib.AppendIntMem
import Derived.WalkSmall
import Derived.Test.YtdbebbbceeopaaaGreatG9
import Derived.Laws.StructEq
import Derived.Deep.RegionWith
import Derived.Test.YtdbebbbceeopaaaGreatG1
namespace Go.Proofs.YtdbebbbceeopaaaGreat
open Go.RowKit
open Go.Sort (grow Holds putRow SWO PermIn SortedIn alloc_eq_grow cell?_grow cell?_putRow_other)
open Flt (Is)

theorem Tryz.info3 : (Tryz.prog.info? 3).map (fun i => (i.zero, i.size, i.bytes)) = some (some (.int .i64 0), 1, 8) := by kernel_rfl
theorem Tryz.info94 : (Tryz.prog.info? 94).map (fun i => (i.zero, i.size, i.bytes)) = some (some (.complex .f64 0 0), 1, 16) := by kernel_rfl
theorem Tryz.info35 : (Tryz.prog.info? 35).map (fun i => (i.zero, i.size, i.bytes)) = some (some (.agg #[.int .i64 0, .int .i64 0]), 2, 16) := by kernel_rfl

def encF {n : Nat} (i : Fin n) : Value := .int .i64 (i.val : Int)

def cfI (px py : Nat → Int) {n : Nat} (i j : Fin n) : Int := orI (cmpI (px i) (px j)) (cmpI (py i) (py j))

theorem cfI_lt (px py : Nat → Int) {n : Nat} (i j : Fin n) : (cfI px py i j < 0) ↔ (px i < px j ∨ (px i = px j ∧ py i < py j)) := by
  unfold cfI orI cmpI
  split <;> split <;> (try split) <;> (try split) <;> omega

theorem cfI_swo (px py : Nat → Int) {n : Nat} : SWO (ltOf (cfI px py (n := n))) := by
  refine ⟨fun x => ?_, fun x y z h1 h2 => ?_, fun x y z h1 h2 => ?_⟩
  · unfold ltOf; rw [decide_eq_false_iff_not, cfI_lt]; omega
  · unfold ltOf at *
    rw [decide_eq_true_iff, cfI_lt] at *
    omega
  · unfold ltOf at *
    rw [decide_eq_false_iff_not, cfI_lt] at *
    omega

theorem cell_sortWorld {α : Type} [Inhabited α] (enc : α → Value) (w : World) (blk off m : Nat) (dk : Array α) (os : Array Obj) (a : Addr) (ha : a.block < w.heap.size) (hne : a.block ≠ blk) :
    (sortWorld enc w blk off m dk os).cell? a = w.cell? a := by
  unfold sortWorld
  rw [cell?_grow _ _ _ (by rw [Sort.size_putRow]; exact ha), cell?_putRow_other _ _ _ _ _ _ (Or.inl hne)]
  rfl

theorem below_sortWorld {α : Type} [Inhabited α] (enc : α → Value) (w0 w : World) (B blk m : Nat) (dk : Array α) (os : Array Obj) (h : Below B w0 w) (hb : B ≤ blk) (hB : B ≤ w.heap.size) :
    Below B w0 (sortWorld enc w blk 0 m dk os) := by
  unfold sortWorld
  have h1 := Lib.below_putRow (enc := enc) (q := m) (d := dk) h hb
  have h2 := Lib.below_grow B (putRow enc (Sort.ahead w m) blk 0 dk) (by rw [Sort.size_putRow]; exact hB) 0 os
  exact h1.trans h2

/-- A row of places: block pb, from po on, n of them, standing for the points (px i, py i). -/
structure Plc (w : World) (pb po n : Nat) (px py : Nat → Int) : Prop where
  lt : pb < w.heap.size
  cell : ∀ i, i < n → ∃ r q, w.cell? ⟨pb, po + i, none⟩ = some (.complex .f64 r q) ∧ Is r (px i) ∧ Is q (py i)
  bd : ∀ i, i < n → (-1000 ≤ px i ∧ px i ≤ 1000) ∧ (-1000 ≤ py i ∧ py i ≤ 1000)

theorem Plc.below {w w' : World} {B pb po n : Nat} {px py : Nat → Int} (h : Plc w pb po n px py) (hb : Below B w w') (hB : pb < B) : Plc w' pb po n px py :=
  ⟨Nat.lt_of_lt_of_le h.lt hb.size, fun i hi => by rw [hb.cell (by exact hB)]; exact h.cell i hi, h.bd⟩

theorem cmpLays (px py : Nat → Int) (n : Nat) [NeZero n] (bx pb po cap g sz : Nat) (w : World) (hp : Plc w pb po n px py) (hbx : bx < w.heap.size) (hbox : w.cell? ⟨bx, 0, none⟩ = some (.slice (some ⟨pb, po, none⟩) n cap))
    (h1 : pb ≠ g) (h2 : bx ≠ g) : CmpLays1 Tryz.prog 93 #[.pointer (some ⟨bx, 0, none⟩)] (encF (n := n)) (cfI px py) g 0 sz w := by
  intro q os dk hs x y
  obtain ⟨rx, ix, cx, ax, bx'⟩ := hp.cell x x.isLt
  obtain ⟨ry, iy, cy, ay, by'⟩ := hp.cell y y.isLt
  exact closure_any bx pb po n cap x y rx ix ry iy (px x) (py x) (px y) (py y) x.isLt y.isLt _
    (by rw [cell_sortWorld _ _ _ _ _ _ _ _ hbx h2]; exact hbox)
    (by rw [cell_sortWorld _ _ _ _ _ _ _ _ hp.lt h1]; exact cx)
    (by rw [cell_sortWorld _ _ _ _ _ _ _ _ hp.lt h1]; exact cy) ax bx' ay by'

/-- What the order's row holds behind k rounds of the loop that numbers it. -/
def numbered (n k : Nat) : List Value := (List.range n).map fun j => if j < k then .int .i64 (j : Int) else .int .i64 0

theorem numbered_set (n k : Nat) : (numbered n k).set k (.int .i64 (k : Int)) = numbered n (k + 1) := by
  apply List.ext_getElem?
  intro j
  unfold numbered
  rw [List.getElem?_set]
  by_cases h : k = j
  · subst h
    by_cases hk : k < n
    · simp [hk]
    · simp [hk]
  · simp only [h, if_false, List.getElem?_map]
    by_cases hj : j < n
    · simp [hj, show (j < k) = (j < k + 1) from by simp; omega]
    · simp [hj]

theorem numbered_zero (n : Nat) : (madeCells (Value.int .i64 0).cells (n * 1)).toList = numbered n 0 := by
  unfold madeCells numbered
  simp [Value.cells, Nat.mod_one]

theorem holds_numbered {w : World} {base g n : Nat} [NeZero n] (h : w.ownsRow base 3 1 (.slice (some ⟨g, 0, none⟩) n n) n (numbered n n)) : Holds (encF (n := n)) w g 0 (List.finRange n).toArray := by
  intro j hj
  have hj' : j < n := by simpa using hj
  refine ⟨?_, h.frozenAt _⟩
  rw [h.cellAt _ (by omega)]
  simp [numbered, hj', encF]

theorem sorted_of {px py : Nat → Int} {n : Nat} [NeZero n] {w w0 wr : World} {d : Array (Fin n)} {arg : Array Value} (hcon : Calls Tryz.prog 92 arg wr fun e w' => e = .returned (.tuple #[]) ∧ ∃ d' k os, PermIn 0 d.size d d' ∧ SortedIn (ltOf (cfI px py)) 0 d.size d' ∧ w' = sortWorld encF wr (w.heap.size + 1) 0 k d' os)
    (hH : Holds encF wr (w.heap.size + 1) 0 d) (hsz : w.heap.size + 1 < wr.heap.size) (hd : d.size = n) (hdd : d = (List.finRange n).toArray) (hw0 : Below w.heap.size w w0) (hb : Below (w.heap.size + 1) w0 wr) :
    Calls Tryz.prog 92 arg wr fun e w' => e = .returned (.tuple #[]) ∧ Below w.heap.size w w' ∧ w.heap.size + 1 < w'.heap.size ∧
      ∃ d : Array (Fin n), d.size = n ∧ d.toList.Perm (List.finRange n) ∧ SortedIn (ltOf (cfI px py)) 0 n d ∧ Holds encF w' (w.heap.size + 1) 0 d := by
  refine hcon.mono ?_
  rintro e w' ⟨rfl, d', k, os, hp, hs, rfl⟩
  have hsize : d'.size = d.size := hp.1
  refine ⟨rfl, ?_, ?_, d', by omega, ?_, by rw [hd] at hs; exact hs, holds_sortWorld encF wr _ 0 k d d' os hsz hH hsize⟩
  · exact below_sortWorld _ _ _ _ _ _ _ _ (hw0.trans (hb.mono (by omega))) (by omega) (by omega)
  · exact SW.lt ⟨k, os, rfl⟩ hsz
  · have := hp.2.2
    rw [show d'.extract 0 d.size = d' from by rw [← hsize]; simp, show d.extract 0 d.size = d from by simp, hdd] at this
    simpa using this

set_option maxHeartbeats 1000000 in
theorem rightward_any (px py : Nat → Int) (n : Nat) [NeZero n] (pb po cap : Nat) (w : World) (hp : Plc w pb po n px py) (hm : n ≤ 40) :
    Calls Tryz.prog 61 #[.slice (some ⟨pb, po, none⟩) n cap] w fun e w' =>
      e = .returned (.slice (some ⟨w.heap.size + 1, 0, none⟩) n n) ∧ Below w.heap.size w w' ∧ w.heap.size + 1 < w'.heap.size ∧
      ∃ d : Array (Fin n), d.size = n ∧ d.toList.Perm (List.finRange n) ∧ SortedIn (ltOf (cfI px py)) 0 n d ∧ Holds encF w' (w.heap.size + 1) 0 d := by
  obtain ⟨i0, hi, hz0, hz1, hz2⟩ := info_parts Tryz.info3
  go_enter Tryz.func61, Tryz.ntmps61
  go_wp2_with (at_make; refine wpList_make_full _ rfl (.tmp 6) (.tmp 6) 25 rfl (w.heap.size + 1) 3 i0 (.int .i64 0) 1 Tryz.underlying25 hi hz0 hz1 .i64 .i64 _ _ n rfl rfl rfl rfl (by rw [hz2]; omega) (by unfold maxLen; omega) (by simp) ?_; intro w2 hown hgrow)
  have hown1 : w2.ownsRow (w.heap.size + 1) 3 1 (.slice (some ⟨w.heap.size + 1, 0, none⟩) n n) n (numbered n 0) := by
    rw [← numbered_zero]; simpa using hown
  have hb2 : Below (w.heap.size + 1) (w.alloc (.cells #[.slice (some ⟨pb, po, none⟩) n cap] 68)) w2 := (Below.refl _ _).grown hgrow (by simp) (fun k hk => by cases hk)
  clear hown hgrow
  have H1 : Hid (w2.ownsRow (w.heap.size + 1) 3 1 (.slice (some ⟨w.heap.size + 1, 0, none⟩) n n) n (numbered n 0)) := hown1
  have H2 : Hid (Below (w.heap.size + 1) (w.alloc (.cells #[.slice (some ⟨pb, po, none⟩) n cap] 68)) w2) := hb2
  clear hown1 hb2
  go_loopw [10] (fun i wr => ∃ k : Nat, k ≤ n ∧ i = .int .i64 k ∧ wr.ownsRow (w.heap.size + 1) 3 1 (.slice (some ⟨w.heap.size + 1, 0, none⟩) n n) n (numbered n k) ∧ Below (w.heap.size + 1) (w.alloc (.cells #[.slice (some ⟨pb, po, none⟩) n cap] 68)) wr)
    (fun i _ => n - (intOf i).toNat)
  case atStart => exact ⟨0, Nat.zero_le _, rfl, H1.out, H2.out⟩
  case round =>
    obtain ⟨k, hk, rfl, ho, hb⟩ := hrel
    clear H1 H2
    by_cases hlt : k < n
    · have hcl := ho.cellAt k (by omega)
      have hfr := ho.frozenAt k
      obtain ⟨v0, hv0⟩ : ∃ v0, (numbered n k)[k]? = some v0 := by simp [numbered, hlt]
      rw [hv0] at hcl
      have HS := ho.stored k (.int .i64 k)
      rw [numbered_set] at HS
      have HS' : Hid _ := HS
      have HB : Hid _ := hb
      clear HS hb ho hv0
      have hlt' : (k : Int) < n := by omega
      go_wp2
      go_roundw
      case rel => exact ⟨k + 1, by omega, by go_num, HS'.out.1, HB.out.setCell (by simp) _⟩
      case measure => simp [intOf]; omega
    · have hkn : k = n := by omega
      subst hkn
      have hsz : w.heap.size + 1 < wr.heap.size := by
        rcases ho.2 with ⟨h', _⟩ | ⟨g', cap', cur, h', _, hg, _⟩
        · cases h'
        · simp only [Value.slice.injEq, Option.some.injEq, Addr.mk.injEq, and_true, true_and] at h'
          obtain ⟨rfl, rfl⟩ := h'
          have := Array.getElem?_eq_some_iff.1 hg
          exact this.1
      have hH := holds_numbered ho
      have hpw : Plc wr pb po k px py := by
        have h1 := hp.below ((Below.refl w.heap.size w).alloc (Nat.le_refl _) (.cells #[.slice (some ⟨pb, po, none⟩) k cap] 68)) hp.lt
        exact h1.below hb (by have := hp.lt; omega)
      have hbox : wr.cell? ⟨w.heap.size, 0, none⟩ = some (.slice (some ⟨pb, po, none⟩) k cap) := by
        rw [hb.cell (by simp)]; exact World.cell?_alloc_at _ _ _ _ rfl
      have eg : ∀ args w, (callFunc 93 args).run Tryz.prog w = .ok (.enter 93 args) w := enters_of Tryz.func93 (by kernel_rfl) rfl
      have hcmp := cmpLays px py k w.heap.size pb po cap (w.heap.size + 1) (List.finRange k).toArray.size wr hpw (by omega) hbox (by have := hp.lt; omega) (by omega)
      have hds : (List.finRange k).toArray.size = k := by simp
      have hcon := Any.slices_SortFunc Tryz.sortL (encF (n := k)) (fun _ => rfl) (cfI px py) (cfI_swo px py) 93 #[.pointer (some ⟨w.heap.size, 0, none⟩)] (w.heap.size + 1) 0 k (List.finRange k).toArray wr eg hcmp hH hsz (by rw [hds]; omega)
      change Calls Tryz.prog 92 _ _ _ at hcon
      have HC := sorted_of hcon hH hsz hds rfl ((Below.refl _ _).alloc (Nat.le_refl _) _) hb
      rw [hds] at HC
      clear hcon hcmp hbox hpw hH hb ho hds hp
      go_wp2_with fail
      refine HC.mono ?_
      rintro e w' ⟨rfl, hr⟩
      have HR : Hid _ := hr
      clear hr
      go_wp2_with fail
      go_ret
      exact ⟨rfl, HR.out⟩

end Go.Proofs.YtdbebbbceeopaaaGreat

namespace Go.Proofs.YtdbebbbceeopaaaGreat
open Go.RowKit
open Go.Sort (grow Holds putRow SWO PermIn SortedIn alloc_eq_grow cell?_grow cell?_putRow_other)
open Flt (Is)

def encN (i : Nat) : Value := .int .i64 (i : Int)

theorem is_zero : Is 0 0 := Flt.Is.ofInt (n := 0) (by decide) (by decide)

theorem gtr_zero {r : Nat} {v : Int} (h : Is r v) : (FloatKind.f64.format.order r 0 == some Ordering.gt) = decide (0 < v) := by
  rw [h.order is_zero]
  by_cases h1 : 0 < v
  · simp [Int.compare_eq_gt.2 h1, h1]
  · by_cases h2 : v < 0
    · simp [Int.compare_eq_lt.2 h2, h1]
    · have : v = 0 := by omega
      subst this; simp

theorem neq_zero {r : Nat} {v : Int} (h : Is r v) : (FloatKind.f64.format.order r 0 != some Ordering.eq) = decide (v ≠ 0) := by
  rw [h.order is_zero]
  by_cases h1 : 0 < v
  · have h3 : v ≠ 0 := by omega
    simp [Int.compare_eq_gt.2 h1, h3]
  · by_cases h2 : v < 0
    · have h3 : v ≠ 0 := by omega
      simp [Int.compare_eq_lt.2 h2, h3]
    · have : v = 0 := by omega
      subst this; simp

theorem drewN_drewN (w : World) (a b : Nat) : (w.drewN a).drewN b = w.drewN (a + b) := by
  unfold World.drewN; simp [Nat.add_assoc]

def lenOf : Value → Nat
  | .slice _ n _ => n
  | _ => 0

theorem ownsRow_shape {w : World} {base : Nat} {v : Value} {n : Nat} {xs : List Value} (h : w.ownsRow base 3 1 v n xs) (hn : 0 < n) :
    ∃ g cap, v = .slice (some ⟨g, 0, none⟩) n cap ∧ base ≤ g ∧ g < w.heap.size ∧ n ≤ cap := by
  rcases h.2 with ⟨_, h'⟩ | ⟨g', cap', cur, h', hb, hg, hc, _⟩
  · omega
  · exact ⟨g', cap', h', hb, (Array.getElem?_eq_some_iff.1 hg).1, hc⟩

theorem owns_len {w : World} {base : Nat} {v : Value} {n : Nat} {xs : List Value} (h : w.ownsRow base 3 1 v n xs) : ∃ a c, v = .slice a n c := by
  rcases h.2 with ⟨rfl, rfl⟩ | ⟨g', cap', cur, h', _⟩
  · exact ⟨_, _, rfl⟩
  · exact ⟨_, _, h'⟩

end Go.Proofs.YtdbebbbceeopaaaGreat

namespace Go.Proofs.YtdbebbbceeopaaaGreat
open Go.RowKit
open Flt (Is)

/-- A row of points: block qb, from qo on, n of them, two cells each. -/
structure Pts (w : World) (qb qo n : Nat) (px py : Nat → Int) : Prop where
  lt : qb < w.heap.size
  x : ∀ i, i < n → w.cell? ⟨qb, qo + i * 2, none⟩ = some (.int .i64 (px i))
  y : ∀ i, i < n → w.cell? ⟨qb, qo + i * 2 + 1, none⟩ = some (.int .i64 (py i))

theorem Pts.below {w w' : World} {B qb qo n : Nat} {px py : Nat → Int} (h : Pts w qb qo n px py) (hb : Below B w w') (hB : qb < B) : Pts w' qb qo n px py :=
  ⟨Nat.lt_of_lt_of_le h.lt hb.size, fun i hi => by rw [hb.cell (by exact hB)]; exact h.x i hi, fun i hi => by rw [hb.cell (by exact hB)]; exact h.y i hi⟩

/-- All of the first n points in bounds. -/
def allB (px py : Nat → Int) : Nat → Bool
  | 0 => true
  | n + 1 => allB px py n && (nearB (px n) && nearB (py n))

theorem allB_iff (px py : Nat → Int) (n : Nat) : allB px py n = true ↔ ∀ i, i < n → nearB (px i) = true ∧ nearB (py i) = true := by
  induction n with
  | zero => simp [allB]
  | succ n ih =>
    simp only [allB, Bool.and_eq_true, ih]
    constructor
    · rintro ⟨h1, h2⟩ i hi
      by_cases e : i = n
      · subst e; exact h2
      · exact h1 i (by omega)
    · intro h
      exact ⟨fun i hi => h i (by omega), h n (by omega)⟩

theorem allB_false (px py : Nat → Int) (n k : Nat) (hk : k < n) (h : (nearB (px k) && nearB (py k)) = false) : allB px py n = false := by
  cases h' : allB px py n with
  | false => rfl
  | true =>
    have := (allB_iff px py n).1 h' k hk
    rw [this.1, this.2] at h
    cases h

set_option maxRecDepth 100000 in
set_option maxHeartbeats 1000000 in
theorem allInBounds_any (px py : Nat → Int) (n qb qo cap : Nat) (w : World) (hp : Pts w qb qo n px py) (hn : n ≤ 40) :
    Calls Tryz.prog 58 #[.slice (some ⟨qb, qo, none⟩) n cap] w fun e w' => e = .returned (.bool (allB px py n)) ∧ Below w.heap.size w w' := by
  have HP := hid hp
  clear hp
  go_enter Tryz.func58, Tryz.ntmps58
  go_wp2
  go_loopw [7] (fun i wr => ∃ k : Nat, k ≤ n ∧ i = .int .i64 k ∧ allB px py k = true ∧ Below w.heap.size w wr) (fun i _ => n - (intOf i).toNat)
  case atStart => exact ⟨0, Nat.zero_le _, rfl, rfl, Below.refl _ _⟩
  case round =>
    obtain ⟨k, hk, rfl, ha, hb⟩ := hrel
    have HB := hid hb
    have HA := hid ha
    clear hb ha
    by_cases hlt : k < n
    · have hpw := HP.out.below HB.out HP.out.lt
      have hx := hpw.x k hlt
      have hy := hpw.y k hlt
      have hblt := hpw.lt
      have hlt' : (k : Int) < n := by omega
      have hc := inBounds_any (px k) (py k)
      cases hr : (nearB (px k) && nearB (py k))
      · rw [hr] at hc
        have HC := hid hc
        have HR := hid hr
        clear hpw hc hr
        go_wp2_with fail
        refine (HC.out _).mono ?_
        rintro e w' ⟨rfl, hb'⟩
        have HB' := hid hb'
        clear hb'
        go_wp2_with fail
        go_ret
        exact ⟨by rw [allB_false _ _ _ k hlt HR.out]; rfl, (HB.out.alloc HB.out.size _).trans (HB'.out.mono (by have := HB.out.size; simp; omega))⟩
      · rw [hr] at hc
        have HC := hid hc
        have HR := hid hr
        clear hpw hc hr
        go_wp2_with fail
        refine (HC.out _).mono ?_
        rintro e w' ⟨rfl, hb'⟩
        have HB' := hid hb'
        clear hb'
        go_wp2_with fail
        go_roundw
        case rel => exact ⟨k + 1, by omega, by go_num, by rw [allB, HA.out, HR.out]; rfl, (HB.out.alloc HB.out.size _).trans (HB'.out.mono (by have := HB.out.size; simp; omega))⟩
        case measure => simp [intOf]; omega
    · have : k = n := by omega
      subst this
      go_wp2
      go_ret
      exact ⟨by rw [HA.out]; rfl, HB.out⟩

theorem owns_below {w w' : World} {base : Nat} {e : TypeId} {size : Nat} {v : Value} {n : Nat} {xs : List Value} (h : w.ownsRow base e size v n xs) (hb : Below w.heap.size w w') : w'.ownsRow base e size v n xs := by
  refine ⟨h.1, ?_⟩
  rcases h.2 with h2 | ⟨g, cap, cur, h1, h2, h3, h4⟩
  · exact .inl h2
  · exact .inr ⟨g, cap, cur, h1, h2, by rw [hb.block g (Array.getElem?_eq_some_iff.1 h3).1]; exact h3, h4⟩

def cx (x y : Int) : Value := .complex .f64 (floatOfInt .f64 x) (floatOfInt .f64 y)

def placed (px py : Nat → Int) (n k : Nat) : List Value := (List.range n).map fun j => if j < k then cx (px j) (py j) else .complex .f64 0 0

theorem placed_set (px py : Nat → Int) (n k : Nat) : (placed px py n k).set k (cx (px k) (py k)) = placed px py n (k + 1) := by
  apply List.ext_getElem?
  intro j
  unfold placed
  rw [List.getElem?_set]
  by_cases h : k = j
  · subst h
    by_cases hk : k < n
    · simp [hk]
    · simp [hk]
  · simp only [h, if_false, List.getElem?_map]
    by_cases hj : j < n
    · simp [hj, show (j < k) = (j < k + 1) from by simp; omega]
    · simp [hj]

theorem placed_zero (px py : Nat → Int) (n : Nat) : (madeCells (Value.complex .f64 0 0).cells (n * 1)).toList = placed px py n 0 := by
  unfold madeCells placed
  simp [Value.cells, Nat.mod_one]

theorem plc_of {w : World} {base g n : Nat} {px py : Nat → Int} (h : w.ownsRow base 94 1 (.slice (some ⟨g, 0, none⟩) n n) n (placed px py n n)) (hg : g < w.heap.size) (hbd : ∀ i, i < n → (-1000 ≤ px i ∧ px i ≤ 1000) ∧ (-1000 ≤ py i ∧ py i ≤ 1000)) : Plc w g 0 n px py := by
  refine ⟨hg, fun i hi => ?_, hbd⟩
  obtain ⟨h1, h2⟩ := hbd i hi
  refine ⟨floatOfInt .f64 (px i), floatOfInt .f64 (py i), ?_, Flt.Is.ofInt (by omega) (by omega), Flt.Is.ofInt (by omega) (by omega)⟩
  rw [Nat.zero_add, h.cellAt i (by omega)]
  simp [placed, hi, cx]

set_option maxRecDepth 100000 in
set_option maxHeartbeats 1000000 in
theorem places_any (px py : Nat → Int) (n qb qo cap : Nat) (w : World) (hp : Pts w qb qo n px py) (hn : n ≤ 40) (hbd : ∀ i, i < n → (-1000 ≤ px i ∧ px i ≤ 1000) ∧ (-1000 ≤ py i ∧ py i ≤ 1000)) :
    Calls Tryz.prog 35 #[.slice (some ⟨qb, qo, none⟩) n cap] w fun e w' => e = .returned (.slice (some ⟨w.heap.size, 0, none⟩) n n) ∧ Below w.heap.size w w' ∧ Plc w' w.heap.size 0 n px py := by
  have HP := hid hp
  obtain ⟨i0, hi, hz0, hz1, hz2⟩ := info_parts Tryz.info94
  clear hp
  have HBD := hid hbd
  clear hbd
  go_enter Tryz.func35, Tryz.ntmps35
  go_wp2_with (at_make; refine wpList_make_full _ rfl (.tmp 7) (.tmp 7) 68 rfl w.heap.size 94 i0 (.complex .f64 0 0) 1 Tryz.underlying68 hi hz0 hz1 .i64 .i64 _ _ n rfl rfl rfl rfl (by rw [hz2]; omega) (by unfold maxLen; omega) (Nat.le_refl _) ?_; intro w2 hown hgrow)
  have hown1 : w2.ownsRow w.heap.size 94 1 (.slice (some ⟨w.heap.size, 0, none⟩) n n) n (placed px py n 0) := by
    rw [← placed_zero]; simpa using hown
  have hb2 : Below w.heap.size w w2 := (Below.refl _ _).grown hgrow (Nat.le_refl _) (fun k hk => by cases hk)
  clear hown hgrow
  have H1 := hid hown1
  have H2 := hid hb2
  clear hown1 hb2
  go_loopw [11] (fun i wr => ∃ k : Nat, k ≤ n ∧ i = .int .i64 k ∧ wr.ownsRow w.heap.size 94 1 (.slice (some ⟨w.heap.size, 0, none⟩) n n) n (placed px py n k) ∧ Below w.heap.size w wr)
    (fun i _ => n - (intOf i).toNat)
  case atStart => exact ⟨0, Nat.zero_le _, rfl, H1.out, H2.out⟩
  case round =>
    obtain ⟨k, hk, rfl, ho, hb⟩ := hrel
    clear H1 H2
    by_cases hlt : k < n
    · have hpw := HP.out.below hb HP.out.lt
      have hx := hpw.x k hlt
      have hy := hpw.y k hlt
      have hblt := hpw.lt
      have hlt' : (k : Int) < n := by omega
      have HC := hid (place_any (px k) (py k))
      have HO := hid ho
      have HB := hid hb
      clear hpw ho hb
      go_wp2_with fail
      refine (HC.out _).mono ?_
      rintro e w3 ⟨rfl, hb'⟩
      have ho3 := owns_below (HO.out.alloc _) hb'
      have hcl := ho3.cellAt k (by omega)
      have hfr := ho3.frozenAt k
      obtain ⟨v0, hv0⟩ : ∃ v0, (placed px py n k)[k]? = some v0 := by simp [placed, hlt]
      rw [hv0] at hcl
      have HS := ho3.stored k (cx (px k) (py k))
      rw [placed_set] at HS
      have HS' := hid HS.1
      have HB3 := hid ((HB.out.alloc HB.out.size _).trans (hb'.mono (by have := HB.out.size; simp; omega)))
      clear HS hb' ho3 hv0 HO HB HC hx hy
      unfold cx at HS'
      generalize floatOfInt .f64 (px k) = fx at *
      generalize floatOfInt .f64 (py k) = fy at *
      have hst : ∀ (a : Addr) (m : Mode) (w : World), (store a (.complex .f64 fx fy) m).run Tryz.prog w = stored Tryz.prog w a (.complex .f64 fx fy) m := fun a m w => run_store Tryz.prog w a _ m rfl
      go_wp2
      go_roundw
      case rel => exact ⟨k + 1, by omega, by go_num, HS'.out, HB3.out.setCell (by simp) _⟩
      case measure => simp [intOf]; omega
    · have hkn : k = n := by omega
      subst hkn
      have hsz : w.heap.size < wr.heap.size := by
        rcases ho.2 with ⟨h', _⟩ | ⟨g', cap', cur, h', _, hg, _⟩
        · cases h'
        · simp only [Value.slice.injEq, Option.some.injEq, Addr.mk.injEq, and_true, true_and] at h'
          obtain ⟨rfl, rfl⟩ := h'
          exact (Array.getElem?_eq_some_iff.1 hg).1
      have HR := hid (And.intro hb (plc_of ho hsz HBD.out))
      clear ho hb
      go_wp2
      go_ret
      exact ⟨rfl, HR.out.1, HR.out.2⟩
end Go.Proofs.YtdbebbbceeopaaaGreat

namespace Go.Proofs.YtdbebbbceeopaaaGreat
open Go.RowKit Go.Shelf Go.Lib
open Flt (Is)

def encPt (x : Int × Int) : List Value := [.int .i64 x.1, .int .i64 x.2]

theorem eqPt : EqlAt Tryz.prog 35 (fun x => .agg (encPt x).toArray) (fun x y => x.1 == y.1 && x.2 == y.2) := by
  refine ⟨fun x y w => ?_, GuardAt.agg _ (by kernel_rfl)⟩
  have u3 := Tryz.underlying3
  have a3 := Tryz.isAgg3
  have z3 := Tryz.sizeOf3
  have hS : Tryz.prog.underlying 35 = some (.struct (Tryz.prog.fieldsOf 35)) := by kernel_rfl
  have hp : Tryz.prog.stoodInHeld 35 = false := by kernel_rfl
  simp only [encPt]
  rw [run_eql_struct, show (10000 : Nat) = 9999 + 1 from rfl, run_equalIn_agg w 9999 35 _ _ hS hp]
  simp only [Program.fieldsOf, Tryz.underlying35]
  go_simp
  by_cases h1 : x.fst = y.fst <;> by_cases h2 : x.snd = y.snd <;> simp [h1, h2]

/-- Is the point numbered i one of those ahead of it? -/
def twiceAt (px py : Nat → Int) (i : Nat) : Bool := (List.range i).any fun j => px i == px j && py i == py j

/-- Is one of the first n points one of those ahead of it? -/
def twB (px py : Nat → Int) : Nat → Bool
  | 0 => false
  | k + 1 => twB px py k || twiceAt px py k

theorem twiceAt_iff (px py : Nat → Int) (i : Nat) : twiceAt px py i = true ↔ ∃ j, j < i ∧ px i = px j ∧ py i = py j := by
  simp [twiceAt]

theorem twB_iff (px py : Nat → Int) (n : Nat) : twB px py n = true ↔ ∃ i, i < n ∧ twiceAt px py i = true := by
  induction n with
  | zero => simp [twB]
  | succ n ih =>
    simp only [twB, Bool.or_eq_true, ih]
    constructor
    · rintro (⟨i, h1, h2⟩ | h)
      · exact ⟨i, by omega, h2⟩
      · exact ⟨n, by omega, h⟩
    · rintro ⟨i, h1, h2⟩
      by_cases e : i = n
      · subst e; exact Or.inr h2
      · exact Or.inl ⟨i, by omega, h2⟩

theorem contains_any (px py : Nat → Int) (n qb qo cap i : Nat) (hi : i < n) (w : World) (hp : Pts w qb qo n px py) (hn : n ≤ 40) :
    Calls Tryz.prog 91 #[.slice (some ⟨qb, qo, none⟩) i cap, .agg #[.int .i64 (px i), .int .i64 (py i)]] w fun e w' => e = .returned (.bool (twiceAt px py i)) ∧ Below w.heap.size w w' := by
  have h := AnyQ.slices_Contains Tryz.containsL 2 Tryz.isAgg35 Tryz.sizeOf35 encPt (fun _ => rfl) _ eqPt qb qo i cap ((List.range n).map fun j => (px j, py j)) (px i, py i) w (by simp; omega) (by omega) (by
    intro j hj c v hc
    have hj' : j < n := by simpa using hj
    have e : ((List.range n).map fun j => (px j, py j))[j]! = (px j, py j) := by simp [hj']
    rw [e] at hc
    match c, hc with
    | 0, hc => simp [encPt] at hc; subst hc; exact hp.x j hj'
    | 1, hc => simp [encPt] at hc; subst hc; exact hp.y j hj'
    | c + 2, hc => simp [encPt] at hc)
  change Calls Tryz.prog 91 _ _ _ at h
  refine h.mono ?_
  rintro e w' ⟨rfl, hb⟩
  refine ⟨?_, hb⟩
  congr 2
  unfold twiceAt
  rw [← List.map_take, List.take_range, List.any_map, Nat.min_eq_left (by omega)]
  rfl

set_option maxRecDepth 100000 in
set_option maxHeartbeats 1000000 in
theorem hasTwice_any (px py : Nat → Int) (n qb qo cap : Nat) (w : World) (hp : Pts w qb qo n px py) (hn : n ≤ 40) (hcap : n ≤ cap) :
    Calls Tryz.prog 59 #[.slice (some ⟨qb, qo, none⟩) n cap] w fun e w' => e = .returned (.bool (twB px py n)) ∧ Below w.heap.size w w' := by
  have HP := hid hp
  clear hp
  go_enter Tryz.func59, Tryz.ntmps59
  go_wp2
  go_loopw [7] (fun i wr => ∃ k : Nat, k ≤ n ∧ i = .int .i64 k ∧ twB px py k = false ∧ Below w.heap.size w wr) (fun i _ => n - (intOf i).toNat)
  case atStart => exact ⟨0, Nat.zero_le _, rfl, rfl, Below.refl _ _⟩
  case round =>
    obtain ⟨k, hk, rfl, ha, hb⟩ := hrel
    have HB := hid hb
    have HA := hid ha
    clear hb ha
    by_cases hlt : k < n
    · have hpw := HP.out.below HB.out HP.out.lt
      have hx := hpw.x k hlt
      have hy := hpw.y k hlt
      have hblt := hpw.lt
      have hlt' : (k : Int) < n := by omega
      have hkc : (k : Int) ≤ cap := by omega
      have hkc' : k ≤ cap := by omega
      have hc0 : ¬ cap = 0 := by omega
      have y1 : IntKind.i64.wrap (k : Int) = k := by rw [IntKind.wrap_i64]; omega
      have HC := hid (fun wq (hb : Below wr.heap.size wr wq) => contains_any px py n qb qo cap k hlt wq (hpw.below hb hpw.lt) hn)
      clear hpw
      cases hr : twiceAt px py k
      · rw [hr] at HC
        have HR := hid hr
        clear hr
        go_wp2
        go_region_with (go_at_call 91; go_must (refine (HC.out _ ?_).mono ?_; exact ((Below.refl _ _).alloc (Nat.le_refl _) _).drew; rintro e w' ⟨rfl, hb'⟩; have HB' := hid hb'; clear hb'))
        go_wp2
        go_roundw
        case rel => exact ⟨k + 1, by omega, by go_num, by rw [twB, HA.out, HR.out]; rfl, (HB.out.alloc HB.out.size _).drew.trans (HB'.out.mono (by have := HB.out.size; show _ ≤ (wr.alloc _).heap.size; simp; omega))⟩
        case measure => simp [intOf]; omega
      · rw [hr] at HC
        have HR := hid hr
        clear hr
        go_wp2
        go_region_with (go_at_call 91; go_must (refine (HC.out _ ?_).mono ?_; exact ((Below.refl _ _).alloc (Nat.le_refl _) _).drew; rintro e w' ⟨rfl, hb'⟩; have HB' := hid hb'; clear hb'))
        go_wp2
        go_ret
        exact ⟨by rw [(twB_iff px py n).2 ⟨k, hlt, HR.out⟩]; rfl, (HB.out.alloc HB.out.size _).drew.trans (HB'.out.mono (by have := HB.out.size; show _ ≤ (wr.alloc _).heap.size; simp; omega))⟩
    · have : k = n := by omega
      subst this
      go_wp2
      go_ret
      exact ⟨by rw [HA.out]; rfl, HB.out⟩
end Go.Proofs.YtdbebbbceeopaaaGreat

set_option linter.unusedSimpArgs false
namespace Go.Proofs.YtdbebbbceeopaaaGreat
open Go.RowKit

/-- A script's step, as a value. -/
def opV (kd : Int) (l ls t : Value) (x y : Int) : Value := .agg #[.int .i64 kd, l, ls, t, .int .i64 x, .int .i64 y]

end Go.Proofs.YtdbebbbceeopaaaGreat

namespace Go.Proofs.YtdbebbbceeopaaaGreat
open Go.RowKit Go.Shelf
open Go.Sort (grow Holds putRow SWO PermIn SortedIn alloc_eq_grow cell?_grow cell?_putRow_other)
open Flt (Is)

theorem addr_add0 (g j : Nat) : (⟨g, 0, none⟩ : Addr).add j = ⟨g, j, none⟩ := by
  unfold Addr.add
  split
  · rename_i h; subst h; rfl
  · simp

/-- The numbers that a row holds. -/
def nums {n : Nat} (d : Array (Fin n)) : List Nat := d.toList.map Fin.val

theorem nums_cell {n : Nat} [NeZero n] {w : World} {g : Nat} {d : Array (Fin n)} (h : Holds encF w g 0 d) : ∀ j, (hj : j < (nums d).length) → w.cell? ⟨g, j, none⟩ = some (.int .i64 ((nums d)[j] : Nat)) := by
  intro j hj
  have hj' : j < d.size := by simpa [nums] using hj
  have := (h j hj').1
  rw [Nat.zero_add] at this
  rw [this]
  simp [encF, nums, hj']

theorem nums_lt {n : Nat} (d : Array (Fin n)) : ∀ y ∈ nums d, y < n := by
  intro y hy
  simp only [nums, List.mem_map] at hy
  obtain ⟨i, _, rfl⟩ := hy
  exact i.isLt

theorem nums_len {n : Nat} (d : Array (Fin n)) : (nums d).length = d.size := by simp [nums]

theorem nums_rev {n : Nat} (d : Array (Fin n)) : nums d.reverse = (nums d).reverse := by simp [nums]

theorem stk_two (t : Nat → Nat → Nat → Int) (os : List Nat) (h : 2 ≤ os.length) : 2 ≤ (stk t os).length := by
  rcases List.eq_nil_or_concat os with rfl | ⟨r, x, rfl⟩
  · simp at h
  · rw [List.concat_eq_append] at *
    rcases List.eq_nil_or_concat r with rfl | ⟨r', y, rfl⟩
    · simp at h
    · rw [List.concat_eq_append, stk_snoc, stk_snoc]
      have : ∀ s, 0 < (popS t x (y :: s)).length := by
        intro s
        induction s generalizing y with
        | nil => simp [popS]
        | cons b r ih =>
          unfold popS
          split
          · simp
          · exact ih b (by simp)
      have := this (popS t y (stk t r'))
      simp only [List.length_cons]
      omega

theorem row_of_owns {w : World} {base : Nat} {v : Value} {n : Nat} {xs : List Nat} (h : w.ownsRow base 3 1 v n (xs.map encN)) (hn : 0 < n) :
    ∃ g cap, v = .slice (some ⟨g, 0, none⟩) n cap ∧ base ≤ g ∧ g < w.heap.size ∧ n ≤ cap ∧ xs.length = n ∧ ∀ j, (hj : j < xs.length) → w.cell? ⟨g, j, none⟩ = some (encN xs[j]) := by
  obtain ⟨g, cap, rfl, hb, hg, hc⟩ := ownsRow_shape h hn
  have hl : xs.length = n := by simpa using h.1
  refine ⟨g, cap, rfl, hb, hg, hc, hl, fun j hj => ?_⟩
  rw [h.cellAt j (by omega)]
  simp [hj]

/-- The hull's corners, as the program gathers them out of the order. -/
def hullOf (t : Nat → Nat → Nat → Int) (os : List Nat) : List Nat := (stk t os).reverse.dropLast ++ (stk t os.reverse).reverse.dropLast

end Go.Proofs.YtdbebbbceeopaaaGreat

namespace Go.Proofs.YtdbebbbceeopaaaGreat
open Go.RowKit
open Flt (Is)

/-- Do the points 2 .. k + 1 lie on the line through the first two? -/
def flatB (px py : Nat → Int) : Nat → Bool
  | 0 => true
  | k + 1 => flatB px py k && decide (T px py 0 1 (k + 2) = 0)

theorem flatB_iff (px py : Nat → Int) (n : Nat) : flatB px py n = true ↔ ∀ i, i < n → T px py 0 1 (i + 2) = 0 := by
  induction n with
  | zero => simp [flatB]
  | succ n ih =>
    simp only [flatB, Bool.and_eq_true, ih, decide_eq_true_eq]
    constructor
    · rintro ⟨h1, h2⟩ i hi
      by_cases e : i = n
      · subst e; exact h2
      · exact h1 i (by omega)
    · intro h
      exact ⟨fun i hi => h i (by omega), h n (by omega)⟩

theorem flatB_false (px py : Nat → Int) (n k : Nat) (hk : k < n) (h : ¬ T px py 0 1 (k + 2) = 0) : flatB px py n = false := by
  cases h' : flatB px py n with
  | false => rfl
  | true => exact absurd ((flatB_iff px py n).1 h' k hk) h

set_option maxRecDepth 100000 in
set_option maxHeartbeats 1000000 in
theorem isFlat_any (px py : Nat → Int) (m pb po cap : Nat) (w : World) (hp : Plc w pb po (m + 2) px py) (hn : m + 2 ≤ 40) (hm : 0 < m) (hcap : m + 2 ≤ cap) :
    Calls Tryz.prog 60 #[.slice (some ⟨pb, po, none⟩) (m + 2 : Nat) cap] w fun e w' => e = .returned (.bool (flatB px py m)) ∧ Below w.heap.size w w' := by
  have HP := hid hp
  have h2 : (2 : Int) ≤ (m : Int) + 2 := by omega
  have h3 : ¬ cap = 2 := by omega
  clear hp
  go_enter Tryz.func60, Tryz.ntmps60
  go_wp2
  go_loopw [8] (fun i wr => ∃ k : Nat, k ≤ m ∧ i = .int .i64 k ∧ flatB px py k = true ∧ Below w.heap.size w wr) (fun i _ => m - (intOf i).toNat)
  case atStart => exact ⟨0, Nat.zero_le _, rfl, rfl, Below.refl _ _⟩
  case round =>
    obtain ⟨k, hk, rfl, ha, hb⟩ := hrel
    have HB := hid hb
    have HA := hid ha
    clear hb ha
    by_cases hlt : k < m
    · have hpw := HP.out.below HB.out HP.out.lt
      obtain ⟨r0, i0, c0, a0, a0'⟩ := hpw.cell 0 (by omega)
      obtain ⟨r1, i1, c1, a1, a1'⟩ := hpw.cell 1 (by omega)
      obtain ⟨rk, ik, ck, ak, ak'⟩ := hpw.cell (k + 2) (by omega)
      obtain ⟨b0, b0'⟩ := hpw.bd 0 (by omega)
      obtain ⟨b1, b1'⟩ := hpw.bd 1 (by omega)
      obtain ⟨bk, bk'⟩ := hpw.bd (k + 2) (by omega)
      obtain ⟨r, hr, hc⟩ := turn_any r0 i0 r1 i1 rk ik _ _ _ _ _ _ a0 a0' a1 a1' ak ak' b0 b0' b1 b1' bk bk'
      have hq := neq_zero hr
      rw [show tw (px 0) (py 0) (px 1) (py 1) (px (k + 2)) (py (k + 2)) = T px py 0 1 (k + 2) from rfl] at hq
      rw [Nat.add_zero] at c0
      have ck' : wr.cell? ⟨pb, po + 2 + k, none⟩ = some (.complex .f64 rk ik) := by rw [show po + 2 + k = po + (k + 2) by omega]; exact ck
      have HC := hid hc
      have hlt' : (k : Int) < m := by omega
      clear hc hr a0 a0' a1 a1' ak ak' b0 b0' b1 b1' bk bk' hpw ck
      by_cases ht : T px py 0 1 (k + 2) = 0
      · have hq' : (FloatKind.f64.format.order r 0 != some Ordering.eq) = false := by rw [hq]; simp [ht]
        have HT := hid ht
        clear ht hq
        go_wp2
        go_quiet ((go_at_call 68; exact Calls.quiet_of_same (HC.out _)))
        go_wp2
        go_roundw
        case rel => exact ⟨k + 1, by omega, by go_num, by rw [flatB, HA.out, HT.out]; rfl, below_drewN HB.out _⟩
        case measure => simp [intOf]; omega
      · have hq' : (FloatKind.f64.format.order r 0 != some Ordering.eq) = true := by rw [hq]; simp [ht]
        have HT := hid ht
        clear ht hq
        go_wp2
        go_quiet ((go_at_call 68; exact Calls.quiet_of_same (HC.out _)))
        go_wp2
        go_ret
        exact ⟨by rw [flatB_false _ _ _ k hlt HT.out]; rfl, below_drewN HB.out _⟩
    · have : k = m := by omega
      subst this
      go_wp2
      go_ret
      exact ⟨by rw [HA.out]; rfl, HB.out⟩

end Go.Proofs.YtdbebbbceeopaaaGreat

namespace Go.Proofs.YtdbebbbceeopaaaGreat
open Go.RowKit
open Go.Sort (SortedIn)
open Flt (Is)

/-- Which of Hull's errors applies first (0: none), of 3 to 40 points. -/
def refI (px py : Nat → Int) (n : Nat) : Int :=
  if allB px py n = false then 2 else if twB px py n = true then 3 else if flatB px py (n - 2) = true then 4 else 0

theorem near_iff (n : Int) : nearB n = true ↔ -1000 ≤ n ∧ n ≤ 1000 := by simp [nearB]

set_option maxRecDepth 100000 in
set_option maxHeartbeats 1000000 in
theorem refusal_any (px py : Nat → Int) (n qb qo cap : Nat) (w : World) (hp : Pts w qb qo n px py) (h3 : 3 ≤ n) (hn : n ≤ 40) (hcap : n ≤ cap) :
    Calls Tryz.prog 33 #[.slice (some ⟨qb, qo, none⟩) n cap] w fun e w' => e = .returned (.int .i64 (refI px py n)) ∧ Below w.heap.size w w' := by
  have g3 : decide ((n : Int) < 3) = false := by simp; omega
  have g40 : decide ((40 : Int) < n) = false := by simp; omega
  have c1 := hid (allInBounds_any px py n qb qo cap w hp hn)
  have HP := hid hp
  clear hp
  unfold refI
  cases hA : allB px py n
  · rw [hA] at c1
    clear hA
    go_enter Tryz.func33, Tryz.ntmps33
    go_wp2_with fail
    refine c1.out.mono ?_
    rintro e w' ⟨rfl, hb⟩
    have HB := hid hb
    clear hb
    go_wp2_with fail
    go_ret
    exact ⟨rfl, HB.out⟩
  · rw [hA] at c1
    have HA := hid hA
    clear hA
    cases hT : twB px py n
    · obtain ⟨m, rfl⟩ : ∃ m, n = m + 2 := ⟨n - 2, by omega⟩
      rw [show m + 2 - 2 = m from rfl]
      cases hF : flatB px py m
      · go_enter Tryz.func33, Tryz.ntmps33
        go_wp2_with fail
        refine c1.out.mono ?_
        rintro e w1 ⟨rfl, hb1⟩
        have c2 := hid (hasTwice_any px py (m + 2) qb qo cap w1 (HP.out.below hb1 HP.out.lt) hn hcap)
        rw [hT] at c2
        have HB1 := hid hb1
        clear c1 hb1
        go_wp2_with fail
        refine c2.out.mono ?_
        rintro e w2 ⟨rfl, hb2⟩
        have hbd : ∀ i, i < m + 2 → (-1000 ≤ px i ∧ px i ≤ 1000) ∧ (-1000 ≤ py i ∧ py i ≤ 1000) := by
          intro i hi
          have := (allB_iff px py (m + 2)).1 HA.out i hi
          exact ⟨(near_iff _).1 this.1, (near_iff _).1 this.2⟩
        have hb02 : Below w.heap.size w w2 := HB1.out.trans (hb2.mono HB1.out.size)
        have c3 := hid (places_any px py (m + 2) qb qo cap w2 (HP.out.below hb02 HP.out.lt) hn hbd)
        have HB2 := hid hb02
        clear c2 hb2 hb02 HB1 hbd
        go_wp2_with fail
        refine c3.out.mono ?_
        rintro e w3 ⟨rfl, hb3, hp3⟩
        have c4 := hid (isFlat_any px py m w2.heap.size 0 (m + 2) w3 hp3 hn (by omega) (Nat.le_refl _))
        have hb03 : Below w.heap.size w w3 := HB2.out.trans (hb3.mono HB2.out.size)
        have HB3 := hid hb03
        clear c3 hb3 hp3 HB2 hb03
        rw [hF] at c4
        clear hF
        go_wp2_with fail
        refine c4.out.mono ?_
        rintro e w4 ⟨rfl, hb4⟩
        have HB4 := hid (HB3.out.trans (hb4.mono HB3.out.size))
        clear hb4
        go_wp2_with fail
        go_ret
        exact ⟨rfl, HB4.out⟩
      · go_enter Tryz.func33, Tryz.ntmps33
        go_wp2_with fail
        refine c1.out.mono ?_
        rintro e w1 ⟨rfl, hb1⟩
        have c2 := hid (hasTwice_any px py (m + 2) qb qo cap w1 (HP.out.below hb1 HP.out.lt) hn hcap)
        rw [hT] at c2
        have HB1 := hid hb1
        clear c1 hb1
        go_wp2_with fail
        refine c2.out.mono ?_
        rintro e w2 ⟨rfl, hb2⟩
        have hbd : ∀ i, i < m + 2 → (-1000 ≤ px i ∧ px i ≤ 1000) ∧ (-1000 ≤ py i ∧ py i ≤ 1000) := by
          intro i hi
          have := (allB_iff px py (m + 2)).1 HA.out i hi
          exact ⟨(near_iff _).1 this.1, (near_iff _).1 this.2⟩
        have hb02 : Below w.heap.size w w2 := HB1.out.trans (hb2.mono HB1.out.size)
        have c3 := hid (places_any px py (m + 2) qb qo cap w2 (HP.out.below hb02 HP.out.lt) hn hbd)
        have HB2 := hid hb02
        clear c2 hb2 hb02 HB1 hbd
        go_wp2_with fail
        refine c3.out.mono ?_
        rintro e w3 ⟨rfl, hb3, hp3⟩
        have c4 := hid (isFlat_any px py m w2.heap.size 0 (m + 2) w3 hp3 hn (by omega) (Nat.le_refl _))
        have hb03 : Below w.heap.size w w3 := HB2.out.trans (hb3.mono HB2.out.size)
        have HB3 := hid hb03
        clear c3 hb3 hp3 HB2 hb03
        rw [hF] at c4
        clear hF
        go_wp2_with fail
        refine c4.out.mono ?_
        rintro e w4 ⟨rfl, hb4⟩
        have HB4 := hid (HB3.out.trans (hb4.mono HB3.out.size))
        clear hb4
        go_wp2_with fail
        go_ret
        exact ⟨rfl, HB4.out⟩
    · go_enter Tryz.func33, Tryz.ntmps33
      go_wp2_with fail
      refine c1.out.mono ?_
      rintro e w1 ⟨rfl, hb1⟩
      have c2 := hid (hasTwice_any px py n qb qo cap w1 (HP.out.below hb1 HP.out.lt) hn hcap)
      rw [hT] at c2
      clear hT
      have HB1 := hid hb1
      clear c1 hb1
      go_wp2_with fail
      refine c2.out.mono ?_
      rintro e w2 ⟨rfl, hb2⟩
      have HB2 := hid (HB1.out.trans (hb2.mono HB1.out.size))
      clear c2 hb2
      go_wp2_with fail
      go_ret
      exact ⟨rfl, HB2.out⟩

end Go.Proofs.YtdbebbbceeopaaaGreat

set_option linter.unusedSimpArgs false
namespace Go.Proofs.YtdbebbbceeopaaaGreat
open Go.RowKit

set_option maxHeartbeats 1000000 in
theorem refusal_count (a : Option Addr) (n cap : Nat) (w : World) (h : n < 3 ∨ 40 < n) (hn : n ≤ 9223372036854775807) :
    Calls Tryz.prog 33 #[.slice a n cap] w fun e w' => e = .returned (.int .i64 1) ∧ w' = w := by
  by_cases h3 : n < 3
  · have d1 : decide ((n : Int) < 3) = true := by simp; omega
    go_enter Tryz.func33, Tryz.ntmps33
    go_wp2
    go_ret
    exact ⟨rfl, rfl⟩
  · have d1 : decide ((n : Int) < 3) = false := by simp; omega
    have d2 : decide ((40 : Int) < n) = true := by simp; omega
    go_enter Tryz.func33, Tryz.ntmps33
    go_wp2
    go_ret
    exact ⟨rfl, rfl⟩

set_option maxHeartbeats 1000000 in
theorem check_count (a : Option Addr) (n cap : Nat) (w : World) (h : n < 3 ∨ 40 < n) (hn : n ≤ 9223372036854775807) :
    Calls Tryz.prog 49 #[.slice a n cap] w fun e w' => e = .returned (.int .i64 1) ∧ w' = w := by
  by_cases h3 : n < 3
  · have d1 : decide ((n : Int) < 3) = true := by simp; omega
    go_enter Tryz.func49, Tryz.ntmps49
    go_wp2
    go_ret
    exact ⟨rfl, rfl⟩
  · have d1 : decide ((n : Int) < 3) = false := by simp; omega
    have d2 : decide ((40 : Int) < n) = true := by simp; omega
    go_enter Tryz.func49, Tryz.ntmps49
    go_wp2
    go_ret
    exact ⟨rfl, rfl⟩

end Go.Proofs.YtdbebbbceeopaaaGreat

namespace Go.Proofs.YtdbebbbceeopaaaGreat
open Go.RowKit
open Go.Sort (SortedIn)
open Geo

theorem walk_ends {Pos : Int → Int → Prop} {px py : Nat → Int} (H : Half Pos) (os : List Nat) (h2 : 2 ≤ os.length) (hos : os.Pairwise (Lt Pos px py)) :
    ∃ m, (stk (T px py) os).reverse.length = m + 1 ∧ 1 ≤ m ∧ Walk Pos px py os (stk (T px py) os).reverse ∧ (stk (T px py) os).reverse.getD 0 0 = os.getD 0 0 ∧ (stk (T px py) os).reverse.getD m 0 = os.getD (os.length - 1) 0 ∧
      ∀ i, i < (stk (T px py) os).reverse.length → (stk (T px py) os).reverse.getD i 0 ∈ os := by
  obtain ⟨s, e1, e2, e3⟩ := stk_good H os hos os.length (by omega) (Nat.le_refl _)
  rw [List.take_length] at e1 e3
  have hl := stk_two (T px py) os h2
  rw [e1] at hl ⊢
  obtain ⟨l, hl'⟩ : ∃ l, l = os[os.length - 1]! := ⟨_, rfl⟩
  rw [← hl'] at e1 e2 e3 hl ⊢
  have hlast : l = os.getD (os.length - 1) 0 := by
    rw [hl', List.getD_eq_getElem?_getD, List.getElem!_eq_getElem?_getD]; rfl
  have hfirst : os[0]! = os.getD 0 0 := by
    rw [List.getD_eq_getElem?_getD, List.getElem!_eq_getElem?_getD]; rfl
  refine ⟨s.length, by simp, by simp at hl; omega, walk_of e3, ?_, ?_, ?_⟩
  · rw [getD_rev _ _ (by simp), ← hfirst]
    rw [List.getLast?_eq_getElem?] at e2
    rw [List.getD_eq_getElem?_getD, Nat.sub_zero, e2]
    rfl
  · rw [getD_rev _ _ (by simp), ← hlast]
    simp
  · intro i hi
    have hm : (l :: s).reverse.getD i 0 ∈ (l :: s).reverse := by
      rw [List.getD_eq_getElem?_getD, List.getElem?_eq_getElem hi]
      exact List.getElem_mem _
    have : (l :: s).reverse.getD i 0 ∈ stk (T px py) os := by rw [e1]; exact List.mem_reverse.1 hm
    have := stk_mem (T px py) os os.length (Nat.le_refl _) _ (by rw [List.take_length]; exact this)
    exact this

theorem nums_mem {n : Nat} {d : Array (Fin n)} (hp : d.toList.Perm (List.finRange n)) (p : Nat) : p ∈ nums d ↔ p < n := by
  constructor
  · exact nums_lt d p
  · intro h
    unfold nums
    rw [List.mem_map]
    exact ⟨⟨p, h⟩, hp.mem_iff.2 (List.mem_finRange _), rfl⟩

theorem nums_sorted {px py : Nat → Int} {n : Nat} [NeZero n] {d : Array (Fin n)} (hd : d.size = n) (hp : d.toList.Perm (List.finRange n)) (hs : SortedIn (ltOf (cfI px py)) 0 n d)
    (hne : ∀ i j, i < n → j < n → i ≠ j → ¬ (px i = px j ∧ py i = py j)) : (nums d).Pairwise (Lt Lex px py) := by
  rw [List.pairwise_iff_getElem]
  intro i j hi hj hij
  have hi' : i < d.size := by rw [nums_len] at hi; exact hi
  have hj' : j < d.size := by rw [nums_len] at hj; exact hj
  have h := hs i j (Nat.zero_le _) hij (by omega)
  have ei : (nums d)[i] = (d[i]!).val := by simp [nums, hi']
  have ej : (nums d)[j] = (d[j]!).val := by simp [nums, hj']
  rw [ei, ej]
  unfold ltOf at h
  rw [decide_eq_false_iff_not, cfI_lt] at h
  have hnd : d.toList.Nodup := hp.nodup_iff.2 (List.nodup_finRange n)
  have hneq : d[i]! ≠ d[j]! := by
    have := List.pairwise_iff_getElem.1 hnd i j (by simpa using hi') (by simpa using hj') hij
    simpa [hi', hj'] using this
  have hv : (d[i]!).val ≠ (d[j]!).val := fun e => hneq (Fin.ext e)
  have := hne _ _ (d[i]!).isLt (d[j]!).isLt hv
  unfold Lt Lex
  omega

/-- THE PROGRAM's CORNERS ARE THE HULL's. -/
theorem hullOf_isHull {px py : Nat → Int} {n : Nat} [NeZero n] {d : Array (Fin n)} (h3 : 3 ≤ n) (hd : d.size = n) (hp : d.toList.Perm (List.finRange n)) (hs : SortedIn (ltOf (cfI px py)) 0 n d)
    (hne : ∀ i j, i < n → j < n → i ≠ j → ¬ (px i = px j ∧ py i = py j)) (hw : ∃ i, i < n ∧ T px py 0 1 i ≠ 0) : IsHull px py n (hullOf (T px py) (nums d)) := by
  have hsort := nums_sorted hd hp hs hne
  have hmem := nums_mem hp
  have hl : (nums d).length = n := by rw [nums_len, hd]
  obtain ⟨m1, a1, a2, a3, a4, a5, a6⟩ := walk_ends half_lex (nums d) (by omega) hsort
  have hrev : (nums d).reverse.Pairwise (Lt Back px py) := by
    rw [List.pairwise_reverse, List.pairwise_iff_getElem]
    intro i j hi hj hij
    exact lt_back.2 (List.pairwise_iff_getElem.1 hsort i j hi hj hij)
  obtain ⟨m2, b1, b2, b3, b4, b5, b6⟩ := walk_ends half_back' (nums d).reverse (by rw [List.length_reverse]; omega) hrev
  have c4 : (nums d).reverse.getD 0 0 = (nums d).getD (n - 1) 0 := by rw [getD_rev _ _ (by omega), hl]; rfl
  have c5 : (nums d).reverse.getD ((nums d).reverse.length - 1) 0 = (nums d).getD 0 0 := by rw [List.length_reverse, getD_rev _ _ (by omega), Nat.sub_self]
  have b3' : Walk Back px py (nums d) (stk (T px py) (nums d).reverse).reverse := ⟨b3.lt, fun j hj p hp => b3.side j hj p (List.mem_reverse.2 hp), b3.turn⟩
  have ord : ∀ i j, i < j → j < n → Lt Lex px py ((nums d).getD i 0) ((nums d).getD j 0) := by
    intro i j hij hj
    have := List.pairwise_iff_getElem.1 hsort i j (by omega) (by omega) hij
    rw [List.getD_eq_getElem?_getD, List.getD_eq_getElem?_getD, List.getElem?_eq_getElem (by omega), List.getElem?_eq_getElem (by omega)]
    exact this
  have idx : ∀ p ∈ nums d, ∃ i, i < n ∧ p = (nums d).getD i 0 := by
    intro p hp
    obtain ⟨i, hi, rfl⟩ := List.getElem_of_mem hp
    refine ⟨i, by omega, ?_⟩
    rw [List.getD_eq_getElem?_getD, List.getElem?_eq_getElem hi]; rfl
  refine isHull_of hmem ?_ a3 b3' m1 m2 a1 b1 a2 b2 a6 (fun i hi => List.mem_reverse.1 (b6 i hi)) ?_ ?_ ?_ ?_
  · obtain ⟨i, hi, ht⟩ := hw
    exact ⟨0, (hmem 0).2 (by omega), 1, (hmem 1).2 (by omega), i, (hmem i).2 hi, ht⟩
  · rw [b5, c5, a4]
  · rw [b4, c4, a5, hl]
  · intro p hp
    obtain ⟨i, hi, rfl⟩ := idx p hp
    rw [a4]
    by_cases h : i = 0
    · subst h; exact Or.inl rfl
    · exact Or.inr (ord 0 i (by omega) hi)
  · intro p hp
    obtain ⟨i, hi, rfl⟩ := idx p hp
    rw [a5, hl]
    by_cases h : i = n - 1
    · subst h; exact Or.inl rfl
    · exact Or.inr (ord i (n - 1) (by omega) (by omega))
end Go.Proofs.YtdbebbbceeopaaaGreat

namespace Go.Proofs.YtdbebbbceeopaaaGreat
open Go.RowKit

theorem drew_more' {W wq : World} (h : ∃ q', wq = W.drewN q') (n : Nat) : ∃ q, wq.drewN n = W.drewN q := by
  obtain ⟨q', rfl⟩ := h
  exact ⟨_, drewN_drewN _ _ _⟩
end Go.Proofs.YtdbebbbceeopaaaGreat
