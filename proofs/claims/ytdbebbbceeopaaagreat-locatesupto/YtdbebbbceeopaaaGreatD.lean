import Derived.Test.YtdbebbbceeopaaaGreatC
import Derived.Lib.OwnBridge
import Derived.Lib.AppendIntMem
namespace Go.Proofs.YtdbebbbceeopaaaGreat
open Go.RowKit
open Go.Sort (grow Holds putRow SWO PermIn SortedIn alloc_eq_grow cell?_grow cell?_putRow_other)
open Flt (Is)

theorem Tryz.info3 : (Tryz.prog.info? 3).map (fun i => (i.zero, i.size, i.bytes)) = some (some (.int .i64 0), 1, 8) := by kernel_rfl
theorem Tryz.info94 : (Tryz.prog.info? 94).map (fun i => (i.zero, i.size, i.bytes)) = some (some (.complex .f64 0 0), 1, 16) := by kernel_rfl
theorem Tryz.info35 : (Tryz.prog.info? 35).map (fun i => (i.zero, i.size, i.bytes)) = some (some (.agg #[.int .i64 0, .int .i64 0]), 2, 16) := by kernel_rfl

def encF {n : Nat} (i : Fin n) : Value := .int .i64 (i.val : Int)

def cfI (px py : Nat → Int) {n : Nat} (i j : Fin n) : Int := orI (cmpI (px i) (px j)) (cmpI (py i) (py j))

theorem cfI_lt (px py : Nat → Int) {n : Nat} (i j : Fin n) : (cfI px py i j < 0) ↔ (px i < px j ∨ (px i = px j ∧ py i < py j)) := by
  unfold cfI orI cmpI
  split <;> split <;> (try split) <;> (try split) <;> omega

theorem cfI_swo (px py : Nat → Int) {n : Nat} : SWO (ltOf (cfI px py (n := n))) := by
  refine ⟨fun x => ?_, fun x y z h1 h2 => ?_, fun x y z h1 h2 => ?_⟩
  · unfold ltOf; rw [decide_eq_false_iff_not, cfI_lt]; omega
  · unfold ltOf at *
    rw [decide_eq_true_iff, cfI_lt] at *
    omega
  · unfold ltOf at *
    rw [decide_eq_false_iff_not, cfI_lt] at *
    omega

theorem cell_sortWorld {α : Type} [Inhabited α] (enc : α → Value) (w : World) (blk off m : Nat) (dk : Array α) (os : Array Obj) (a : Addr) (ha : a.block < w.heap.size) (hne : a.block ≠ blk) :
    (sortWorld enc w blk off m dk os).cell? a = w.cell? a := by
  unfold sortWorld
  rw [cell?_grow _ _ _ (by rw [Sort.size_putRow]; exact ha), cell?_putRow_other _ _ _ _ _ _ (Or.inl hne)]
  rfl

theorem below_sortWorld {α : Type} [Inhabited α] (enc : α → Value) (w0 w : World) (B blk m : Nat) (dk : Array α) (os : Array Obj) (h : Below B w0 w) (hb : B ≤ blk) (hB : B ≤ w.heap.size) :
    Below B w0 (sortWorld enc w blk 0 m dk os) := by
  unfold sortWorld
  have h1 := Lib.below_putRow (enc := enc) (q := m) (d := dk) h hb
  have h2 := Lib.below_grow B (putRow enc (Sort.ahead w m) blk 0 dk) (by rw [Sort.size_putRow]; exact hB) 0 os
  exact h1.trans h2

/-- A row of places: block pb, from po on, n of them, standing for the points (px i, py i). -/
structure Plc (w : World) (pb po n : Nat) (px py : Nat → Int) : Prop where
  lt : pb < w.heap.size
  cell : ∀ i, i < n → ∃ r q, w.cell? ⟨pb, po + i, none⟩ = some (.complex .f64 r q) ∧ Is r (px i) ∧ Is q (py i)
  bd : ∀ i, i < n → (-1000 ≤ px i ∧ px i ≤ 1000) ∧ (-1000 ≤ py i ∧ py i ≤ 1000)

theorem Plc.below {w w' : World} {B pb po n : Nat} {px py : Nat → Int} (h : Plc w pb po n px py) (hb : Below B w w') (hB : pb < B) : Plc w' pb po n px py :=
  ⟨Nat.lt_of_lt_of_le h.lt hb.size, fun i hi => by rw [hb.cell (by exact hB)]; exact h.cell i hi, h.bd⟩

theorem cmpLays (px py : Nat → Int) (n : Nat) [NeZero n] (bx pb po cap g sz : Nat) (w : World) (hp : Plc w pb po n px py) (hbx : bx < w.heap.size) (hbox : w.cell? ⟨bx, 0, none⟩ = some (.slice (some ⟨pb, po, none⟩) n cap))
    (h1 : pb ≠ g) (h2 : bx ≠ g) : CmpLays1 Tryz.prog 93 #[.pointer (some ⟨bx, 0, none⟩)] (encF (n := n)) (cfI px py) g 0 sz w := by
  intro q os dk hs x y
  obtain ⟨rx, ix, cx, ax, bx'⟩ := hp.cell x x.isLt
  obtain ⟨ry, iy, cy, ay, by'⟩ := hp.cell y y.isLt
  exact closure_any bx pb po n cap x y rx ix ry iy (px x) (py x) (px y) (py y) x.isLt y.isLt _
    (by rw [cell_sortWorld _ _ _ _ _ _ _ _ hbx h2]; exact hbox)
    (by rw [cell_sortWorld _ _ _ _ _ _ _ _ hp.lt h1]; exact cx)
    (by rw [cell_sortWorld _ _ _ _ _ _ _ _ hp.lt h1]; exact cy) ax bx' ay by'

/-- What the order's row holds behind k rounds of the loop that numbers it. -/
def numbered (n k : Nat) : List Value := (List.range n).map fun j => if j < k then .int .i64 (j : Int) else .int .i64 0

theorem numbered_set (n k : Nat) : (numbered n k).set k (.int .i64 (k : Int)) = numbered n (k + 1) := by
  apply List.ext_getElem?
  intro j
  unfold numbered
  rw [List.getElem?_set]
  by_cases h : k = j
  · subst h
    by_cases hk : k < n
    · simp [hk]
    · simp [hk]
  · simp only [h, if_false, List.getElem?_map]
    by_cases hj : j < n
    · simp [hj, show (j < k) = (j < k + 1) from by simp; omega]
    · simp [hj]

theorem numbered_zero (n : Nat) : (madeCells (Value.int .i64 0).cells (n * 1)).toList = numbered n 0 := by
  unfold madeCells numbered
  simp [Value.cells, Nat.mod_one]

theorem holds_numbered {w : World} {base g n : Nat} [NeZero n] (h : w.ownsRow base 3 1 (.slice (some ⟨g, 0, none⟩) n n) n (numbered n n)) : Holds (encF (n := n)) w g 0 (List.finRange n).toArray := by
  intro j hj
  have hj' : j < n := by simpa using hj
  refine ⟨?_, h.frozenAt _⟩
  rw [h.cellAt _ (by omega)]
  simp [numbered, hj', encF]

theorem sorted_of {px py : Nat → Int} {n : Nat} [NeZero n] {w w0 wr : World} {d : Array (Fin n)} {arg : Array Value} (hcon : Calls Tryz.prog 92 arg wr fun e w' => e = .returned (.tuple #[]) ∧ ∃ d' k os, PermIn 0 d.size d d' ∧ SortedIn (ltOf (cfI px py)) 0 d.size d' ∧ w' = sortWorld encF wr (w.heap.size + 1) 0 k d' os)
    (hH : Holds encF wr (w.heap.size + 1) 0 d) (hsz : w.heap.size + 1 < wr.heap.size) (hd : d.size = n) (hdd : d = (List.finRange n).toArray) (hw0 : Below w.heap.size w w0) (hb : Below (w.heap.size + 1) w0 wr) :
    Calls Tryz.prog 92 arg wr fun e w' => e = .returned (.tuple #[]) ∧ Below w.heap.size w w' ∧ w.heap.size + 1 < w'.heap.size ∧
      ∃ d : Array (Fin n), d.size = n ∧ d.toList.Perm (List.finRange n) ∧ SortedIn (ltOf (cfI px py)) 0 n d ∧ Holds encF w' (w.heap.size + 1) 0 d := by
  refine hcon.mono ?_
  rintro e w' ⟨rfl, d', k, os, hp, hs, rfl⟩
  have hsize : d'.size = d.size := hp.1
  refine ⟨rfl, ?_, ?_, d', by omega, ?_, by rw [hd] at hs; exact hs, holds_sortWorld encF wr _ 0 k d d' os hsz hH hsize⟩
  · exact below_sortWorld _ _ _ _ _ _ _ _ (hw0.trans (hb.mono (by omega))) (by omega) (by omega)
  · exact SW.lt ⟨k, os, rfl⟩ hsz
  · have := hp.2.2
    rw [show d'.extract 0 d.size = d' from by rw [← hsize]; simp, show d.extract 0 d.size = d from by simp, hdd] at this
    simpa using this

set_option maxHeartbeats 1000000 in
theorem rightward_any (px py : Nat → Int) (n : Nat) [NeZero n] (pb po cap : Nat) (w : World) (hp : Plc w pb po n px py) (hm : n ≤ 40) :
    Calls Tryz.prog 61 #[.slice (some ⟨pb, po, none⟩) n cap] w fun e w' =>
      e = .returned (.slice (some ⟨w.heap.size + 1, 0, none⟩) n n) ∧ Below w.heap.size w w' ∧ w.heap.size + 1 < w'.heap.size ∧
      ∃ d : Array (Fin n), d.size = n ∧ d.toList.Perm (List.finRange n) ∧ SortedIn (ltOf (cfI px py)) 0 n d ∧ Holds encF w' (w.heap.size + 1) 0 d := by
  obtain ⟨i0, hi, hz0, hz1, hz2⟩ := info_parts Tryz.info3
  go_enter Tryz.func61, Tryz.ntmps61
  go_wp2_with (at_make; refine wpList_make_full _ rfl (.tmp 6) (.tmp 6) 25 rfl (w.heap.size + 1) 3 i0 (.int .i64 0) 1 Tryz.underlying25 hi hz0 hz1 .i64 .i64 _ _ n rfl rfl rfl rfl (by rw [hz2]; omega) (by unfold maxLen; omega) (by simp) ?_; intro w2 hown hgrow)
  have hown1 : w2.ownsRow (w.heap.size + 1) 3 1 (.slice (some ⟨w.heap.size + 1, 0, none⟩) n n) n (numbered n 0) := by
    rw [← numbered_zero]; simpa using hown
  have hb2 : Below (w.heap.size + 1) (w.alloc (.cells #[.slice (some ⟨pb, po, none⟩) n cap] 68)) w2 := (Below.refl _ _).grown hgrow (by simp) (fun k hk => by cases hk)
  clear hown hgrow
  have H1 : Hid (w2.ownsRow (w.heap.size + 1) 3 1 (.slice (some ⟨w.heap.size + 1, 0, none⟩) n n) n (numbered n 0)) := hown1
  have H2 : Hid (Below (w.heap.size + 1) (w.alloc (.cells #[.slice (some ⟨pb, po, none⟩) n cap] 68)) w2) := hb2
  clear hown1 hb2
  go_loopw [10] (fun i wr => ∃ k : Nat, k ≤ n ∧ i = .int .i64 k ∧ wr.ownsRow (w.heap.size + 1) 3 1 (.slice (some ⟨w.heap.size + 1, 0, none⟩) n n) n (numbered n k) ∧ Below (w.heap.size + 1) (w.alloc (.cells #[.slice (some ⟨pb, po, none⟩) n cap] 68)) wr)
    (fun i _ => n - (intOf i).toNat)
  case atStart => exact ⟨0, Nat.zero_le _, rfl, H1.out, H2.out⟩
  case round =>
    obtain ⟨k, hk, rfl, ho, hb⟩ := hrel
    clear H1 H2
    by_cases hlt : k < n
    · have hcl := ho.cellAt k (by omega)
      have hfr := ho.frozenAt k
      obtain ⟨v0, hv0⟩ : ∃ v0, (numbered n k)[k]? = some v0 := by simp [numbered, hlt]
      rw [hv0] at hcl
      have HS := ho.stored k (.int .i64 k)
      rw [numbered_set] at HS
      have HS' : Hid _ := HS
      have HB : Hid _ := hb
      clear HS hb ho hv0
      have hlt' : (k : Int) < n := by omega
      go_wp2
      go_roundw
      case rel => exact ⟨k + 1, by omega, by go_num, HS'.out.1, HB.out.setCell (by simp) _⟩
      case measure => simp [intOf]; omega
    · have hkn : k = n := by omega
      subst hkn
      have hsz : w.heap.size + 1 < wr.heap.size := by
        rcases ho.2 with ⟨h', _⟩ | ⟨g', cap', cur, h', _, hg, _⟩
        · cases h'
        · simp only [Value.slice.injEq, Option.some.injEq, Addr.mk.injEq, and_true, true_and] at h'
          obtain ⟨rfl, rfl⟩ := h'
          have := Array.getElem?_eq_some_iff.1 hg
          exact this.1
      have hH := holds_numbered ho
      have hpw : Plc wr pb po k px py := by
        have h1 := hp.below ((Below.refl w.heap.size w).alloc (Nat.le_refl _) (.cells #[.slice (some ⟨pb, po, none⟩) k cap] 68)) hp.lt
        exact h1.below hb (by have := hp.lt; omega)
      have hbox : wr.cell? ⟨w.heap.size, 0, none⟩ = some (.slice (some ⟨pb, po, none⟩) k cap) := by
        rw [hb.cell (by simp)]; exact World.cell?_alloc_at _ _ _ _ rfl
      have eg : ∀ args w, (callFunc 93 args).run Tryz.prog w = .ok (.enter 93 args) w := enters_of Tryz.func93 (by kernel_rfl) rfl
      have hcmp := cmpLays px py k w.heap.size pb po cap (w.heap.size + 1) (List.finRange k).toArray.size wr hpw (by omega) hbox (by have := hp.lt; omega) (by omega)
      have hds : (List.finRange k).toArray.size = k := by simp
      have hcon := Any.slices_SortFunc Tryz.sortL (encF (n := k)) (fun _ => rfl) (cfI px py) (cfI_swo px py) 93 #[.pointer (some ⟨w.heap.size, 0, none⟩)] (w.heap.size + 1) 0 k (List.finRange k).toArray wr eg hcmp hH hsz (by rw [hds]; omega)
      change Calls Tryz.prog 92 _ _ _ at hcon
      have HC := sorted_of hcon hH hsz hds rfl ((Below.refl _ _).alloc (Nat.le_refl _) _) hb
      rw [hds] at HC
      clear hcon hcmp hbox hpw hH hb ho hds hp
      go_wp2_with fail
      refine HC.mono ?_
      rintro e w' ⟨rfl, hr⟩
      have HR : Hid _ := hr
      clear hr
      go_wp2_with fail
      go_ret
      exact ⟨rfl, HR.out⟩

end Go.Proofs.YtdbebbbceeopaaaGreat
