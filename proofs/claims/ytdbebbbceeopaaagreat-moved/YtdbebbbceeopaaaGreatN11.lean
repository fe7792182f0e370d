import Derived.Test.YtdbebbbceeopaaaGreatN10
import Derived.Lib.OwnBridge
import Derived.Lib.AppendIntMem
import Derived.WalkSmall
import Derived.Test.YtdbebbbceeopaaaGreatN9
import Derived.Laws.StructEq
import Derived.Deep.RegionWith
namespace Go.Proofs.YtdbebbbceeopaaaGreat
open Go.RowKit
open Go.Sort (grow Holds putRow SWO PermIn SortedIn alloc_eq_grow cell?_grow cell?_putRow_other)
open Flt (Is)

theorem Tryz.info3 : (Tryz.prog.info? 3).map (fun i => (i.zero, i.size, i.bytes)) = some (some (.int .i64 0), 1, 8) := by kernel_rfl
theorem Tryz.info94 : (Tryz.prog.info? 94).map (fun i => (i.zero, i.size, i.bytes)) = some (some (.complex .f64 0 0), 1, 16) := by kernel_rfl
theorem Tryz.info35 : (Tryz.prog.info? 35).map (fun i => (i.zero, i.size, i.bytes)) = some (some (.agg #[.int .i64 0, .int .i64 0]), 2, 16) := by kernel_rfl

def encF {n : Nat} (i : Fin n) : Value := .int .i64 (i.val : Int)

def cfI (px py : Nat → Int) {n : Nat} (i j : Fin n) : Int := orI (cmpI (px i) (px j)) (cmpI (py i) (py j))

theorem cfI_lt (px py : Nat → Int) {n : Nat} (i j : Fin n) : (cfI px py i j < 0) ↔ (px i < px j ∨ (px i = px j ∧ py i < py j)) := by
  unfold cfI orI cmpI
  split <;> split <;> (try split) <;> (try split) <;> omega

theorem cfI_swo (px py : Nat → Int) {n : Nat} : SWO (ltOf (cfI px py (n := n))) := by
  refine ⟨fun x => ?_, fun x y z h1 h2 => ?_, fun x y z h1 h2 => ?_⟩
  · unfold ltOf; rw [decide_eq_false_iff_not, cfI_lt]; omega
  · unfold ltOf at *
    rw [decide_eq_true_iff, cfI_lt] at *
    omega
  · unfold ltOf at *
    rw [decide_eq_false_iff_not, cfI_lt] at *
    omega

theorem cell_sortWorld {α : Type} [Inhabited α] (enc : α → Value) (w : World) (blk off m : Nat) (dk : Array α) (os : Array Obj) (a : Addr) (ha : a.block < w.heap.size) (hne : a.block ≠ blk) :
    (sortWorld enc w blk off m dk os).cell? a = w.cell? a := by
  unfold sortWorld
  rw [cell?_grow _ _ _ (by rw [Sort.size_putRow]; exact ha), cell?_putRow_other _ _ _ _ _ _ (Or.inl hne)]
  rfl

theorem below_sortWorld {α : Type} [Inhabited α] (enc : α → Value) (w0 w : World) (B blk m : Nat) (dk : Array α) (os : Array Obj) (h : Below B w0 w) (hb : B ≤ blk) (hB : B ≤ w.heap.size) :
    Below B w0 (sortWorld enc w blk 0 m dk os) := by
  unfold sortWorld
  have h1 := Lib.below_putRow (enc := enc) (q := m) (d := dk) h hb
  have h2 := Lib.below_grow B (putRow enc (Sort.ahead w m) blk 0 dk) (by rw [Sort.size_putRow]; exact hB) 0 os
  exact h1.trans h2

/-- A row of places: block pb, from po on, n of them, standing for the points (px i, py i). -/
structure Plc (w : World) (pb po n : Nat) (px py : Nat → Int) : Prop where
  lt : pb < w.heap.size
  cell : ∀ i, i < n → ∃ r q, w.cell? ⟨pb, po + i, none⟩ = some (.complex .f64 r q) ∧ Is r (px i) ∧ Is q (py i)
  bd : ∀ i, i < n → (-1000 ≤ px i ∧ px i ≤ 1000) ∧ (-1000 ≤ py i ∧ py i ≤ 1000)

theorem Plc.below {w w' : World} {B pb po n : Nat} {px py : Nat → Int} (h : Plc w pb po n px py) (hb : Below B w w') (hB : pb < B) : Plc w' pb po n px py :=
  ⟨Nat.lt_of_lt_of_le h.lt hb.size, fun i hi => by rw [hb.cell (by exact hB)]; exact h.cell i hi, h.bd⟩

theorem cmpLays (px py : Nat → Int) (n : Nat) [NeZero n] (bx pb po cap g sz : Nat) (w : World) (hp : Plc w pb po n px py) (hbx : bx < w.heap.size) (hbox : w.cell? ⟨bx, 0, none⟩ = some (.slice (some ⟨pb, po, none⟩) n cap))
    (h1 : pb ≠ g) (h2 : bx ≠ g) : CmpLays1 Tryz.prog 93 #[.pointer (some ⟨bx, 0, none⟩)] (encF (n := n)) (cfI px py) g 0 sz w := by
  intro q os dk hs x y
  obtain ⟨rx, ix, cx, ax, bx'⟩ := hp.cell x x.isLt
  obtain ⟨ry, iy, cy, ay, by'⟩ := hp.cell y y.isLt
  exact closure_any bx pb po n cap x y rx ix ry iy (px x) (py x) (px y) (py y) x.isLt y.isLt _
    (by rw [cell_sortWorld _ _ _ _ _ _ _ _ hbx h2]; exact hbox)
    (by rw [cell_sortWorld _ _ _ _ _ _ _ _ hp.lt h1]; exact cx)
    (by rw [cell_sortWorld _ _ _ _ _ _ _ _ hp.lt h1]; exact cy) ax bx' ay by'

/-- What the order's row holds behind k rounds of the loop that numbers it. -/
def numbered (n k : Nat) : List Value := (List.range n).map fun j => if j < k then .int .i64 (j : Int) else .int .i64 0

theorem numbered_set (n k : Nat) : (numbered n k).set k (.int .i64 (k : Int)) = numbered n (k + 1) := by
  apply List.ext_getElem?
  intro j
  unfold numbered
  rw [List.getElem?_set]
  by_cases h : k = j
  · subst h
    by_cases hk : k < n
    · simp [hk]
    · simp [hk]
  · simp only [h, if_false, List.getElem?_map]
    by_cases hj : j < n
    · simp [hj, show (j < k) = (j < k + 1) from by simp; omega]
    · simp [hj]

theorem numbered_zero (n : Nat) : (madeCells (Value.int .i64 0).cells (n * 1)).toList = numbered n 0 := by
  unfold madeCells numbered
  simp [Value.cells, Nat.mod_one]

theorem holds_numbered {w : World} {base g n : Nat} [NeZero n] (h : w.ownsRow base 3 1 (.slice (some ⟨g, 0, none⟩) n n) n (numbered n n)) : Holds (encF (n := n)) w g 0 (List.finRange n).toArray := by
  intro j hj
  have hj' : j < n := by simpa using hj
  refine ⟨?_, h.frozenAt _⟩
  rw [h.cellAt _ (by omega)]
  simp [numbered, hj', encF]

theorem sorted_of {px py : Nat → Int} {n : Nat} [NeZero n] {w w0 wr : World} {d : Array (Fin n)} {arg : Array Value} (hcon : Calls Tryz.prog 92 arg wr fun e w' => e = .returned (.tuple #[]) ∧ ∃ d' k os, PermIn 0 d.size d d' ∧ SortedIn (ltOf (cfI px py)) 0 d.size d' ∧ w' = sortWorld encF wr (w.heap.size + 1) 0 k d' os)
    (hH : Holds encF wr (w.heap.size + 1) 0 d) (hsz : w.heap.size + 1 < wr.heap.size) (hd : d.size = n) (hdd : d = (List.finRange n).toArray) (hw0 : Below w.heap.size w w0) (hb : Below (w.heap.size + 1) w0 wr) :
    Calls Tryz.prog 92 arg wr fun e w' => e = .returned (.tuple #[]) ∧ Below w.heap.size w w' ∧ w.heap.size + 1 < w'.heap.size ∧
      ∃ d : Array (Fin n), d.size = n ∧ d.toList.Perm (List.finRange n) ∧ SortedIn (ltOf (cfI px py)) 0 n d ∧ Holds encF w' (w.heap.size + 1) 0 d := by
  refine hcon.mono ?_
  rintro e w' ⟨rfl, d', k, os, hp, hs, rfl⟩
  have hsize : d'.size = d.size := hp.1
  refine ⟨rfl, ?_, ?_, d', by omega, ?_, by rw [hd] at hs; exact hs, holds_sortWorld encF wr _ 0 k d d' os hsz hH hsize⟩
  · exact below_sortWorld _ _ _ _ _ _ _ _ (hw0.trans (hb.mono (by omega))) (by omega) (by omega)
  · exact SW.lt ⟨k, os, rfl⟩ hsz
  · have := hp.2.2
    rw [show d'.extract 0 d.size = d' from by rw [← hsize]; simp, show d.extract 0 d.size = d from by simp, hdd] at this
    simpa using this

set_option maxHeartbeats 1000000 in
theorem rightward_any (px py : Nat → Int) (n : Nat) [NeZero n] (pb po cap : Nat) (w : World) (hp : Plc w pb po n px py) (hm : n ≤ 40) :
    Calls Tryz.prog 61 #[.slice (some ⟨pb, po, none⟩) n cap] w fun e w' =>
      e = .returned (.slice (some ⟨w.heap.size + 1, 0, none⟩) n n) ∧ Below w.heap.size w w' ∧ w.heap.size + 1 < w'.heap.size ∧
      ∃ d : Array (Fin n), d.size = n ∧ d.toList.Perm (List.finRange n) ∧ SortedIn (ltOf (cfI px py)) 0 n d ∧ Holds encF w' (w.heap.size + 1) 0 d := by
  obtain ⟨i0, hi, hz0, hz1, hz2⟩ := info_parts Tryz.info3
  go_enter Tryz.func61, Tryz.ntmps61
  go_wp2_with (at_make; refine wpList_make_full _ rfl (.tmp 6) (.tmp 6) 25 rfl (w.heap.size + 1) 3 i0 (.int .i64 0) 1 Tryz.underlying25 hi hz0 hz1 .i64 .i64 _ _ n rfl rfl rfl rfl (by rw [hz2]; omega) (by unfold maxLen; omega) (by simp) ?_; intro w2 hown hgrow)
  have hown1 : w2.ownsRow (w.heap.size + 1) 3 1 (.slice (some ⟨w.heap.size + 1, 0, none⟩) n n) n (numbered n 0) := by
    rw [← numbered_zero]; simpa using hown
  have hb2 : Below (w.heap.size + 1) (w.alloc (.cells #[.slice (some ⟨pb, po, none⟩) n cap] 68)) w2 := (Below.refl _ _).grown hgrow (by simp) (fun k hk => by cases hk)
  clear hown hgrow
  have H1 : Hid (w2.ownsRow (w.heap.size + 1) 3 1 (.slice (some ⟨w.heap.size + 1, 0, none⟩) n n) n (numbered n 0)) := hown1
  have H2 : Hid (Below (w.heap.size + 1) (w.alloc (.cells #[.slice (some ⟨pb, po, none⟩) n cap] 68)) w2) := hb2
  clear hown1 hb2
  go_loopw [10] (fun i wr => ∃ k : Nat, k ≤ n ∧ i = .int .i64 k ∧ wr.ownsRow (w.heap.size + 1) 3 1 (.slice (some ⟨w.heap.size + 1, 0, none⟩) n n) n (numbered n k) ∧ Below (w.heap.size + 1) (w.alloc (.cells #[.slice (some ⟨pb, po, none⟩) n cap] 68)) wr)
    (fun i _ => n - (intOf i).toNat)
  case atStart => exact ⟨0, Nat.zero_le _, rfl, H1.out, H2.out⟩
  case round =>
    obtain ⟨k, hk, rfl, ho, hb⟩ := hrel
    clear H1 H2
    by_cases hlt : k < n
    · have hcl := ho.cellAt k (by omega)
      have hfr := ho.frozenAt k
      obtain ⟨v0, hv0⟩ : ∃ v0, (numbered n k)[k]? = some v0 := by simp [numbered, hlt]
      rw [hv0] at hcl
      have HS := ho.stored k (.int .i64 k)
      rw [numbered_set] at HS
      have HS' : Hid _ := HS
      have HB : Hid _ := hb
      clear HS hb ho hv0
      have hlt' : (k : Int) < n := by omega
      go_wp2
      go_roundw
      case rel => exact ⟨k + 1, by omega, by go_num, HS'.out.1, HB.out.setCell (by simp) _⟩
      case measure => simp [intOf]; omega
    · have hkn : k = n := by omega
      subst hkn
      have hsz : w.heap.size + 1 < wr.heap.size := by
        rcases ho.2 with ⟨h', _⟩ | ⟨g', cap', cur, h', _, hg, _⟩
        · cases h'
        · simp only [Value.slice.injEq, Option.some.injEq, Addr.mk.injEq, and_true, true_and] at h'
          obtain ⟨rfl, rfl⟩ := h'
          have := Array.getElem?_eq_some_iff.1 hg
          exact this.1
      have hH := holds_numbered ho
      have hpw : Plc wr pb po k px py := by
        have h1 := hp.below ((Below.refl w.heap.size w).alloc (Nat.le_refl _) (.cells #[.slice (some ⟨pb, po, none⟩) k cap] 68)) hp.lt
        exact h1.below hb (by have := hp.lt; omega)
      have hbox : wr.cell? ⟨w.heap.size, 0, none⟩ = some (.slice (some ⟨pb, po, none⟩) k cap) := by
        rw [hb.cell (by simp)]; exact World.cell?_alloc_at _ _ _ _ rfl
      have eg : ∀ args w, (callFunc 93 args).run Tryz.prog w = .ok (.enter 93 args) w := enters_of Tryz.func93 (by kernel_rfl) rfl
      have hcmp := cmpLays px py k w.heap.size pb po cap (w.heap.size + 1) (List.finRange k).toArray.size wr hpw (by omega) hbox (by have := hp.lt; omega) (by omega)
      have hds : (List.finRange k).toArray.size = k := by simp
      have hcon := Any.slices_SortFunc Tryz.sortL (encF (n := k)) (fun _ => rfl) (cfI px py) (cfI_swo px py) 93 #[.pointer (some ⟨w.heap.size, 0, none⟩)] (w.heap.size + 1) 0 k (List.finRange k).toArray wr eg hcmp hH hsz (by rw [hds]; omega)
      change Calls Tryz.prog 92 _ _ _ at hcon
      have HC := sorted_of hcon hH hsz hds rfl ((Below.refl _ _).alloc (Nat.le_refl _) _) hb
      rw [hds] at HC
      clear hcon hcmp hbox hpw hH hb ho hds hp
      go_wp2_with fail
      refine HC.mono ?_
      rintro e w' ⟨rfl, hr⟩
      have HR : Hid _ := hr
      clear hr
      go_wp2_with fail
      go_ret
      exact ⟨rfl, HR.out⟩

end Go.Proofs.YtdbebbbceeopaaaGreat

namespace Go.Proofs.YtdbebbbceeopaaaGreat
open Go.RowKit
open Go.Sort (grow Holds putRow SWO PermIn SortedIn alloc_eq_grow cell?_grow cell?_putRow_other)
open Flt (Is)

def encN (i : Nat) : Value := .int .i64 (i : Int)

theorem is_zero : Is 0 0 := Flt.Is.ofInt (n := 0) (by decide) (by decide)

theorem gtr_zero {r : Nat} {v : Int} (h : Is r v) : (FloatKind.f64.format.order r 0 == some Ordering.gt) = decide (0 < v) := by
  rw [h.order is_zero]
  by_cases h1 : 0 < v
  · simp [Int.compare_eq_gt.2 h1, h1]
  · by_cases h2 : v < 0
    · simp [Int.compare_eq_lt.2 h2, h1]
    · have : v = 0 := by omega
      subst this; simp

theorem neq_zero {r : Nat} {v : Int} (h : Is r v) : (FloatKind.f64.format.order r 0 != some Ordering.eq) = decide (v ≠ 0) := by
  rw [h.order is_zero]
  by_cases h1 : 0 < v
  · have h3 : v ≠ 0 := by omega
    simp [Int.compare_eq_gt.2 h1, h3]
  · by_cases h2 : v < 0
    · have h3 : v ≠ 0 := by omega
      simp [Int.compare_eq_lt.2 h2, h3]
    · have : v = 0 := by omega
      subst this; simp

theorem drewN_drewN (w : World) (a b : Nat) : (w.drewN a).drewN b = w.drewN (a + b) := by
  unfold World.drewN; simp [Nat.add_assoc]

set_option maxHeartbeats 1000000 in
theorem turnsLeft_any (px py : Nat → Int) (n pb po cap g k wcap b l x : Nat) (w : World) (hp : Plc w pb po n px py) (hb : b < n) (hl : l < n) (hx : x < n) (hk : k ≤ 40)
    (h1 : w.cell? ⟨g, k, none⟩ = some (.int .i64 b)) (h2 : w.cell? ⟨g, k + 1, none⟩ = some (.int .i64 l)) :
    Calls Tryz.prog 95 #[.slice (some ⟨pb, po, none⟩) n cap, .slice (some ⟨g, 0, none⟩) (k + 2 : Nat) wcap, .int .i64 x] w fun e w' => e = .returned (.bool (decide (0 < T px py b l x))) ∧ ∃ q, w' = w.drewN q := by
  obtain ⟨rb, ib, cb, ab, ab'⟩ := hp.cell b hb
  obtain ⟨rl, il, cl, al, al'⟩ := hp.cell l hl
  obtain ⟨rx, ix, cx, ax, ax'⟩ := hp.cell x hx
  obtain ⟨bb, bb'⟩ := hp.bd b hb
  obtain ⟨bl, bl'⟩ := hp.bd l hl
  obtain ⟨bx, bx'⟩ := hp.bd x hx
  obtain ⟨r, hr, hc⟩ := turn_any rb ib rl il rx ix _ _ _ _ _ _ ab ab' al al' ax ax' bb bb' bl bl' bx bx'
  have hg := gtr_zero hr
  rw [show tw (px b) (py b) (px l) (py l) (px x) (py x) = T px py b l x from rfl] at hg
  generalize decide (0 < T px py b l x) = res at *
  have HC : Hid (∀ w, _) := hc
  have hb' : (b : Int) < n := by omega
  have hl' : (l : Int) < n := by omega
  have hx' : (x : Int) < n := by omega
  clear hc hr ab ab' al al' ax ax' bb bb' bl bl' bx bx' hp
  go_enter Tryz.func95, Tryz.ntmps95
  go_wp2
  go_quiet (fail)
  go_wp2
  have cb' : (w.drewN nq).cell? ⟨pb, po + b, none⟩ = some (.complex .f64 rb ib) := cb
  have cl' : (w.drewN nq).cell? ⟨pb, po + l, none⟩ = some (.complex .f64 rl il) := cl
  have cx' : (w.drewN nq).cell? ⟨pb, po + x, none⟩ = some (.complex .f64 rx ix) := cx
  obtain ⟨wq, hwq⟩ : ∃ wq, wq = w.drewN nq := ⟨_, rfl⟩
  rw [← hwq] at cb' cl' cx' ⊢
  have HW : Hid (wq = w.drewN nq) := hwq
  clear hwq cb cl cx h1 h2
  go_quiet ((go_at_call 68; exact Calls.quiet_of_same (HC.out _)))
  go_wp2
  go_ret
  exact ⟨rfl, _, by rw [HW.out]; exact drewN_drewN _ _ _⟩
def lenOf : Value → Nat
  | .slice _ n _ => n
  | _ => 0

theorem ownsRow_shape {w : World} {base : Nat} {v : Value} {n : Nat} {xs : List Value} (h : w.ownsRow base 3 1 v n xs) (hn : 0 < n) :
    ∃ g cap, v = .slice (some ⟨g, 0, none⟩) n cap ∧ base ≤ g ∧ g < w.heap.size ∧ n ≤ cap := by
  rcases h.2 with ⟨_, h'⟩ | ⟨g', cap', cur, h', hb, hg, hc, _⟩
  · omega
  · exact ⟨g', cap', h', hb, (Array.getElem?_eq_some_iff.1 hg).1, hc⟩

theorem owns_len {w : World} {base : Nat} {v : Value} {n : Nat} {xs : List Value} (h : w.ownsRow base 3 1 v n xs) : ∃ a c, v = .slice a n c := by
  rcases h.2 with ⟨rfl, rfl⟩ | ⟨g', cap', cur, h', _⟩
  · exact ⟨_, _, rfl⟩
  · exact ⟨_, _, h'⟩

theorem chain_step {t : Nat → Nat → Nat → Int} {os : List Nat} {k x : Nat} {w w2 w3 : World} {st s : List Nat} {v v' : Value} (hkl : k < os.length) (hx : x = os[k]) (hst : st = stk t (os.take k)) (hpp : popS t x s = popS t x st) (hpop : popS t x s = s)
    (ho : w2.ownsRow w.heap.size 3 1 v s.length (s.reverse.map encN)) (hb : Below w.heap.size w w2) {o : Obj} (hown' : w3.ownsRow w.heap.size 3 1 v' (s.length + 1) (s.reverse.map encN ++ [.int .i64 (x : Nat)])) (hgrow : (w2.alloc o).grownBy w3 v.ownBlock) :
    w3.ownsRow w.heap.size 3 1 v' (stk t (os.take (k + 1))).length ((stk t (os.take (k + 1))).reverse.map encN) ∧ Below w.heap.size w w3 := by
  have e : stk t (os.take (k + 1)) = x :: s := by
    rw [stk_take t os k hkl, ← hx, ← hst, ← hpp, hpop]
  rw [e]
  refine ⟨by simpa [encN] using hown', ?_⟩
  refine (hb.alloc hb.size o).grown hgrow (by have := hb.size; simp; omega) ?_
  intro j hj
  rcases ho.2 with ⟨rfl, _⟩ | ⟨g', cap', cur, rfl, hbg, _⟩
  · cases hj
  · cases hj; exact hbg

set_option maxRecDepth 100000 in
set_option maxHeartbeats 2000000 in
theorem leftTurns_any (px py : Nat → Int) (n pb po cap ob ocap : Nat) (os : List Nat) (w : World) (hp : Plc w pb po n px py) (hol : os.length ≤ 40) (hos : ∀ y ∈ os, y < n) (hob : ob < w.heap.size)
    (hoc : ∀ j, (hj : j < os.length) → w.cell? ⟨ob, j, none⟩ = some (.int .i64 (os[j] : Nat))) :
    Calls Tryz.prog 62 #[.slice (some ⟨pb, po, none⟩) n cap, .slice (some ⟨ob, 0, none⟩) os.length ocap] w fun e w' =>
      ∃ v, e = .returned v ∧ Below w.heap.size w w' ∧ w'.ownsRow w.heap.size 3 1 v (stk (T px py) os).length ((stk (T px py) os).reverse.map encN) := by
  obtain ⟨i0, hi, hz0, hz1, hz2⟩ := info_parts Tryz.info3
  obtain ⟨len, hlen⟩ : ∃ len, len = os.length := ⟨_, rfl⟩
  have HL : Hid (len = os.length) := hlen
  rw [← hlen]
  clear hlen
  go_enter Tryz.func62, Tryz.ntmps62
  go_wp2
  go_loopw [5, 10] (fun v i wr => ∃ k : Nat, k ≤ len ∧ i = .int .i64 k ∧ wr.ownsRow w.heap.size 3 1 v (stk (T px py) (os.take k)).length ((stk (T px py) (os.take k)).reverse.map encN) ∧ Below w.heap.size w wr)
    (fun _ i _ => len - (intOf i).toNat)
  case atStart => exact ⟨0, Nat.zero_le _, rfl, World.ownsRow_nil _ _ _ _, Below.refl _ _⟩
  case round =>
    obtain ⟨k, hk, rfl, ho, hb⟩ := hrel
    by_cases hlt : k < len
    · have hkl : k < os.length := by have := HL.out; omega
      obtain ⟨x, hx⟩ : ∃ x, x = os[k] := ⟨_, rfl⟩
      have hxn : x < n := by rw [hx]; exact hos _ (List.getElem_mem _)
      have hcx : wr.cell? ⟨ob, k, none⟩ = some (.int .i64 (x : Nat)) := by rw [hb.cell (by exact hob), hx]; exact hoc k hkl
      have hlt' : (k : Int) < len := by omega
      have HX : Hid (x = os[k]) := hx
      clear hx
      obtain ⟨st, hst⟩ : ∃ st, st = stk (T px py) (os.take k) := ⟨_, rfl⟩
      rw [← hst] at ho
      have HST : Hid (st = stk (T px py) (os.take k)) := hst
      have hstl : st.length ≤ k := by rw [hst]; exact stk_len _ _ _ (by omega)
      clear hst
      obtain ⟨a5, c5, hv5⟩ := owns_len ho
      subst hv5
      have HO := hid ho
      have HB := hid hb
      clear ho hb
      go_wp2
      go_loopw [5] (fun v w2 => ∃ s : List Nat, popS (T px py) x s = popS (T px py) x st ∧ s.length ≤ k ∧ (∀ y ∈ s, y < n) ∧ w2.ownsRow w.heap.size 3 1 v s.length (s.reverse.map encN) ∧ Below w.heap.size w w2) (fun v _ => lenOf v)
      case atStart =>
        refine ⟨st, rfl, hstl, ?_, HO.out, HB.out⟩
        intro y hy
        rw [HST.out] at hy
        exact hos y (stk_mem _ _ _ (by omega) y hy)
      case round =>
        obtain ⟨s, hpp, hsl, hsn, ho, hb⟩ := hrel
        have HP := hid hpp
        clear HO HB hpp
        have HHB := hid hb
        clear hb
        rcases s with _ | ⟨l, _ | ⟨b, r⟩⟩
        ·
          obtain ⟨a6, c6, hv6⟩ := owns_len ho
          subst hv6
          have HO : Hid (wr.ownsRow w.heap.size 3 1 (.slice a6 0 c6) 0 []) := ho
          have HB : Hid (Below w.heap.size w wr) := HHB.out
          clear ho HHB hsn hos hoc hp hcx
          simp only [List.length_nil]
          go_wp2_with (at_builtin; go_must (refine wpList_append_own _ rfl _ _ 25 rfl w.heap.size 3 i0 (.int .i64 0) 1 8 Tryz.underlying25 hi hz0 hz1 hz2 rfl (by decide) _ _ _ rfl (HO.out.alloc _) ⟨wr.heap.size, 0, none⟩ 1 1 [.int .i64 (x : Nat)] rfl rfl ?c1 ?c2 ?c3 ?c4 ?c5 ?_))
          case c1 =>
            intro j u hj
            match j, hj with
            | 0, hj => simp at hj; subst hj; simp [Addr.add]
          case c2 => intro u hu; simp at hu; subst hu; rfl
          case c3 => unfold maxLen; simp
          case c4 => simp
          case c5 => have := HB.out.size; simp; omega
          intro v' w3 hown' hgrow _
          have R := chain_step (os := os) (k := k) hkl HX.out HST.out HP.out rfl HO.out HB.out hown' hgrow
          clear hown' hgrow
          have HR := hid R
          clear R
          go_wp2
          go_roundw
          case rel => exact ⟨k + 1, by omega, by go_num, HR.out.1, HR.out.2⟩
          case measure => simp [intOf]; omega
        ·
          obtain ⟨a6, c6, hv6⟩ := owns_len ho
          subst hv6
          have HO : Hid (wr.ownsRow w.heap.size 3 1 (.slice a6 1 c6) 1 [encN l]) := ho
          have HB : Hid (Below w.heap.size w wr) := HHB.out
          clear ho HHB hsn hos hoc hp hcx
          simp only [List.length_cons, List.length_nil]
          go_wp2_with (at_builtin; go_must (refine wpList_append_own _ rfl _ _ 25 rfl w.heap.size 3 i0 (.int .i64 0) 1 8 Tryz.underlying25 hi hz0 hz1 hz2 rfl (by decide) _ _ _ rfl (HO.out.alloc _) ⟨wr.heap.size, 0, none⟩ 1 1 [.int .i64 (x : Nat)] rfl rfl ?c1 ?c2 ?c3 ?c4 ?c5 ?_))
          case c1 =>
            intro j u hj
            match j, hj with
            | 0, hj => simp at hj; subst hj; simp [Addr.add]
          case c2 => intro u hu; simp at hu; subst hu; rfl
          case c3 => unfold maxLen; simp
          case c4 => simp
          case c5 => have := HB.out.size; simp; omega
          intro v' w3 hown' hgrow _
          have R := chain_step (os := os) (k := k) hkl HX.out HST.out HP.out rfl HO.out HB.out hown' hgrow
          clear hown' hgrow
          have HR := hid R
          clear R
          go_wp2
          go_roundw
          case rel => exact ⟨k + 1, by omega, by go_num, HR.out.1, HR.out.2⟩
          case measure => simp [intOf]; omega
        ·
          obtain ⟨g, cp, hv6, hgb, hglt, hcp⟩ := ownsRow_shape ho (by simp)
          subst hv6
          have hc1 : wr.cell? ⟨g, r.length, none⟩ = some (.int .i64 (b : Nat)) := by
            rw [ho.cellAt _ (by simp; omega)]; simp [encN]
          have hc2 : wr.cell? ⟨g, r.length + 1, none⟩ = some (.int .i64 (l : Nat)) := by
            rw [ho.cellAt _ (by simp)]; simp [encN]
          have hcon := turnsLeft_any px py n pb po cap g r.length cp b l x wr (hp.below HHB.out hp.lt) (hsn _ (by simp)) (hsn _ (by simp)) hxn (by simp at hsl; omega) hc1 hc2
          have hpopE : popS (T px py) x (l :: b :: r) = if 0 < T px py b l x then l :: b :: r else popS (T px py) x (b :: r) := rfl
          by_cases hT : 0 < T px py b l x
          · have HPOP : Hid (popS (T px py) x (l :: b :: r) = l :: b :: r) := by
              show _ = _
              rw [hpopE, if_pos hT]
            rw [decide_eq_true hT] at hcon
            have HO : Hid (wr.ownsRow w.heap.size 3 1 (.slice (some ⟨g, 0, none⟩) (r.length + 2) cp) (r.length + 2) ((l :: b :: r).reverse.map encN)) := ho
            have HB : Hid (Below w.heap.size w wr) := HHB.out
            have hrl : r.length + 2 ≤ k := hsl
            clear hpopE ho HHB hsn hos hoc hp hcx hc1 hc2 hT hsl
            have HC := hid hcon
            clear hcon
            simp only [List.length_cons]
            have hge : decide ((2 : Int) ≤ ((r.length + 2 : Nat) : Int)) = true := by simp; omega
            go_wp2_with fail
            refine HC.out.mono ?_
            rintro e w' ⟨rfl, q, rfl⟩
            have HO' : Hid ((wr.drewN q).ownsRow w.heap.size 3 1 (.slice (some ⟨g, 0, none⟩) (r.length + 2) cp) (r.length + 2) ((l :: b :: r).reverse.map encN)) := HO.out
            have HB' : Hid (Below w.heap.size w (wr.drewN q)) := below_drewN HB.out q
            clear HO HB HC
            generalize wr.drewN q = wr' at *
            go_wp2_with (at_builtin; go_must (refine wpList_append_own _ rfl _ _ 25 rfl w.heap.size 3 i0 (.int .i64 0) 1 8 Tryz.underlying25 hi hz0 hz1 hz2 rfl (by decide) _ _ _ rfl (HO'.out.alloc _) ⟨wr'.heap.size, 0, none⟩ 1 1 [.int .i64 (x : Nat)] rfl rfl ?c1 ?c2 ?c3 ?c4 ?c5 ?_))
            case c1 =>
              intro j u hj
              match j, hj with
              | 0, hj => simp at hj; subst hj; simp [Addr.add]
            case c2 => intro u hu; simp at hu; subst hu; rfl
            case c3 => unfold maxLen; omega
            case c4 => omega
            case c5 => have := HB'.out.size; simp; omega
            intro v' w3 hown' hgrow _
            have hown2 : w3.ownsRow w.heap.size 3 1 v' ((l :: b :: r).length + 1) (List.map encN (l :: b :: r).reverse ++ [Value.int .i64 (x : Nat)]) := by simpa using hown'
            have R := chain_step (os := os) (k := k) hkl HX.out HST.out HP.out HPOP.out HO'.out HB'.out hown2 hgrow
            clear hown' hown2 hgrow
            have HR := hid R
            clear R
            go_wp2
            go_roundw
            case rel => exact ⟨k + 1, by omega, by go_num, HR.out.1, HR.out.2⟩
            case measure => simp [intOf]; omega
          · have HPOP : Hid (popS (T px py) x (l :: b :: r) = popS (T px py) x (b :: r)) := by
              show _ = _
              rw [hpopE, if_neg hT]
            rw [decide_eq_false hT] at hcon
            have hcpb : r.length + 2 ≤ cp := hcp
            have HO : Hid (wr.ownsRow w.heap.size 3 1 (.slice (some ⟨g, 0, none⟩) (r.length + 1) cp) (r.length + 1) ((b :: r).reverse.map encN)) := by
              have h := ho
              rw [List.reverse_cons, List.map_append] at h
              exact ownsRow_pop (by simp) h
            have HB : Hid (Below w.heap.size w wr) := HHB.out
            have HSN : Hid (∀ y ∈ b :: r, y < n) := fun y hy => hsn y (List.mem_cons_of_mem _ hy)
            have hrl : r.length + 2 ≤ k := hsl
            clear hpopE ho HHB hsn hos hoc hp hcx hc1 hc2 hT hsl hcp
            have HC := hid hcon
            clear hcon
            simp only [List.length_cons]
            have hge : decide ((2 : Int) ≤ ((r.length + 2 : Nat) : Int)) = true := by simp; omega
            go_wp2_with fail
            refine HC.out.mono ?_
            rintro e w' ⟨rfl, q, rfl⟩
            go_wp2
            go_roundw
            case rel => exact ⟨b :: r, HPOP.out.symm.trans HP.out, by simp; omega, HSN.out, HO.out, below_drewN HB.out q⟩
            case measure => simp [lenOf]
    · have hkl : k = len := by omega
      subst hkl
      have HO : Hid (wr.ownsRow w.heap.size 3 1 u5 (stk (T px py) os).length ((stk (T px py) os).reverse.map encN)) := by
        have h := ho
        rw [HL.out, List.take_length] at h
        exact h
      have HB : Hid (Below w.heap.size w wr) := hb
      clear ho hb
      go_wp2
      go_ret
      exact ⟨_, rfl, HB.out, HO.out⟩
end Go.Proofs.YtdbebbbceeopaaaGreat

namespace Go.Proofs.YtdbebbbceeopaaaGreat
open Go.RowKit
open Flt (Is)

/-- A row of points: block qb, from qo on, n of them, two cells each. -/
structure Pts (w : World) (qb qo n : Nat) (px py : Nat → Int) : Prop where
  lt : qb < w.heap.size
  x : ∀ i, i < n → w.cell? ⟨qb, qo + i * 2, none⟩ = some (.int .i64 (px i))
  y : ∀ i, i < n → w.cell? ⟨qb, qo + i * 2 + 1, none⟩ = some (.int .i64 (py i))

theorem Pts.below {w w' : World} {B qb qo n : Nat} {px py : Nat → Int} (h : Pts w qb qo n px py) (hb : Below B w w') (hB : qb < B) : Pts w' qb qo n px py :=
  ⟨Nat.lt_of_lt_of_le h.lt hb.size, fun i hi => by rw [hb.cell (by exact hB)]; exact h.x i hi, fun i hi => by rw [hb.cell (by exact hB)]; exact h.y i hi⟩

/-- All of the first n points in bounds. -/
def allB (px py : Nat → Int) : Nat → Bool
  | 0 => true
  | n + 1 => allB px py n && (nearB (px n) && nearB (py n))

theorem allB_iff (px py : Nat → Int) (n : Nat) : allB px py n = true ↔ ∀ i, i < n → nearB (px i) = true ∧ nearB (py i) = true := by
  induction n with
  | zero => simp [allB]
  | succ n ih =>
    simp only [allB, Bool.and_eq_true, ih]
    constructor
    · rintro ⟨h1, h2⟩ i hi
      by_cases e : i = n
      · subst e; exact h2
      · exact h1 i (by omega)
    · intro h
      exact ⟨fun i hi => h i (by omega), h n (by omega)⟩

theorem allB_false (px py : Nat → Int) (n k : Nat) (hk : k < n) (h : (nearB (px k) && nearB (py k)) = false) : allB px py n = false := by
  cases h' : allB px py n with
  | false => rfl
  | true =>
    have := (allB_iff px py n).1 h' k hk
    rw [this.1, this.2] at h
    cases h

set_option maxRecDepth 100000 in
set_option maxHeartbeats 1000000 in
theorem allInBounds_any (px py : Nat → Int) (n qb qo cap : Nat) (w : World) (hp : Pts w qb qo n px py) (hn : n ≤ 40) :
    Calls Tryz.prog 58 #[.slice (some ⟨qb, qo, none⟩) n cap] w fun e w' => e = .returned (.bool (allB px py n)) ∧ Below w.heap.size w w' := by
  have HP := hid hp
  clear hp
  go_enter Tryz.func58, Tryz.ntmps58
  go_wp2
  go_loopw [7] (fun i wr => ∃ k : Nat, k ≤ n ∧ i = .int .i64 k ∧ allB px py k = true ∧ Below w.heap.size w wr) (fun i _ => n - (intOf i).toNat)
  case atStart => exact ⟨0, Nat.zero_le _, rfl, rfl, Below.refl _ _⟩
  case round =>
    obtain ⟨k, hk, rfl, ha, hb⟩ := hrel
    have HB := hid hb
    have HA := hid ha
    clear hb ha
    by_cases hlt : k < n
    · have hpw := HP.out.below HB.out HP.out.lt
      have hx := hpw.x k hlt
      have hy := hpw.y k hlt
      have hblt := hpw.lt
      have hlt' : (k : Int) < n := by omega
      have hc := inBounds_any (px k) (py k)
      cases hr : (nearB (px k) && nearB (py k))
      · rw [hr] at hc
        have HC := hid hc
        have HR := hid hr
        clear hpw hc hr
        go_wp2_with fail
        refine (HC.out _).mono ?_
        rintro e w' ⟨rfl, hb'⟩
        have HB' := hid hb'
        clear hb'
        go_wp2_with fail
        go_ret
        exact ⟨by rw [allB_false _ _ _ k hlt HR.out]; rfl, (HB.out.alloc HB.out.size _).trans (HB'.out.mono (by have := HB.out.size; simp; omega))⟩
      · rw [hr] at hc
        have HC := hid hc
        have HR := hid hr
        clear hpw hc hr
        go_wp2_with fail
        refine (HC.out _).mono ?_
        rintro e w' ⟨rfl, hb'⟩
        have HB' := hid hb'
        clear hb'
        go_wp2_with fail
        go_roundw
        case rel => exact ⟨k + 1, by omega, by go_num, by rw [allB, HA.out, HR.out]; rfl, (HB.out.alloc HB.out.size _).trans (HB'.out.mono (by have := HB.out.size; simp; omega))⟩
        case measure => simp [intOf]; omega
    · have : k = n := by omega
      subst this
      go_wp2
      go_ret
      exact ⟨by rw [HA.out]; rfl, HB.out⟩

theorem owns_below {w w' : World} {base : Nat} {e : TypeId} {size : Nat} {v : Value} {n : Nat} {xs : List Value} (h : w.ownsRow base e size v n xs) (hb : Below w.heap.size w w') : w'.ownsRow base e size v n xs := by
  refine ⟨h.1, ?_⟩
  rcases h.2 with h2 | ⟨g, cap, cur, h1, h2, h3, h4⟩
  · exact .inl h2
  · exact .inr ⟨g, cap, cur, h1, h2, by rw [hb.block g (Array.getElem?_eq_some_iff.1 h3).1]; exact h3, h4⟩

def cx (x y : Int) : Value := .complex .f64 (floatOfInt .f64 x) (floatOfInt .f64 y)

def placed (px py : Nat → Int) (n k : Nat) : List Value := (List.range n).map fun j => if j < k then cx (px j) (py j) else .complex .f64 0 0

theorem placed_set (px py : Nat → Int) (n k : Nat) : (placed px py n k).set k (cx (px k) (py k)) = placed px py n (k + 1) := by
  apply List.ext_getElem?
  intro j
  unfold placed
  rw [List.getElem?_set]
  by_cases h : k = j
  · subst h
    by_cases hk : k < n
    · simp [hk]
    · simp [hk]
  · simp only [h, if_false, List.getElem?_map]
    by_cases hj : j < n
    · simp [hj, show (j < k) = (j < k + 1) from by simp; omega]
    · simp [hj]

theorem placed_zero (px py : Nat → Int) (n : Nat) : (madeCells (Value.complex .f64 0 0).cells (n * 1)).toList = placed px py n 0 := by
  unfold madeCells placed
  simp [Value.cells, Nat.mod_one]

theorem plc_of {w : World} {base g n : Nat} {px py : Nat → Int} (h : w.ownsRow base 94 1 (.slice (some ⟨g, 0, none⟩) n n) n (placed px py n n)) (hg : g < w.heap.size) (hbd : ∀ i, i < n → (-1000 ≤ px i ∧ px i ≤ 1000) ∧ (-1000 ≤ py i ∧ py i ≤ 1000)) : Plc w g 0 n px py := by
  refine ⟨hg, fun i hi => ?_, hbd⟩
  obtain ⟨h1, h2⟩ := hbd i hi
  refine ⟨floatOfInt .f64 (px i), floatOfInt .f64 (py i), ?_, Flt.Is.ofInt (by omega) (by omega), Flt.Is.ofInt (by omega) (by omega)⟩
  rw [Nat.zero_add, h.cellAt i (by omega)]
  simp [placed, hi, cx]

set_option maxRecDepth 100000 in
set_option maxHeartbeats 1000000 in
theorem places_any (px py : Nat → Int) (n qb qo cap : Nat) (w : World) (hp : Pts w qb qo n px py) (hn : n ≤ 40) (hbd : ∀ i, i < n → (-1000 ≤ px i ∧ px i ≤ 1000) ∧ (-1000 ≤ py i ∧ py i ≤ 1000)) :
    Calls Tryz.prog 35 #[.slice (some ⟨qb, qo, none⟩) n cap] w fun e w' => e = .returned (.slice (some ⟨w.heap.size, 0, none⟩) n n) ∧ Below w.heap.size w w' ∧ Plc w' w.heap.size 0 n px py := by
  have HP := hid hp
  obtain ⟨i0, hi, hz0, hz1, hz2⟩ := info_parts Tryz.info94
  clear hp
  have HBD := hid hbd
  clear hbd
  go_enter Tryz.func35, Tryz.ntmps35
  go_wp2_with (at_make; refine wpList_make_full _ rfl (.tmp 7) (.tmp 7) 68 rfl w.heap.size 94 i0 (.complex .f64 0 0) 1 Tryz.underlying68 hi hz0 hz1 .i64 .i64 _ _ n rfl rfl rfl rfl (by rw [hz2]; omega) (by unfold maxLen; omega) (Nat.le_refl _) ?_; intro w2 hown hgrow)
  have hown1 : w2.ownsRow w.heap.size 94 1 (.slice (some ⟨w.heap.size, 0, none⟩) n n) n (placed px py n 0) := by
    rw [← placed_zero]; simpa using hown
  have hb2 : Below w.heap.size w w2 := (Below.refl _ _).grown hgrow (Nat.le_refl _) (fun k hk => by cases hk)
  clear hown hgrow
  have H1 := hid hown1
  have H2 := hid hb2
  clear hown1 hb2
  go_loopw [11] (fun i wr => ∃ k : Nat, k ≤ n ∧ i = .int .i64 k ∧ wr.ownsRow w.heap.size 94 1 (.slice (some ⟨w.heap.size, 0, none⟩) n n) n (placed px py n k) ∧ Below w.heap.size w wr)
    (fun i _ => n - (intOf i).toNat)
  case atStart => exact ⟨0, Nat.zero_le _, rfl, H1.out, H2.out⟩
  case round =>
    obtain ⟨k, hk, rfl, ho, hb⟩ := hrel
    clear H1 H2
    by_cases hlt : k < n
    · have hpw := HP.out.below hb HP.out.lt
      have hx := hpw.x k hlt
      have hy := hpw.y k hlt
      have hblt := hpw.lt
      have hlt' : (k : Int) < n := by omega
      have HC := hid (place_any (px k) (py k))
      have HO := hid ho
      have HB := hid hb
      clear hpw ho hb
      go_wp2_with fail
      refine (HC.out _).mono ?_
      rintro e w3 ⟨rfl, hb'⟩
      have ho3 := owns_below (HO.out.alloc _) hb'
      have hcl := ho3.cellAt k (by omega)
      have hfr := ho3.frozenAt k
      obtain ⟨v0, hv0⟩ : ∃ v0, (placed px py n k)[k]? = some v0 := by simp [placed, hlt]
      rw [hv0] at hcl
      have HS := ho3.stored k (cx (px k) (py k))
      rw [placed_set] at HS
      have HS' := hid HS.1
      have HB3 := hid ((HB.out.alloc HB.out.size _).trans (hb'.mono (by have := HB.out.size; simp; omega)))
      clear HS hb' ho3 hv0 HO HB HC hx hy
      unfold cx at HS'
      generalize floatOfInt .f64 (px k) = fx at *
      generalize floatOfInt .f64 (py k) = fy at *
      have hst : ∀ (a : Addr) (m : Mode) (w : World), (store a (.complex .f64 fx fy) m).run Tryz.prog w = stored Tryz.prog w a (.complex .f64 fx fy) m := fun a m w => run_store Tryz.prog w a _ m rfl
      go_wp2
      go_roundw
      case rel => exact ⟨k + 1, by omega, by go_num, HS'.out, HB3.out.setCell (by simp) _⟩
      case measure => simp [intOf]; omega
    · have hkn : k = n := by omega
      subst hkn
      have hsz : w.heap.size < wr.heap.size := by
        rcases ho.2 with ⟨h', _⟩ | ⟨g', cap', cur, h', _, hg, _⟩
        · cases h'
        · simp only [Value.slice.injEq, Option.some.injEq, Addr.mk.injEq, and_true, true_and] at h'
          obtain ⟨rfl, rfl⟩ := h'
          exact (Array.getElem?_eq_some_iff.1 hg).1
      have HR := hid (And.intro hb (plc_of ho hsz HBD.out))
      clear ho hb
      go_wp2
      go_ret
      exact ⟨rfl, HR.out.1, HR.out.2⟩
end Go.Proofs.YtdbebbbceeopaaaGreat

namespace Go.Proofs.YtdbebbbceeopaaaGreat
open Go.RowKit Go.Shelf Go.Lib
open Flt (Is)

def encPt (x : Int × Int) : List Value := [.int .i64 x.1, .int .i64 x.2]

theorem eqPt : EqlAt Tryz.prog 35 (fun x => .agg (encPt x).toArray) (fun x y => x.1 == y.1 && x.2 == y.2) := by
  refine ⟨fun x y w => ?_, GuardAt.agg _ (by kernel_rfl)⟩
  have u3 := Tryz.underlying3
  have a3 := Tryz.isAgg3
  have z3 := Tryz.sizeOf3
  have hS : Tryz.prog.underlying 35 = some (.struct (Tryz.prog.fieldsOf 35)) := by kernel_rfl
  have hp : Tryz.prog.stoodInHeld 35 = false := by kernel_rfl
  simp only [encPt]
  rw [run_eql_struct, show (10000 : Nat) = 9999 + 1 from rfl, run_equalIn_agg w 9999 35 _ _ hS hp]
  simp only [Program.fieldsOf, Tryz.underlying35]
  go_simp
  by_cases h1 : x.fst = y.fst <;> by_cases h2 : x.snd = y.snd <;> simp [h1, h2]

/-- Is the point numbered i one of those ahead of it? -/
def twiceAt (px py : Nat → Int) (i : Nat) : Bool := (List.range i).any fun j => px i == px j && py i == py j

/-- Is one of the first n points one of those ahead of it? -/
def twB (px py : Nat → Int) : Nat → Bool
  | 0 => false
  | k + 1 => twB px py k || twiceAt px py k

theorem twiceAt_iff (px py : Nat → Int) (i : Nat) : twiceAt px py i = true ↔ ∃ j, j < i ∧ px i = px j ∧ py i = py j := by
  simp [twiceAt]

theorem twB_iff (px py : Nat → Int) (n : Nat) : twB px py n = true ↔ ∃ i, i < n ∧ twiceAt px py i = true := by
  induction n with
  | zero => simp [twB]
  | succ n ih =>
    simp only [twB, Bool.or_eq_true, ih]
    constructor
    · rintro (⟨i, h1, h2⟩ | h)
      · exact ⟨i, by omega, h2⟩
      · exact ⟨n, by omega, h⟩
    · rintro ⟨i, h1, h2⟩
      by_cases e : i = n
      · subst e; exact Or.inr h2
      · exact Or.inl ⟨i, by omega, h2⟩

theorem contains_any (px py : Nat → Int) (n qb qo cap i : Nat) (hi : i < n) (w : World) (hp : Pts w qb qo n px py) (hn : n ≤ 40) :
    Calls Tryz.prog 91 #[.slice (some ⟨qb, qo, none⟩) i cap, .agg #[.int .i64 (px i), .int .i64 (py i)]] w fun e w' => e = .returned (.bool (twiceAt px py i)) ∧ Below w.heap.size w w' := by
  have h := AnyQ.slices_Contains Tryz.containsL 2 Tryz.isAgg35 Tryz.sizeOf35 encPt (fun _ => rfl) _ eqPt qb qo i cap ((List.range n).map fun j => (px j, py j)) (px i, py i) w (by simp; omega) (by omega) (by
    intro j hj c v hc
    have hj' : j < n := by simpa using hj
    have e : ((List.range n).map fun j => (px j, py j))[j]! = (px j, py j) := by simp [hj']
    rw [e] at hc
    match c, hc with
    | 0, hc => simp [encPt] at hc; subst hc; exact hp.x j hj'
    | 1, hc => simp [encPt] at hc; subst hc; exact hp.y j hj'
    | c + 2, hc => simp [encPt] at hc)
  change Calls Tryz.prog 91 _ _ _ at h
  refine h.mono ?_
  rintro e w' ⟨rfl, hb⟩
  refine ⟨?_, hb⟩
  congr 2
  unfold twiceAt
  rw [← List.map_take, List.take_range, List.any_map, Nat.min_eq_left (by omega)]
  rfl

set_option maxRecDepth 100000 in
set_option maxHeartbeats 1000000 in
theorem hasTwice_any (px py : Nat → Int) (n qb qo cap : Nat) (w : World) (hp : Pts w qb qo n px py) (hn : n ≤ 40) (hcap : n ≤ cap) :
    Calls Tryz.prog 59 #[.slice (some ⟨qb, qo, none⟩) n cap] w fun e w' => e = .returned (.bool (twB px py n)) ∧ Below w.heap.size w w' := by
  have HP := hid hp
  clear hp
  go_enter Tryz.func59, Tryz.ntmps59
  go_wp2
  go_loopw [7] (fun i wr => ∃ k : Nat, k ≤ n ∧ i = .int .i64 k ∧ twB px py k = false ∧ Below w.heap.size w wr) (fun i _ => n - (intOf i).toNat)
  case atStart => exact ⟨0, Nat.zero_le _, rfl, rfl, Below.refl _ _⟩
  case round =>
    obtain ⟨k, hk, rfl, ha, hb⟩ := hrel
    have HB := hid hb
    have HA := hid ha
    clear hb ha
    by_cases hlt : k < n
    · have hpw := HP.out.below HB.out HP.out.lt
      have hx := hpw.x k hlt
      have hy := hpw.y k hlt
      have hblt := hpw.lt
      have hlt' : (k : Int) < n := by omega
      have hkc : (k : Int) ≤ cap := by omega
      have hkc' : k ≤ cap := by omega
      have hc0 : ¬ cap = 0 := by omega
      have y1 : IntKind.i64.wrap (k : Int) = k := by rw [IntKind.wrap_i64]; omega
      have HC := hid (fun wq (hb : Below wr.heap.size wr wq) => contains_any px py n qb qo cap k hlt wq (hpw.below hb hpw.lt) hn)
      clear hpw
      cases hr : twiceAt px py k
      · rw [hr] at HC
        have HR := hid hr
        clear hr
        go_wp2
        go_region_with (go_at_call 91; go_must (refine (HC.out _ ?_).mono ?_; exact ((Below.refl _ _).alloc (Nat.le_refl _) _).drew; rintro e w' ⟨rfl, hb'⟩; have HB' := hid hb'; clear hb'))
        go_wp2
        go_roundw
        case rel => exact ⟨k + 1, by omega, by go_num, by rw [twB, HA.out, HR.out]; rfl, (HB.out.alloc HB.out.size _).drew.trans (HB'.out.mono (by have := HB.out.size; show _ ≤ (wr.alloc _).heap.size; simp; omega))⟩
        case measure => simp [intOf]; omega
      · rw [hr] at HC
        have HR := hid hr
        clear hr
        go_wp2
        go_region_with (go_at_call 91; go_must (refine (HC.out _ ?_).mono ?_; exact ((Below.refl _ _).alloc (Nat.le_refl _) _).drew; rintro e w' ⟨rfl, hb'⟩; have HB' := hid hb'; clear hb'))
        go_wp2
        go_ret
        exact ⟨by rw [(twB_iff px py n).2 ⟨k, hlt, HR.out⟩]; rfl, (HB.out.alloc HB.out.size _).drew.trans (HB'.out.mono (by have := HB.out.size; show _ ≤ (wr.alloc _).heap.size; simp; omega))⟩
    · have : k = n := by omega
      subst this
      go_wp2
      go_ret
      exact ⟨by rw [HA.out]; rfl, HB.out⟩
end Go.Proofs.YtdbebbbceeopaaaGreat

namespace Go.Proofs.YtdbebbbceeopaaaGreat
open Go.RowKit Go.Shelf
open Go.Sort (grow Holds putRow SWO PermIn SortedIn alloc_eq_grow cell?_grow cell?_putRow_other)
open Flt (Is)

theorem grow_any (n : Nat) (w : World) (h0 : 0 < n) (hn : n ≤ 1000) :
    Calls Tryz.prog 96 #[.slice none 0 0, .int .i64 n] w fun e w' => ∃ v, e = .returned v ∧ Below w.heap.size w w' ∧ w'.ownsRow w.heap.size 3 1 v 0 [] := by
  obtain ⟨i0, hi, hz0, hz1, hz2⟩ := info_parts Tryz.info3
  have h := Any8.slices_Grow_grow Tryz.growL i0 (.int .i64 0) hi hz0 (by omega) none 0 0 n [] w (Nat.le_refl _) (by omega) (by rw [hz2]; omega) (by omega) (by simp) (fun _ => rfl) (fun a ha => by cases ha)
  change Calls Tryz.prog 96 _ _ _ at h
  refine h.mono ?_
  rintro e w' ⟨rfl, rfl⟩
  have hge := grownCap_ge w (0 + n) 0 (Tryz.growL_ren.t 25)
  have hle := grownCap_le_maxLen w (0 + n) 0 (Tryz.growL_ren.t 25) (by unfold maxLen; omega)
  refine ⟨_, rfl, (Below.refl _ _).drew.alloc (Nat.le_refl _) _, rfl, .inr ⟨_, _, _, rfl, Nat.le_refl _, heap_alloc_new w.drew _, Nat.zero_le _, hle, ?_, by simp⟩⟩
  simp only [Array.size_append, size_zeroCells]
  show _ + _ * 1 + _ * 1 = _
  simp at hge ⊢
  omega

theorem addr_add0 (g j : Nat) : (⟨g, 0, none⟩ : Addr).add j = ⟨g, j, none⟩ := by
  unfold Addr.add
  split
  · rename_i h; subst h; rfl
  · simp

theorem own_ge {w : World} {base : Nat} {v : Value} {n : Nat} {xs : List Value} (h : w.ownsRow base 3 1 v n xs) : ∀ k, v.ownBlock = some k → base ≤ k := by
  intro k hk
  rcases h.2 with ⟨rfl, _⟩ | ⟨g', cap', cur, rfl, hbg, _⟩
  · cases hk
  · cases hk; exact hbg

set_option maxRecDepth 100000 in
set_option maxHeartbeats 2000000 in
theorem concat_any (w : World) (sb g1 g2 c1 c2 : Nat) (xs ys : List Nat) (hx : 0 < xs.length) (hy : 0 < ys.length) (hx' : xs.length ≤ 100) (hy' : ys.length ≤ 100) (hsb : sb < w.heap.size) (hg1 : g1 < w.heap.size) (hg2 : g2 < w.heap.size)
    (h1 : w.cell? ⟨sb, 0, none⟩ = some (.slice (some ⟨g1, 0, none⟩) xs.length c1)) (h2 : w.cell? ⟨sb, 1, none⟩ = some (.slice (some ⟨g2, 0, none⟩) ys.length c2))
    (hcx : ∀ j, (hj : j < xs.length) → w.cell? ⟨g1, j, none⟩ = some (encN xs[j])) (hcy : ∀ j, (hj : j < ys.length) → w.cell? ⟨g2, j, none⟩ = some (encN ys[j])) :
    Calls Tryz.prog 64 #[.slice (some ⟨sb, 0, none⟩) 2 2] w fun e w' => ∃ v, e = .returned v ∧ Below w.heap.size w w' ∧ w'.ownsRow w.heap.size 3 1 v (xs.length + ys.length) ((xs ++ ys).map encN) := by
  obtain ⟨i0, hi, hz0, hz1, hz2⟩ := info_parts Tryz.info3
  have HCX := hid hcx
  have HCY := hid hcy
  clear hcx hcy
  obtain ⟨n1, hn1⟩ : ∃ n1, n1 = xs.length := ⟨_, rfl⟩
  obtain ⟨n2, hn2⟩ : ∃ n2, n2 = ys.length := ⟨_, rfl⟩
  have HN1 := hid hn1
  have HN2 := hid hn2
  rw [← hn1] at h1 hx hx'
  rw [← hn2] at h2 hy hy'
  rw [← hn1, ← hn2]
  clear hn1 hn2
  have hgr := hid (grow_any (n1 + n2) w (by omega) (by omega))
  go_enter Tryz.func64, Tryz.ntmps64
  go_wp2
  refine wp_loop_rounds 3 ?_
  rw [rounds_succ]
  go_wp2
  rw [rounds_succ]
  go_wp2
  rw [rounds_succ]
  go_wp2_with fail
  refine (hgr.out).mono ?_
  rintro e w1 ⟨v, rfl, hb, ho⟩
  have k1 : w1.cell? ⟨sb, 0, none⟩ = some (.slice (some ⟨g1, 0, none⟩) n1 c1) := (hb.cell (by exact hsb)).trans h1
  have k2 : w1.cell? ⟨sb, 1, none⟩ = some (.slice (some ⟨g2, 0, none⟩) n2 c2) := (hb.cell (by exact hsb)).trans h2
  have HB := hid hb
  have HO := hid ho
  clear hb ho hgr h1 h2
  go_wp2
  refine wp_loop_rounds 3 ?_
  rw [rounds_succ]
  go_wp2_with (at_builtin; go_must (refine wpList_append_own _ rfl (.tmp 31) (.tmp 32) 25 rfl w.heap.size 3 i0 (.int .i64 0) 1 8 Tryz.underlying25 hi hz0 hz1 hz2 rfl (by decide) v 0 [] rfl HO.out ⟨g1, 0, none⟩ n1 c1 (xs.map encN) rfl (by rw [List.length_map, ← HN1.out]; omega) ?c1 ?c2 ?c3 ?c4 ?c5 ?_))
  case c1 =>
    intro j u hj
    rw [List.getElem?_map, Option.map_eq_some_iff] at hj
    obtain ⟨y, hy1, rfl⟩ := hj
    obtain ⟨hl, rfl⟩ := List.getElem?_eq_some_iff.1 hy1
    have := (HB.out.cell (p := ⟨g1, j, none⟩) (by exact hg1)).trans (HCX.out j hl)
    rw [addr_add0]; exact this
  case c2 => intro u hu; rw [List.mem_map] at hu; obtain ⟨y, _, rfl⟩ := hu; rfl
  case c3 => unfold maxLen; omega
  case c4 => omega
  case c5 => exact HB.out.size
  intro v2 w2 ho2 hg2' _
  have hb2 : Below w.heap.size w w2 := HB.out.grown hg2' HB.out.size (own_ge HO.out)
  have k3 : w2.cell? ⟨sb, 1, none⟩ = some (.slice (some ⟨g2, 0, none⟩) n2 c2) := (hb2.cell (by exact hsb)).trans ((HB.out.cell (by exact hsb)).symm.trans k2)
  have HB2 := hid hb2
  have HO2 := hid ho2
  clear hb2 ho2 hg2' HO HB k1 k2
  go_wp2
  rw [rounds_succ]
  go_wp2_with (at_builtin; go_must (refine wpList_append_own _ rfl (.tmp 31) (.tmp 32) 25 rfl w.heap.size 3 i0 (.int .i64 0) 1 8 Tryz.underlying25 hi hz0 hz1 hz2 rfl (by decide) v2 n1 _ rfl HO2.out ⟨g2, 0, none⟩ n2 c2 (ys.map encN) rfl (by rw [List.length_map, ← HN2.out]; omega) ?c1' ?c2' ?c3' ?c4' ?c5' ?_))
  case c1' =>
    intro j u hj
    rw [List.getElem?_map, Option.map_eq_some_iff] at hj
    obtain ⟨y, hy1, rfl⟩ := hj
    obtain ⟨hl, rfl⟩ := List.getElem?_eq_some_iff.1 hy1
    have := (HB2.out.cell (p := ⟨g2, j, none⟩) (by exact hg2)).trans (HCY.out j hl)
    rw [addr_add0]; exact this
  case c2' => intro u hu; rw [List.mem_map] at hu; obtain ⟨y, _, rfl⟩ := hu; rfl
  case c3' => unfold maxLen; omega
  case c4' => omega
  case c5' => exact HB2.out.size
  intro v3 w3 ho3 hg3' _
  have hb3 : Below w.heap.size w w3 := HB2.out.grown hg3' HB2.out.size (own_ge HO2.out)
  have ho4 : w3.ownsRow w.heap.size 3 1 v3 (n1 + n2) ((xs ++ ys).map encN) := by simpa using ho3
  have HB3 := hid hb3
  have HO3 := hid ho4
  clear hb3 ho3 ho4 hg3' HO2 HB2 k3
  go_wp2
  rw [rounds_succ]
  go_wp2
  go_ret
  exact ⟨_, rfl, HB3.out, HO3.out⟩
theorem leftTurns_len (px py : Nat → Int) (n pb po cap ob ocap len : Nat) (os : List Nat) (hlen : os.length = len) (w : World) (hp : Plc w pb po n px py) (hol : len ≤ 40) (hos : ∀ y ∈ os, y < n) (hob : ob < w.heap.size)
    (hoc : ∀ j, (hj : j < os.length) → w.cell? ⟨ob, j, none⟩ = some (.int .i64 (os[j] : Nat))) :
    Calls Tryz.prog 62 #[.slice (some ⟨pb, po, none⟩) n cap, .slice (some ⟨ob, 0, none⟩) len ocap] w fun e w' =>
      ∃ v, e = .returned v ∧ Below w.heap.size w w' ∧ w'.ownsRow w.heap.size 3 1 v (stk (T px py) os).length ((stk (T px py) os).reverse.map encN) := by
  subst hlen
  exact leftTurns_any px py n pb po cap ob ocap os w hp hol hos hob hoc

/-- The numbers that a row holds. -/
def nums {n : Nat} (d : Array (Fin n)) : List Nat := d.toList.map Fin.val

theorem nums_cell {n : Nat} [NeZero n] {w : World} {g : Nat} {d : Array (Fin n)} (h : Holds encF w g 0 d) : ∀ j, (hj : j < (nums d).length) → w.cell? ⟨g, j, none⟩ = some (.int .i64 ((nums d)[j] : Nat)) := by
  intro j hj
  have hj' : j < d.size := by simpa [nums] using hj
  have := (h j hj').1
  rw [Nat.zero_add] at this
  rw [this]
  simp [encF, nums, hj']

theorem nums_lt {n : Nat} (d : Array (Fin n)) : ∀ y ∈ nums d, y < n := by
  intro y hy
  simp only [nums, List.mem_map] at hy
  obtain ⟨i, _, rfl⟩ := hy
  exact i.isLt

theorem nums_len {n : Nat} (d : Array (Fin n)) : (nums d).length = d.size := by simp [nums]

theorem nums_rev {n : Nat} (d : Array (Fin n)) : nums d.reverse = (nums d).reverse := by simp [nums]

theorem holds_below {n : Nat} [NeZero n] {w w' : World} {g B : Nat} {d : Array (Fin n)} (h : Holds encF w g 0 d) (hb : Below B w w') (hg : g < B) : Holds encF w' g 0 d := by
  intro j hj
  have := h j hj
  exact ⟨(hb.cell (by exact hg)).trans this.1, (hb.frozen (by exact hg)).trans this.2⟩

theorem stk_le (t : Nat → Nat → Nat → Int) (os : List Nat) : (stk t os).length ≤ os.length := by
  have := stk_len t os os.length (Nat.le_refl _)
  rwa [List.take_length] at this

theorem stk_two (t : Nat → Nat → Nat → Int) (os : List Nat) (h : 2 ≤ os.length) : 2 ≤ (stk t os).length := by
  rcases List.eq_nil_or_concat os with rfl | ⟨r, x, rfl⟩
  · simp at h
  · rw [List.concat_eq_append] at *
    rcases List.eq_nil_or_concat r with rfl | ⟨r', y, rfl⟩
    · simp at h
    · rw [List.concat_eq_append, stk_snoc, stk_snoc]
      have : ∀ s, 0 < (popS t x (y :: s)).length := by
        intro s
        induction s generalizing y with
        | nil => simp [popS]
        | cons b r ih =>
          unfold popS
          split
          · simp
          · exact ih b (by simp)
      have := this (popS t y (stk t r'))
      simp only [List.length_cons]
      omega

theorem row_of_owns {w : World} {base : Nat} {v : Value} {n : Nat} {xs : List Nat} (h : w.ownsRow base 3 1 v n (xs.map encN)) (hn : 0 < n) :
    ∃ g cap, v = .slice (some ⟨g, 0, none⟩) n cap ∧ base ≤ g ∧ g < w.heap.size ∧ n ≤ cap ∧ xs.length = n ∧ ∀ j, (hj : j < xs.length) → w.cell? ⟨g, j, none⟩ = some (encN xs[j]) := by
  obtain ⟨g, cap, rfl, hb, hg, hc⟩ := ownsRow_shape h hn
  have hl : xs.length = n := by simpa using h.1
  refine ⟨g, cap, rfl, hb, hg, hc, hl, fun j hj => ?_⟩
  rw [h.cellAt j (by omega)]
  simp [hj]

theorem owns_base {w : World} {b b' : Nat} {v : Value} {n : Nat} {xs : List Value} (h : w.ownsRow b 3 1 v n xs) (hb : b' ≤ b) : w.ownsRow b' 3 1 v n xs := by
  refine ⟨h.1, ?_⟩
  rcases h.2 with h2 | ⟨g, cap, cur, h1, h2, h3⟩
  · exact .inl h2
  · exact .inr ⟨g, cap, cur, h1, Nat.le_trans hb h2, h3⟩

/-- The hull's corners, as the program gathers them out of the order. -/
def hullOf (t : Nat → Nat → Nat → Int) (os : List Nat) : List Nat := (stk t os).reverse.dropLast ++ (stk t os.reverse).reverse.dropLast

set_option maxRecDepth 100000 in
set_option maxHeartbeats 2000000 in
theorem corners_any (px py : Nat → Int) (n : Nat) [NeZero n] (pb po cap : Nat) (w : World) (hp : Plc w pb po n px py) (hm : n ≤ 40) (h2 : 2 ≤ n) :
    Calls Tryz.prog 34 #[.slice (some ⟨pb, po, none⟩) n cap] w fun e w' =>
      ∃ v, e = .returned v ∧ Below w.heap.size w w' ∧ ∃ d : Array (Fin n), d.size = n ∧ d.toList.Perm (List.finRange n) ∧ SortedIn (ltOf (cfI px py)) 0 n d ∧
        w'.ownsRow w.heap.size 3 1 v (hullOf (T px py) (nums d)).length ((hullOf (T px py) (nums d)).map encN) := by
  have c1 := hid (rightward_any px py n pb po cap w hp hm)
  have HP := hid hp
  have hpb := hp.lt
  clear hp
  go_enter Tryz.func34, Tryz.ntmps34
  go_wp2_with fail
  refine c1.out.mono ?_
  rintro e w1 ⟨rfl, hb1, hs1, d, hd, hperm, hsort, hH⟩
  have c2 := hid (leftTurns_len px py n pb po cap (w.heap.size + 1) n n (nums d) (by rw [nums_len, hd]) w1 (HP.out.below hb1 hpb) hm (nums_lt d) hs1 (nums_cell hH))
  have HH := hid hH
  have HD := hid (And.intro hperm hsort)
  have HB1 := hid hb1
  clear c1 hH hperm hsort hb1
  go_wp2_with fail
  refine c2.out.mono ?_
  rintro e w2 ⟨v1, rfl, hb2, ho1⟩
  obtain ⟨s1, hs1'⟩ : ∃ s1, s1 = stk (T px py) (nums d) := ⟨_, rfl⟩
  rw [← hs1'] at ho1
  have hl1 : 2 ≤ s1.length := by rw [hs1']; exact stk_two _ _ (by rw [nums_len, hd]; exact h2)
  have hl1' : s1.length ≤ 40 := by rw [hs1']; exact Nat.le_trans (stk_le _ _) (by rw [nums_len, hd]; exact hm)
  obtain ⟨g1, cp1, rfl, hg1, hg1', hc1, hlen1, hcells1⟩ := row_of_owns ho1 (by omega)
  have hH2 := holds_below HH.out hb2 hs1
  have hrev := AnyE.slices_Reverse_arr Tryz.revL (encF (n := n)) (fun _ => rfl) (w.heap.size + 1) 0 n d w2 hH2 (by omega)
  change Calls Tryz.prog 63 _ _ _ at hrev
  rw [hd] at hrev
  have c3 := hid hrev
  have HB2 := hid hb2
  have HH2 := hid hH2
  have HS1 := hid hs1'
  have HC1 := hid hcells1
  clear c2 hrev hb2 hH2 ho1 hs1' hcells1 hlen1
  go_wp2_with fail
  refine c3.out.mono ?_
  rintro e w3 ⟨rfl, k3, hw3⟩
  have hsz3 : w3.heap.size = w2.heap.size := by rw [hw3, Sort.size_putRow]; rfl
  have hb02 : Below w.heap.size w w2 := HB1.out.trans (HB2.out.mono HB1.out.size)
  have hb3 : Below w.heap.size w w3 := by rw [hw3]; exact Lib.below_putRow hb02 (by omega)
  have hH3 : Holds (encF (n := n)) w3 (w.heap.size + 1) 0 d.reverse := by rw [hw3]; exact Sort.holds_putRow encF (Sort.ahead w2 k3) _ 0 d d.reverse HH2.out (by simp)
  have hcells3 : ∀ j, (hj : j < s1.reverse.length) → w3.cell? ⟨g1, j, none⟩ = some (encN s1.reverse[j]) := by
    intro j hj
    rw [hw3, cell?_putRow_other _ _ _ _ _ _ (Or.inl (by show g1 ≠ _; omega))]
    exact HC1.out j hj
  have c4 := hid (leftTurns_len px py n pb po cap (w.heap.size + 1) n n (nums d.reverse) (by rw [nums_len]; simp [hd]) w3 (HP.out.below hb3 hpb) hm (nums_lt _) (by omega) (nums_cell hH3))
  have hsz3' : w2.heap.size ≤ w3.heap.size := by omega
  have HB3 := hid hb3
  have HC3 := hid hcells3
  clear c3 hw3 hb02 hb3 hH3 hcells3 HH2 HC1 hsz3 HB1 HB2 HH
  go_wp2_with fail
  refine c4.out.mono ?_
  rintro e w4 ⟨v2, rfl, hb4, ho2⟩
  obtain ⟨s2, hs2'⟩ : ∃ s2, s2 = stk (T px py) (nums d.reverse) := ⟨_, rfl⟩
  rw [← hs2'] at ho2
  have hl2 : 2 ≤ s2.length := by rw [hs2']; exact stk_two _ _ (by rw [nums_len]; simp [hd]; exact h2)
  have hl2' : s2.length ≤ 40 := by rw [hs2']; exact Nat.le_trans (stk_le _ _) (by rw [nums_len]; simp [hd]; exact hm)
  obtain ⟨g2, cp2, rfl, hg2, hg2', hc2, hlen2, hcells2⟩ := row_of_owns ho2 (by omega)
  have HS2 := hid hs2'
  have hb04 : Below w.heap.size w w4 := HB3.out.trans (hb4.mono HB3.out.size)
  have hcells1 : ∀ j, (hj : j < s1.reverse.length) → w4.cell? ⟨g1, j, none⟩ = some (encN s1.reverse[j]) := by
    intro j hj
    rw [hb4.cell (by show g1 < _; omega)]
    exact HC3.out j hj
  have hw4 : w3.heap.size ≤ w4.heap.size := hb4.size
  have HB4 := hid hb04
  have HC1 := hid hcells1
  have HC2 := hid hcells2
  clear c4 HC3 HB3 hb4 hb04 ho2 hs2' hcells1 hcells2 hlen2
  obtain ⟨k1, hk1⟩ : ∃ k1, s1.length = k1 + 1 := ⟨s1.length - 1, by omega⟩
  obtain ⟨k2, hk2⟩ : ∃ k2, s2.length = k2 + 1 := ⟨s2.length - 1, by omega⟩
  rw [hk1, hk2]
  have HK1 := hid hk1
  have HK2 := hid hk2
  have e1 : (k1 : Int) ≤ cp1 := by omega
  have e2 : (k2 : Int) ≤ cp2 := by omega
  have e1' : k1 ≤ cp1 := by omega
  have e2' : k2 ≤ cp2 := by omega
  have e3 : 1 ≤ k1 := by omega
  have e4 : 1 ≤ k2 := by omega
  have e5 : k1 ≤ 40 := by omega
  have e6 : k2 ≤ 40 := by omega
  clear hk1 hk2 hl1 hl2 hc1 hc2
  go_wp2
  have y1 : IntKind.i64.wrap (k1 : Int) = k1 := by rw [IntKind.wrap_i64]; omega
  have y2 : IntKind.i64.wrap (k2 : Int) = k2 := by rw [IntKind.wrap_i64]; omega
  have c5 : Calls Tryz.prog 64 #[.slice (some ⟨w4.heap.size, 0, none⟩) 2 2] (w4.alloc (.cells #[.slice (some ⟨g1, 0, none⟩) k1 cp1, .slice (some ⟨g2, 0, none⟩) k2 cp2] 25)).drew fun e w' =>
      ∃ v, e = .returned v ∧ Below w.heap.size w w' ∧ w'.ownsRow w.heap.size 3 1 v (hullOf (T px py) (nums d)).length ((hullOf (T px py) (nums d)).map encN) := by
    have hx : s1.reverse.dropLast.length = k1 := by simp [HK1.out]
    have hy : s2.reverse.dropLast.length = k2 := by simp [HK2.out]
    have hlt : w4.heap.size < (w4.alloc (.cells #[.slice (some ⟨g1, 0, none⟩) k1 cp1, .slice (some ⟨g2, 0, none⟩) k2 cp2] 25)).drew.heap.size := by
      show _ < (w4.alloc _).heap.size; simp
    have hcell : ∀ g, g < w4.heap.size → ∀ j, (w4.alloc (.cells #[.slice (some ⟨g1, 0, none⟩) k1 cp1, .slice (some ⟨g2, 0, none⟩) k2 cp2] 25)).drew.cell? ⟨g, j, none⟩ = w4.cell? ⟨g, j, none⟩ :=
      fun g hg j => ((Below.refl w4.heap.size w4).alloc (Nat.le_refl _) _).drew.cell (p := ⟨g, j, none⟩) hg
    have h := concat_any (w4.alloc (.cells #[.slice (some ⟨g1, 0, none⟩) k1 cp1, .slice (some ⟨g2, 0, none⟩) k2 cp2] 25)).drew w4.heap.size g1 g2 cp1 cp2 s1.reverse.dropLast s2.reverse.dropLast (by omega) (by omega) (by omega) (by omega) hlt (by omega) (by omega)
      (by rw [hx]; exact World.cell?_alloc_at _ _ _ _ rfl) (by rw [hy]; exact World.cell?_alloc_at _ _ _ _ rfl)
      (by
        intro j hj
        rw [hcell g1 (by omega), HC1.out j (by simp at hj ⊢; omega), List.getElem_dropLast])
      (by
        intro j hj
        rw [hcell g2 hg2', HC2.out j (by simp at hj ⊢; omega), List.getElem_dropLast])
    refine h.mono ?_
    rintro e w5 ⟨v, rfl, hb, ho⟩
    refine ⟨v, rfl, ?_, ?_⟩
    · have hb4 := HB4.out
      exact ((hb4.alloc hb4.size _).drew).trans (hb.mono (by have := hb4.size; omega))
    · have e : hullOf (T px py) (nums d) = s1.reverse.dropLast ++ s2.reverse.dropLast := by
        rw [HS1.out, HS2.out, nums_rev]; rfl
      rw [e, List.length_append]
      exact owns_base ho (by have := HB4.out.size; omega)
  have C5 := hid c5
  clear c5
  go_region_with (go_at_call 64; refine C5.out.mono ?_; rintro e w5 ⟨v, rfl, hr⟩; have HR := hid hr; clear hr)
  all_goals go_wp2
  all_goals go_ret
  all_goals exact ⟨_, rfl, HR.out.1, d, hd, HD.out.1, HD.out.2, HR.out.2⟩
end Go.Proofs.YtdbebbbceeopaaaGreat

namespace Go.Proofs.YtdbebbbceeopaaaGreat
open Go.RowKit

theorem drew_more' {W wq : World} (h : ∃ q', wq = W.drewN q') (n : Nat) : ∃ q, wq.drewN n = W.drewN q := by
  obtain ⟨q', rfl⟩ := h
  exact ⟨_, drewN_drewN _ _ _⟩
end Go.Proofs.YtdbebbbceeopaaaGreat

set_option linter.unusedSimpArgs false
namespace Go.Proofs.YtdbebbbceeopaaaGreat
open Go.RowKit

end Go.Proofs.YtdbebbbceeopaaaGreat
