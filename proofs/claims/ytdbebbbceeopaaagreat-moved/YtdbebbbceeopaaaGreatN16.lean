import Derived.Test.YtdbebbbceeopaaaGreatN11
import Derived.Test.YtdbebbbceeopaaaGreatN3
import Derived.Deep.RegionHeld3
import Derived.Deep.RegionLaw
import Derived.Deep.AppendLies
import Derived.Deep.QuietTactic
set_option linter.unusedSimpArgs false
namespace Go.Proofs.YtdbebbbceeopaaaGreat
open Go.RowKit
open Geo (up)

/-! The heap of the sides that wait. -/

def sdC (p : Nat × Nat) : List Value := [.int .i64 p.1, .int .i64 p.2]
def flat (l : List (Nat × Nat)) : List Value := l.flatMap sdC

theorem flt_len (l : List (Nat × Nat)) : (flat l).length = l.length * 2 := by
  induction l with
  | nil => rfl
  | cons x r ih => unfold flat at *; rw [List.flatMap_cons, List.length_append, ih]; simp [sdC]; omega

theorem flat_cons (x : Nat × Nat) (r : List (Nat × Nat)) : flat (x :: r) = .int .i64 x.1 :: .int .i64 x.2 :: flat r := rfl

theorem flat_append (l r : List (Nat × Nat)) : flat (l ++ r) = flat l ++ flat r := by unfold flat; rw [List.flatMap_append]

theorem flat_get0 : ∀ (l : List (Nat × Nat)) (i : Nat) (x : Nat × Nat), l[i]? = some x → (flat l)[i * 2]? = some (.int .i64 x.1)
  | [], i, x, h => by simp at h
  | y :: r, 0, x, h => by simp at h; subst h; rfl
  | y :: r, i + 1, x, h => by
    rw [flat_cons, show (i + 1) * 2 = i * 2 + 1 + 1 by omega, List.getElem?_cons_succ, List.getElem?_cons_succ]
    exact flat_get0 r i x (by simpa using h)

theorem flat_get1 : ∀ (l : List (Nat × Nat)) (i : Nat) (x : Nat × Nat), l[i]? = some x → (flat l)[i * 2 + 1]? = some (.int .i64 x.2)
  | [], i, x, h => by simp at h
  | y :: r, 0, x, h => by simp at h; subst h; rfl
  | y :: r, i + 1, x, h => by
    rw [flat_cons, show (i + 1) * 2 + 1 = i * 2 + 1 + 1 + 1 by omega, List.getElem?_cons_succ, List.getElem?_cons_succ]
    exact flat_get1 r i x (by simpa using h)

theorem flat_set : ∀ (l : List (Nat × Nat)) (i : Nat) (x : Nat × Nat), flat (l.set i x) = ((flat l).set (i * 2) (.int .i64 x.1)).set (i * 2 + 1) (.int .i64 x.2)
  | [], i, x => by simp [flat]
  | y :: r, 0, x => by rw [List.set_cons_zero, flat_cons, flat_cons]; rfl
  | y :: r, i + 1, x => by
    rw [List.set_cons_succ, flat_cons, flat_cons, show (i + 1) * 2 + 1 = i * 2 + 1 + 1 + 1 by omega, show (i + 1) * 2 = i * 2 + 1 + 1 by omega, List.set_cons_succ, List.set_cons_succ, List.set_cons_succ, List.set_cons_succ, flat_set r i x]

/-- Two places of a list changed for one another. -/
def swp (l : List (Nat × Nat)) (i j : Nat) : List (Nat × Nat) := (l.set i (l.getD j (0, 0))).set j (l.getD i (0, 0))

theorem swp_perm (l : List (Nat × Nat)) (i j : Nat) (hi : i < l.length) (hj : j < l.length) : (swp l i j).Perm l := by
  have h := Array.swap_perm (xs := l.toArray) (i := i) (j := j) (by simpa using hi) (by simpa using hj)
  have e : (l.toArray.swap i j (by simpa using hi) (by simpa using hj)).toList = swp l i j := by
    unfold swp
    simp [Array.swap, List.getD_eq_getElem?_getD, hi, hj]
  rw [← e]
  simpa using h.toList

theorem swp_len (l : List (Nat × Nat)) (i j : Nat) : (swp l i j).length = l.length := by unfold swp; simp

/-- The sides that wait, in memory: the pointer's cell, and the row that it has. -/
structure Hp (w : World) (hb : Nat) (l : List (Nat × Nat)) : Prop where
  ex : ∃ v, w.cell? ⟨hb, 0, none⟩ = some v ∧ w.ownsRow (hb - 1) 110 2 v l.length (flat l)
  fr : w.frozen? ⟨hb, 0, none⟩ = false
  ne : ∀ v, w.cell? ⟨hb, 0, none⟩ = some v → v.ownBlock ≠ some hb

theorem Hp.of {w : World} {hb : Nat} {l : List (Nat × Nat)} {v : Value} (c : w.cell? ⟨hb, 0, none⟩ = some v) (o : w.ownsRow (hb - 1) 110 2 v l.length (flat l)) (f : w.frozen? ⟨hb, 0, none⟩ = false) (hn : v.ownBlock ≠ some hb) : Hp w hb l :=
  ⟨⟨v, c, o⟩, f, fun v' h => by rw [c] at h; cases h; exact hn⟩

theorem owns_len2 {w : World} {base n : Nat} {v : Value} {xs : List Value} (h : w.ownsRow base 110 2 v n xs) : ∃ a c, v = .slice a n c := by
  rcases h.2 with ⟨rfl, rfl⟩ | ⟨g', cap', cur, h', _⟩
  · exact ⟨_, _, rfl⟩
  · exact ⟨_, _, h'⟩

theorem owns_shape2 {w : World} {base n : Nat} {v : Value} {xs : List Value} (h : w.ownsRow base 110 2 v n xs) (hn : 0 < n) : ∃ g c, v = .slice (some ⟨g, 0, none⟩) n c ∧ base ≤ g ∧ g < w.heap.size ∧ n ≤ c := by
  rcases h.2 with ⟨_, rfl⟩ | ⟨g', cap', cur, h', hb, hg, hc, _⟩
  · omega
  · exact ⟨g', cap', h', hb, (Array.getElem?_eq_some_iff.1 hg).1, hc⟩

set_option maxHeartbeats 400000 in
theorem len_any (a : Option Addr) (n cap : Nat) (w : World) :
    Calls Tryz.prog 73 #[.slice a n cap] w fun e w' => e = .returned (.int .i64 n) ∧ w' = w := by
  go_enter Tryz.func73, Tryz.ntmps73
  go_wp2
  go_ret
  exact ⟨rfl, rfl⟩

set_option maxHeartbeats 400000 in
theorem compareI_any (a b : Int) (w : World) :
    Calls Tryz.prog 81 #[.int .i64 a, .int .i64 b] w fun e w' => e = .returned (.int .i64 (cmpI a b)) ∧ w' = w := by
  have nan : ∀ (x : Int) (w : World), Calls Tryz.prog 120 #[.int .i64 x] w fun e w' => e = .returned (.bool false) ∧ w' = w := by
    intro x w
    have hx : (x != x) = false := by simp
    go_enter Tryz.func120, Tryz.ntmps120
    go_wp2
    go_ret
    exact ⟨rfl, rfl⟩
  have CA := hid (nan a)
  have CB := hid (nan b)
  clear nan
  unfold cmpI
  by_cases hlt : a < b
  · have h1 : decide (a < b) = true := by simpa using hlt
    go_enter Tryz.func81, Tryz.ntmps81
    go_wp2_with fail
    refine (CA.out _).mono ?_
    rintro e w' ⟨rfl, rfl⟩
    go_wp2_with fail
    refine (CB.out _).mono ?_
    rintro e w' ⟨rfl, rfl⟩
    go_wp2_with fail
    go_ret
    exact ⟨by simp [hlt], rfl⟩
  · have h1 : decide (a < b) = false := by simpa using hlt
    by_cases hgt : b < a
    · have h2 : decide (b < a) = true := by simpa using hgt
      go_enter Tryz.func81, Tryz.ntmps81
      go_wp2_with fail
      refine (CA.out _).mono ?_
      rintro e w' ⟨rfl, rfl⟩
      go_wp2_with fail
      refine (CB.out _).mono ?_
      rintro e w' ⟨rfl, rfl⟩
      go_wp2_with fail
      go_ret
      exact ⟨by simp [hlt, hgt], rfl⟩
    · have h2 : decide (b < a) = false := by simpa using hgt
      go_enter Tryz.func81, Tryz.ntmps81
      go_wp2_with fail
      refine (CA.out _).mono ?_
      rintro e w' ⟨rfl, rfl⟩
      go_wp2_with fail
      refine (CB.out _).mono ?_
      rintro e w' ⟨rfl, rfl⟩
      go_wp2_with fail
      go_ret
      exact ⟨by simp [hlt, hgt], rfl⟩

end Go.Proofs.YtdbebbbceeopaaaGreat

set_option linter.unusedSimpArgs false
namespace Go.Proofs.YtdbebbbceeopaaaGreat
open Go.RowKit
set_option maxRecDepth 100000 in
set_option maxHeartbeats 4000000 in
theorem less_any (g n cap i j : Nat) (l : List (Nat × Nat)) (w : World) (B : Nat) (ho : w.ownsRow B 110 2 (.slice (some ⟨g, 0, none⟩) n cap) n (flat l)) (hl : l.length = n) (hi : i < n) (hj : j < n) :
    Calls Tryz.prog 180 #[.slice (some ⟨g, 0, none⟩) n cap, .int .i64 i, .int .i64 j] w fun e w' => (∃ b, e = .returned (.bool b)) ∧ Below w.heap.size w w' := by
  obtain ⟨x, hx⟩ : ∃ x, l[i]? = some x := ⟨_, List.getElem?_eq_getElem (by omega)⟩
  obtain ⟨y, hy⟩ : ∃ y, l[j]? = some y := ⟨_, List.getElem?_eq_getElem (by omega)⟩
  have a0 := (ho.cellAt (i * 2) (by omega)).trans (flat_get0 l i x hx)
  have a1 := (ho.cellAt (i * 2 + 1) (by omega)).trans (flat_get1 l i x hx)
  have b0 := (ho.cellAt (j * 2) (by omega)).trans (flat_get0 l j y hy)
  have b1 := (ho.cellAt (j * 2 + 1) (by omega)).trans (flat_get1 l j y hy)
  have C1 := hid compareI_any
  generalize (x.1 : Int) = x1 at *
  generalize (x.2 : Int) = x2 at *
  generalize (y.1 : Int) = y1 at *
  generalize (y.2 : Int) = y2 at *
  have hi' : (i : Int) < n := by omega
  have hj' : (j : Int) < n := by omega
  clear ho hx hy hl
  go_enter Tryz.func180, Tryz.ntmps180
  go_wp2_with fail
  go_region_held3 (fun w' => w'.cell? ⟨g, i * 2, none⟩ = some (.int .i64 x1) ∧ w'.cell? ⟨g, i * 2 + 1, none⟩ = some (.int .i64 x2) ∧ w'.cell? ⟨g, j * 2, none⟩ = some (.int .i64 y1) ∧ w'.cell? ⟨g, j * 2 + 1, none⟩ = some (.int .i64 y2)) (go_keep)
    (first
      | (go_at_call 81; refine (C1.out _ _ _).mono ?_; rintro e w' ⟨rfl, rfl⟩)
      | (go_at_call 80; refine (or_any _ _ _ _ (World.cell?_alloc_at _ _ _ _ rfl) (World.cell?_alloc_at _ _ _ _ rfl)).mono ?_; rintro e w' ⟨rfl, rfl⟩))
  go_wp2
  go_ret
  exact ⟨⟨_, rfl⟩, ((Below.refl _ _).alloc (Nat.le_refl _) _).drew⟩
end Go.Proofs.YtdbebbbceeopaaaGreat

set_option linter.unusedSimpArgs false
namespace Go.Proofs.YtdbebbbceeopaaaGreat
open Go.RowKit

/-- What an exchange leaves: the row with two places changed for one another; else nothing has turned. -/
theorem swap_world {w : World} {B g n cap i j : Nat} {l : List (Nat × Nat)} {x y : Nat × Nat} (ho : w.ownsRow B 110 2 (.slice (some ⟨g, 0, none⟩) n cap) n (flat l)) (hx : l[i]? = some x) (hy : l[j]? = some y) (q : Nat) :
    (((((w.drewN q).setCell ⟨g, i * 2, none⟩ (.int .i64 y.1)).setCell ⟨g, i * 2 + 1, none⟩ (.int .i64 y.2)).setCell ⟨g, j * 2, none⟩ (.int .i64 x.1)).setCell ⟨g, j * 2 + 1, none⟩ (.int .i64 x.2)).ownsRow B 110 2 (.slice (some ⟨g, 0, none⟩) n cap) n (flat (swp l i j)) ∧
    w.grownBy (((((w.drewN q).setCell ⟨g, i * 2, none⟩ (.int .i64 y.1)).setCell ⟨g, i * 2 + 1, none⟩ (.int .i64 y.2)).setCell ⟨g, j * 2, none⟩ (.int .i64 x.1)).setCell ⟨g, j * 2 + 1, none⟩ (.int .i64 x.2)) (some g) := by
  have h0 : (w.drewN q).ownsRow B 110 2 (.slice (some ⟨g, 0, none⟩) n cap) n (flat l) := ho
  have g0 : w.grownBy (w.drewN q) (some g) := ⟨rfl, rfl, rfl, Nat.le_refl _, fun _ _ _ => rfl⟩
  have h1 := h0.stored (i * 2) (.int .i64 y.1)
  have h2 := h1.1.stored (i * 2 + 1) (.int .i64 y.2)
  have h3 := h2.1.stored (j * 2) (.int .i64 x.1)
  have h4 := h3.1.stored (j * 2 + 1) (.int .i64 x.2)
  have tr : ∀ {a b c : World}, a.grownBy b (some g) → b.grownBy c (some g) → a.grownBy c (some g) := fun h1 h2 => h1.andThen h2 (fun _ e => .inr e)
  refine ⟨?_, tr (tr (tr (tr g0 h1.2) h2.2) h3.2) h4.2⟩
  have e : flat (swp l i j) = ((((flat l).set (i * 2) (.int .i64 y.1)).set (i * 2 + 1) (.int .i64 y.2)).set (j * 2) (.int .i64 x.1)).set (j * 2 + 1) (.int .i64 x.2) := by
    unfold swp
    rw [flat_set, flat_set, List.getD_eq_getElem?_getD, List.getD_eq_getElem?_getD, hx, hy]
    rfl
  rw [e]
  exact h4.1

set_option maxRecDepth 100000 in
set_option maxHeartbeats 2000000 in
theorem swap_any (B g n cap i j : Nat) (l : List (Nat × Nat)) (w : World) (ho : w.ownsRow B 110 2 (.slice (some ⟨g, 0, none⟩) n cap) n (flat l)) (hl : l.length = n) (hi : i < n) (hj : j < n) :
    Calls Tryz.prog 183 #[.slice (some ⟨g, 0, none⟩) n cap, .int .i64 i, .int .i64 j] w fun e w' => e = .returned (.tuple #[]) ∧ w'.ownsRow B 110 2 (.slice (some ⟨g, 0, none⟩) n cap) n (flat (swp l i j)) ∧ w.grownBy w' (some g) := by
  obtain ⟨x, hx⟩ : ∃ x, l[i]? = some x := ⟨_, List.getElem?_eq_getElem (by omega)⟩
  obtain ⟨y, hy⟩ : ∃ y, l[j]? = some y := ⟨_, List.getElem?_eq_getElem (by omega)⟩
  have a0 := (ho.cellAt (i * 2) (by omega)).trans (flat_get0 l i x hx)
  have a1 := (ho.cellAt (i * 2 + 1) (by omega)).trans (flat_get1 l i x hx)
  have b0 := (ho.cellAt (j * 2) (by omega)).trans (flat_get0 l j y hy)
  have b1 := (ho.cellAt (j * 2 + 1) (by omega)).trans (flat_get1 l j y hy)
  have fa0 := ho.frozenAt (i * 2)
  have fa1 := ho.frozenAt (i * 2 + 1)
  have fb0 := ho.frozenAt (j * 2)
  have fb1 := ho.frozenAt (j * 2 + 1)
  have SW := hid (fun q => swap_world ho hx hy q)
  generalize (x.1 : Int) = x1 at *
  generalize (x.2 : Int) = x2 at *
  generalize (y.1 : Int) = y1 at *
  generalize (y.2 : Int) = y2 at *
  have hi' : (i : Int) < n := by omega
  have hj' : (j : Int) < n := by omega
  clear ho hx hy hl
  obtain ⟨u1, f1⟩ : ∃ u1, (w.setCell ⟨g, i * 2, none⟩ (.int .i64 y1)).cell? ⟨g, j * 2, none⟩ = some u1 := by
    by_cases e : i = j
    · subst e; exact ⟨_, World.cell?_setCell_same _ _ _ a0⟩
    · exact ⟨_, (World.cell?_setCell_other _ _ _ _ (by intro h; injection h with _ h; omega)).trans b0⟩
  obtain ⟨u2, f2⟩ : ∃ u2, ((w.setCell ⟨g, i * 2, none⟩ (.int .i64 y1)).setCell ⟨g, i * 2 + 1, none⟩ (.int .i64 y2)).cell? ⟨g, j * 2 + 1, none⟩ = some u2 := by
    have a1' : (w.setCell ⟨g, i * 2, none⟩ (.int .i64 y1)).cell? ⟨g, i * 2 + 1, none⟩ = some (.int .i64 x2) := (World.cell?_setCell_other _ _ _ _ (by intro h; injection h with _ h; omega)).trans a1
    have b1' : (w.setCell ⟨g, i * 2, none⟩ (.int .i64 y1)).cell? ⟨g, j * 2 + 1, none⟩ = some (.int .i64 y2) := (World.cell?_setCell_other _ _ _ _ (by intro h; injection h with _ h; omega)).trans b1
    by_cases e : i = j
    · subst e; exact ⟨_, World.cell?_setCell_same _ _ _ a1'⟩
    · exact ⟨_, (World.cell?_setCell_other _ _ _ _ (by intro h; injection h with _ h; omega)).trans b1'⟩
  go_enter Tryz.func183, Tryz.ntmps183
  go_region
  go_wp2
  go_end0
  exact ⟨rfl, (SW.out 1).1, (SW.out 1).2⟩
end Go.Proofs.YtdbebbbceeopaaaGreat

set_option linter.unusedSimpArgs false
namespace Go.Proofs.YtdbebbbceeopaaaGreat
open Go.RowKit

theorem Tryz.info110 : (Tryz.prog.info? 110).map (fun i => (i.zero, i.size, i.bytes)) = some (some (.agg #[.int .i64 0, .int .i64 0]), 2, 16) := by kernel_rfl

theorem Tryz.as110 (v : Value) (w : World) : (Instr.typeAssert (.iface 110 v) 20 110 false).run Tryz.prog w = .ok v w := by kernel_rfl

theorem Hp.lt {w : World} {hb : Nat} {l : List (Nat × Nat)} (h : Hp w hb l) : hb < w.heap.size := by
  obtain ⟨v, c, _⟩ := h.ex
  exact World.block_lt_of_cell? w _ c

theorem own_geH {w : World} {base : Nat} {v : Value} {n : Nat} {xs : List Value} (h : w.ownsRow base 110 2 v n xs) : ∀ g, v.ownBlock = some g → base ≤ g ∧ g < w.heap.size := by
  intro g hg
  rcases h.2 with ⟨rfl, _⟩ | ⟨g', cap', cur, rfl, hb, hh, _⟩
  · cases hg
  · cases hg
    exact ⟨hb, (Array.getElem?_eq_some_iff.1 hh).1⟩

/-- The block of the row that the heap has. -/
def Rw (w : World) (hb k : Nat) : Prop := ∃ v, w.cell? ⟨hb, 0, none⟩ = some v ∧ v.ownBlock = some k

/-- Nothing has turned but the heap, its row, and what is new. -/
structure Fm (w w' : World) (hb : Nat) : Prop where
  os : w'.os = w.os
  tape : w'.tape = w.tape
  output : w'.output = w.output
  size : w.heap.size ≤ w'.heap.size
  block : ∀ k, k < w.heap.size → k ≠ hb → ¬ Rw w hb k → w'.heap[k]? = w.heap[k]?
  row : ∀ k, k < w.heap.size → Rw w' hb k → Rw w hb k

theorem Fm.refl (w : World) (hb : Nat) : Fm w w hb := ⟨rfl, rfl, rfl, Nat.le_refl _, fun _ _ _ _ => rfl, fun _ _ h => h⟩

theorem Fm.trans {a b c : World} {hb : Nat} (h1 : Fm a b hb) (h2 : Fm b c hb) : Fm a c hb :=
  ⟨h2.os.trans h1.os, h2.tape.trans h1.tape, h2.output.trans h1.output, Nat.le_trans h1.size h2.size,
    fun k hk hne hr => (h2.block k (Nat.lt_of_lt_of_le hk h1.size) hne (fun h => hr (h1.row k hk h))).trans (h1.block k hk hne hr),
    fun k hk h => h1.row k hk (h2.row k (Nat.lt_of_lt_of_le hk h1.size) h)⟩

theorem Fm.of_below {w w' : World} {hb : Nat} (h : Below w.heap.size w w') (hlt : hb < w.heap.size) : Fm w w' hb :=
  ⟨h.os, h.tape, h.output, h.size, fun k hk _ _ => h.block k hk, fun k _ hr => by
    obtain ⟨v, c, e⟩ := hr
    exact ⟨v, (h.cell (p := ⟨hb, 0, none⟩) hlt).symm.trans c, e⟩⟩

theorem Fm.of_row {w w' : World} {hb g : Nat} {v : Value} (c : w.cell? ⟨hb, 0, none⟩ = some v) (hv : v.ownBlock = some g) (hg : w.grownBy w' (some g)) (hne : hb ≠ g) : Fm w w' hb := by
  have c' := hg.cell (a := ⟨hb, 0, none⟩) c (fun e => hne (Option.some.inj e))
  refine ⟨hg.os, hg.tape, hg.output, hg.size, fun k hk _ hr => hg.block k hk (fun e => hr ⟨v, c, by rw [hv, Option.some.inj e]⟩), fun k hk hr => ?_⟩
  obtain ⟨v', c2, e⟩ := hr
  rw [c'] at c2
  cases c2
  exact ⟨v, c, e⟩

theorem news2 (w : World) (a b : Value) : ∀ (j : Nat) (u : Value), [a, b][j]? = some u → (w.alloc (.cells #[a, b] 110)).drew.cell? ((⟨w.heap.size, 0, none⟩ : Addr).add j) = some u := by
  intro j u hj
  have hadd : (⟨w.heap.size, 0, none⟩ : Addr).add j = ⟨w.heap.size, j, none⟩ := by unfold Addr.add; split <;> simp_all
  rw [hadd]
  have := World.cell?_alloc_at (w := w) #[a, b] 110 w.heap.size j rfl
  rw [show (w.alloc (.cells #[a, b] 110)).drew.cell? ⟨w.heap.size, j, none⟩ = (w.alloc (.cells #[a, b] 110)).cell? ⟨w.heap.size, j, none⟩ from rfl, this]
  simpa using hj

theorem push_post {w w9 : World} {hb gi ci : Nat} {v : Value} {l : List (Nat × Nat)} {x : Nat × Nat} {o : Obj} (h1 : w.cell? ⟨hb, 0, none⟩ = some v) (h2 : w.frozen? ⟨hb, 0, none⟩ = false) (hvn : v.ownBlock ≠ some hb)
    (hown : w9.ownsRow (hb - 1) 110 2 (.slice (some ⟨gi, 0, none⟩) (l.length + 1) ci) (l.length + 1) (flat l ++ [.int .i64 x.1, .int .i64 x.2])) (hg : (w.alloc o).drew.grownBy w9 v.ownBlock) (hat : v.ownBlock = some gi ∨ gi = w.heap.size + 1) :
    Hp (w9.setCell ⟨hb, 0, none⟩ (.slice (some ⟨gi, 0, none⟩) (l.length + 1) ci)) hb (l ++ [x]) ∧ Fm w (w9.setCell ⟨hb, 0, none⟩ (.slice (some ⟨gi, 0, none⟩) (l.length + 1) ci)) hb := by
  have hlt : hb < w.heap.size := World.block_lt_of_cell? w _ h1
  have hlt' : hb < (w.alloc o).drew.heap.size := by show _ < (w.alloc o).heap.size; simp; omega
  have nb : some hb ≠ v.ownBlock := fun e => hvn e.symm
  have gnb : gi ≠ hb := by
    rcases hat with k1 | k1
    · exact fun e => hvn (by rw [k1, e])
    · omega
  have blk : w9.heap[hb]? = w.heap[hb]? := (hg.block hb hlt' nb).trans (Below.heap_alloc w o hb hlt)
  have c9 : w9.cell? ⟨hb, 0, none⟩ = some v := (World.cell?_of_block (w := w) (a := ⟨hb, 0, none⟩) blk).trans h1
  have f9 : w9.frozen? ⟨hb, 0, none⟩ = false := (World.frozen?_of_block (w := w) (a := ⟨hb, 0, none⟩) blk).trans h2
  refine ⟨Hp.of (World.cell?_setCell_same _ _ _ c9) ?_ ?_ (by intro e; exact gnb (Option.some.inj e)), ?_⟩
  · have e : flat (l ++ [x]) = flat l ++ [.int .i64 x.1, .int .i64 x.2] := by rw [flat_append]; rfl
    rw [e, List.length_append]
    refine hown.kept (row := some hb) ⟨rfl, rfl, rfl, by simp [World.setCell], fun k hk hne => Below.heap_setCell _ _ _ _ (fun e => hne (by rw [e]))⟩ (.inr (by intro e; have := Option.some.inj e; simp at this; omega))
  · rw [World.frozen?_setCell]; exact f9
  · refine ⟨hg.os, hg.tape, hg.output, ?_, fun k hk hne hr => ?_, fun k hk hr => ?_⟩
    · have := hg.size
      have e : (w.alloc o).drew.heap.size = w.heap.size + 1 := by show (w.alloc o).heap.size = _; simp
      simp [World.setCell]; omega
    · rw [Below.heap_setCell _ _ _ _ (by show k ≠ hb; omega)]
      exact (hg.block k (by show _ < (w.alloc o).heap.size; simp; omega) (fun e => hr ⟨v, h1, e.symm⟩)).trans (Below.heap_alloc w o k (by omega))
    · obtain ⟨v', c2, e⟩ := hr
      rw [World.cell?_setCell_same _ _ _ c9] at c2
      cases c2
      have e' : gi = k := Option.some.inj e
      rcases hat with k1 | k1
      · exact ⟨v, h1, by rw [k1, e']⟩
      · omega

set_option maxRecDepth 100000 in
set_option maxHeartbeats 2000000 in
theorem pushM_any (hb : Nat) (l : List (Nat × Nat)) (x : Nat × Nat) (w : World) (hp : Hp w hb l) (hl : l.length ≤ 100000) :
    Calls Tryz.prog 182 #[.pointer (some ⟨hb, 0, none⟩), .iface 110 (.agg #[.int .i64 x.1, .int .i64 x.2])] w fun e w' => e = .returned (.tuple #[]) ∧ Hp w' hb (l ++ [x]) ∧ Fm w w' hb := by
  obtain ⟨v, c0, ho⟩ := hp.ex
  have hvn := hp.ne v c0
  have f0 := hp.fr
  have hlt := hp.lt
  obtain ⟨a1, c1, hv⟩ := owns_len2 ho
  subst hv
  obtain ⟨i8, hi8, hz80, hz81, hz82⟩ := info_parts Tryz.info110
  have POST := hid (fun gi ci w9 o => push_post (l := l) (w9 := w9) (gi := gi) (ci := ci) (x := x) (o := o) c0 f0 hvn)
  have NW := hid (news2 w (.int .i64 x.1) (.int .i64 x.2))
  have HO := hid ho
  have NH := hid (show (w.alloc (.cells #[.int .i64 x.1, .int .i64 x.2] 110)).drew.heap.size = w.heap.size + 1 by show (w.alloc _).heap.size = _; simp)
  have N1 := hid (show ∀ u ∈ [Value.int .i64 x.1, .int .i64 x.2], u.oneCell' = true by
    intro u hu
    simp at hu
    rcases hu with rfl | rfl <;> rfl)
  have CB := hid (show (w.alloc (.cells #[.int .i64 x.1, .int .i64 x.2] 110)).drew.cell? ⟨hb, 0, none⟩ = some (.slice a1 l.length c1) from (((Below.refl w.heap.size w).alloc (Nat.le_refl _) _).drew.cell (p := ⟨hb, 0, none⟩) hlt).trans c0)
  have FB := hid (show (w.alloc (.cells #[.int .i64 x.1, .int .i64 x.2] 110)).drew.frozen? ⟨hb, 0, none⟩ = false from (((Below.refl w.heap.size w).alloc (Nat.le_refl _) _).drew.frozen (p := ⟨hb, 0, none⟩) hlt).trans f0)
  have VB := hid (show some hb ≠ (Value.slice a1 l.length c1).ownBlock from fun e => hvn e.symm)
  have hne : ¬ w.heap.size = hb := by omega
  generalize hx1 : (x.1 : Int) = x1 at *
  generalize hx2 : (x.2 : Int) = x2 at *
  obtain ⟨n, hn⟩ : ∃ n, n = l.length := ⟨_, rfl⟩
  rw [← hn] at c0 hl HO CB VB POST
  have ta := fun w => Tryz.as110 (.agg #[.int .i64 x1, .int .i64 x2]) w
  clear ho hp hn hvn
  go_enter Tryz.func182, Tryz.ntmps182
  go_region_law ((refine step_append_lies _ (by rfl) (.tmp 7) (.tmp 10) 107 (by rfl) (hb - 1) 110 i8 (.agg #[.int .i64 0, .int .i64 0]) 2 16 Tryz.underlying107 hi8 hz80 hz81 hz82 (by rfl) (by decide) (.slice a1 n c1) n (flat l) (by rfl) (HO.out.alloc _) ⟨w.heap.size, 0, none⟩ 1 1 [.int .i64 x1, .int .i64 x2] (by rfl) (by rfl) NW.out N1.out (by decide) (by unfold maxLen; omega) (by omega) (by rw [NH.out]; omega) (w.heap.size + 1) NH.out ?_; intro gi ci w9 hown9 hgrow9 hat hlt9; have cb9 := hgrow9.cell (a := ⟨hb, 0, none⟩) CB.out VB.out; have fb9 := (World.frozen?_of_block (w := (w.alloc (.cells #[.int .i64 x1, .int .i64 x2] 110)).drew) (a := ⟨hb, 0, none⟩) (hgrow9.block hb (by rw [NH.out]; omega) VB.out)).trans FB.out))
  all_goals
    have HPOST := hid (POST.out gi ci w9 _ hown9 hgrow9 hat)
    clear cb9 fb9 hown9 hgrow9 hat hlt9
    go_wp2
    go_end0
    exact ⟨rfl, HPOST.out.1, HPOST.out.2⟩
end Go.Proofs.YtdbebbbceeopaaaGreat

set_option linter.unusedSimpArgs false
namespace Go.Proofs.YtdbebbbceeopaaaGreat
open Go.RowKit

theorem nilchk (a : Addr) (x y : String) (ts : Array TypeId) (t : TypeId) (P : Program) (w : World) : (Builtin.ssaWrapNilChk_ ts t #[.pointer (some a), strVal x, strVal y]).run P w = .ok (.pointer (some a)) w := rfl

theorem met {name : String} {f : FuncId} (hp : (Tryz.prog.info? 106).map (fun i => (i.methods.find? (·.name == name)).map (fun m => (m.path.toList, m.func))) = some (some ([], some (f, false))))
    (b : Nat) (w : World) (v : Value) (h : w.cell? ⟨b, 0, none⟩ = some v) : (method 314 106 (.pointer (some ⟨b, 0, none⟩)) name).run Tryz.prog w = .ok (f, v) w := by
  cases hi : Tryz.prog.info? 106 with
  | none => rw [hi] at hp; cases hp
  | some i =>
    rw [hi] at hp
    simp only [Option.map_some, Option.some.injEq] at hp
    cases hm : i.methods.find? (·.name == name) with
    | none => rw [hm] at hp; cases hp
    | some m =>
      rw [hm] at hp
      simp only [Option.map_some, Option.some.injEq, Prod.mk.injEq] at hp
      have hpe : m.path = #[] := by
        have := hp.1
        cases hq : m.path with
        | mk l => rw [hq] at this; subst this; rfl
      unfold method
      simp [go_sem, hi, hm, hp.2, hpe, follow, receiverAt, typeInfo, Place.get, nilchk, h]
theorem Tryz.mLess (b : Nat) (w : World) (v : Value) (h : w.cell? ⟨b, 0, none⟩ = some v) : (method 314 106 (.pointer (some ⟨b, 0, none⟩)) "Less").run Tryz.prog w = .ok (180, v) w := met (by kernel_rfl) b w v h
theorem Tryz.mSwap (b : Nat) (w : World) (v : Value) (h : w.cell? ⟨b, 0, none⟩ = some v) : (method 314 106 (.pointer (some ⟨b, 0, none⟩)) "Swap").run Tryz.prog w = .ok (183, v) w := met (by kernel_rfl) b w v h
theorem Tryz.mLen (b : Nat) (w : World) (v : Value) (h : w.cell? ⟨b, 0, none⟩ = some v) : (method 314 106 (.pointer (some ⟨b, 0, none⟩)) "Len").run Tryz.prog w = .ok (73, v) w := met (by kernel_rfl) b w v h
theorem Tryz.mPush (b : Nat) (w : World) : (method 314 106 (.pointer (some ⟨b, 0, none⟩)) "Push").run Tryz.prog w = .ok (182, .pointer (some ⟨b, 0, none⟩)) w := by kernel_rfl
theorem Tryz.mPop (b : Nat) (w : World) : (method 314 106 (.pointer (some ⟨b, 0, none⟩)) "Pop").run Tryz.prog w = .ok (181, .pointer (some ⟨b, 0, none⟩)) w := by kernel_rfl

theorem owns_setH {w : World} {base : Nat} {e : TypeId} {size : Nat} {v : Value} {n : Nat} {xs : List Value} (h : w.ownsRow base e size v n xs) {X o : Nat} {u : Value} (hX : v.ownBlock ≠ some X) : (w.setCell ⟨X, o, none⟩ u).ownsRow base e size v n xs := by
  refine ⟨h.1, ?_⟩
  rcases h.2 with h2 | ⟨g, cap, cur, hv, hg, hh, r⟩
  · exact Or.inl h2
  · refine Or.inr ⟨g, cap, cur, hv, hg, ?_, r⟩
    rw [Below.heap_setCell _ _ _ _ (by intro e; subst hv; exact hX (by rw [e]; rfl))]
    exact hh

theorem Hp.below {w w' : World} {B hb : Nat} {l : List (Nat × Nat)} (h : Hp w hb l) (hB : Below B w w') (hw : w.heap.size ≤ B) : Hp w' hb l := by
  have hl := h.lt
  obtain ⟨v, c, o⟩ := h.ex
  refine Hp.of ((hB.cell (p := ⟨hb, 0, none⟩) (by show hb < B; omega)).trans c) ?_ ((hB.frozen (p := ⟨hb, 0, none⟩) (by show hb < B; omega)).trans h.fr) (h.ne v c)
  refine ⟨o.1, ?_⟩
  have ge := own_geH o
  rcases o.2 with h2 | ⟨g, cap, cur, h1, h2, h3, h4⟩
  · exact .inl h2
  · exact .inr ⟨g, cap, cur, h1, h2, by rw [hB.block g (by have := ge g (by rw [h1]; rfl); omega)]; exact h3, h4⟩

set_option maxRecDepth 100000 in
set_option maxHeartbeats 2000000 in
theorem popM_any (hb : Nat) (l : List (Nat × Nat)) (x : Nat × Nat) (w : World) (hp : Hp w hb (l ++ [x])) (hl : l.length ≤ 100000) :
    Calls Tryz.prog 181 #[.pointer (some ⟨hb, 0, none⟩)] w fun e w' => e = .returned (.iface 110 (.agg #[.int .i64 x.1, .int .i64 x.2])) ∧ Hp w' hb l ∧ Fm w w' hb := by
  obtain ⟨v, c0, ho⟩ := hp.ex
  have f0 := hp.fr
  have hlt := hp.lt
  obtain ⟨g, cp, hv, hg1, hg2, hcp⟩ := owns_shape2 ho (by simp)
  subst hv
  have hgn : hb ≠ g := fun e => hp.ne _ c0 (by rw [e]; rfl)
  have el : (l ++ [x]).length = l.length + 1 := by simp
  rw [el] at ho c0 hcp
  have hx : (l ++ [x])[l.length]? = some x := by simp
  have a0 := (ho.cellAt (l.length * 2) (by omega)).trans (flat_get0 _ _ _ hx)
  have a1 := (ho.cellAt (l.length * 2 + 1) (by omega)).trans (flat_get1 _ _ _ hx)
  have hpop : w.ownsRow (hb - 1) 110 2 (.slice (some ⟨g, 0, none⟩) l.length cp) l.length (flat l) := by
    rw [flat_append] at ho
    exact ownsRow_pop (flt_len l) ho
  have HP := hid hpop
  obtain ⟨n, hn⟩ : ∃ n, n = l.length := ⟨_, rfl⟩
  rw [← hn] at c0 hl HP a0 a1 hcp
  have HN := hid hn
  clear ho hp hn hpop el hx
  generalize hx1 : (x.1 : Int) = x1 at *
  generalize hx2 : (x.2 : Int) = x2 at *
  have HQ : Hid (Hp ((w.setCell ⟨hb, 0, none⟩ (.slice (some ⟨g, 0, none⟩) n cp)).alloc (.cells #[.int .i64 x1, .int .i64 x2] 110)) hb l) := hid (by
    have hs : ((w.setCell ⟨hb, 0, none⟩ (.slice (some ⟨g, 0, none⟩) n cp))).heap.size = w.heap.size := by simp [World.setCell]
    have B0 := (Below.refl (w.setCell ⟨hb, 0, none⟩ (.slice (some ⟨g, 0, none⟩) n cp)).heap.size (w.setCell ⟨hb, 0, none⟩ (.slice (some ⟨g, 0, none⟩) n cp))).alloc (Nat.le_refl _) (.cells #[.int .i64 x1, .int .i64 x2] 110)
    refine Hp.of ((B0.cell (p := ⟨hb, 0, none⟩) (by rw [hs]; exact hlt)).trans (World.cell?_setCell_same _ _ _ c0)) ?_ ((B0.frozen (p := ⟨hb, 0, none⟩) (by rw [hs]; exact hlt)).trans ?_) (by intro e; exact hgn (Option.some.inj e).symm)
    · rw [← HN.out]
      exact (owns_setH HP.out (by intro e; have := Option.some.inj e; simp at this; omega)).alloc _
    · rw [World.frozen?_setCell]; exact f0)
  have FF : Hid (Fm w ((w.setCell ⟨hb, 0, none⟩ (.slice (some ⟨g, 0, none⟩) n cp)).alloc (.cells #[.int .i64 x1, .int .i64 x2] 110)) hb) := hid (by
    have hs : ((w.setCell ⟨hb, 0, none⟩ (.slice (some ⟨g, 0, none⟩) n cp))).heap.size = w.heap.size := by simp [World.setCell]
    have B0 := (Below.refl (w.setCell ⟨hb, 0, none⟩ (.slice (some ⟨g, 0, none⟩) n cp)).heap.size (w.setCell ⟨hb, 0, none⟩ (.slice (some ⟨g, 0, none⟩) n cp))).alloc (Nat.le_refl _) (.cells #[.int .i64 x1, .int .i64 x2] 110)
    refine ⟨B0.os, B0.tape, B0.output, by rw [← hs]; exact B0.size, fun k hk hne _ => (B0.block k (by rw [hs]; exact hk)).trans (Below.heap_setCell _ _ _ _ hne), fun k hk hr => ?_⟩
    obtain ⟨v', c2, e⟩ := hr
    rw [(B0.cell (p := ⟨hb, 0, none⟩) (by rw [hs]; exact hlt)).trans (World.cell?_setCell_same _ _ _ c0)] at c2
    cases c2
    exact ⟨_, c0, e⟩)
  go_enter Tryz.func181, Tryz.ntmps181
  go_wp2_with fail
  go_ret
  exact ⟨rfl, HQ.out, FF.out⟩

set_option maxRecDepth 100000 in
set_option maxHeartbeats 2000000 in
theorem up_any (hb j : Nat) (l : List (Nat × Nat)) (w : World) (hp : Hp w hb l) (hl : l.length ≤ 100000) (hj : j < l.length) :
    Calls Tryz.prog 128 #[.iface 106 (.pointer (some ⟨hb, 0, none⟩)), .int .i64 j] w fun e w' => e = .returned (.tuple #[]) ∧ (∃ l', Hp w' hb l' ∧ l'.Perm l) ∧ Fm w w' hb := by
  obtain ⟨n, hn⟩ : ∃ n, n = l.length := ⟨_, rfl⟩
  have HN := hid hn
  rw [← hn] at hl hj
  clear hn
  go_enter Tryz.func128, Tryz.ntmps128
  go_wp2_with fail
  go_loopw [1, 4] (fun j _ wr => ∃ (k : Nat) (l' : List (Nat × Nat)), k < n ∧ j = .int .i64 k ∧ l'.length = n ∧ Hp wr hb l' ∧ l'.Perm l ∧ Fm w wr hb) (fun j _ _ => (intOf j).toNat)
  case atStart => exact ⟨j, l, hj, rfl, HN.out.symm, hp, .refl _, Fm.refl _ _⟩
  case round =>
    clear hp
    obtain ⟨k, l', hk, rfl, hl', hp, hperm, hb'⟩ := hrel
    obtain ⟨v, c0, ho⟩ := hp.ex
    obtain ⟨g, cp, hv, hg1, hg2, hcp⟩ := owns_shape2 ho (by omega)
    subst hv
    have hgn : hb ≠ g := fun e => hp.ne _ c0 (by rw [e]; rfl)
    rw [hl'] at c0 ho
    by_cases hk0 : k = 0
    · subst hk0
      have HP := hid hp
      have HB := hid hb'
      have HPM := hid hperm
      clear hp hb' hperm ho
      go_wp2_with fail
      go_end0
      exact ⟨rfl, ⟨l', HP.out, HPM.out⟩, HB.out⟩
    · obtain ⟨i, hi⟩ : ∃ i : Nat, i = (k - 1) / 2 := ⟨_, rfl⟩
      have hik : i < k := by omega
      have e2 : ((k : Int) - 1) / 2 = (i : Int) := by omega
      have hd : ((i : Int) == (k : Int)) = false := by simp; omega
      have mL := Tryz.mLess hb wr _ c0
      have LS := hid (less_any g n cp k i l' wr (hb - 1) ho hl' hk (by omega))
      have HP := hid hp
      have HB := hid hb'
      have HPM := hid hperm
      clear hp hb' hperm ho hi
      go_wp2_with fail
      refine LS.out.mono ?_
      rintro e w1 ⟨⟨b, rfl⟩, hb1⟩
      have HP1 := hid (HP.out.below hb1 (Nat.le_refl _))
      have HB1 := hid (HB.out.trans (Fm.of_below hb1 HP.out.lt))
      clear hb1 LS mL c0
      cases b
      · go_wp2_with fail
        go_end0
        exact ⟨rfl, ⟨l', HP1.out, HPM.out⟩, HB1.out⟩
      · obtain ⟨v, c0, ho⟩ := HP1.out.ex
        obtain ⟨g', cp', hv, hg1', hg2', hcp'⟩ := owns_shape2 ho (by omega)
        subst hv
        have hgn' : hb ≠ g' := fun e => HP1.out.ne _ c0 (by rw [e]; rfl)
        rw [hl'] at c0 ho
        have mS := Tryz.mSwap hb w1 _ c0
        have SW := hid (swap_any (hb - 1) g' n cp' i k l' w1 ho hl' (by omega) hk)
        have f0 := hid HP1.out.fr
        have C0 := hid c0
        clear ho c0
        go_wp2_with fail
        refine SW.out.mono ?_
        rintro e w2 ⟨rfl, ho2, hg2⟩
        have gne : some hb ≠ some g' := by intro e; have := Option.some.inj e; omega
        have lt1 := hid HP1.out.lt
        have HP2 : Hid (Hp w2 hb (swp l' i k)) := hid (Hp.of (hg2.cell (a := ⟨hb, 0, none⟩) C0.out gne) (by rw [swp_len, hl']; exact ho2) ((World.frozen?_of_block (w := w1) (a := ⟨hb, 0, none⟩) (hg2.block hb lt1.out gne)).trans f0.out) (by intro e; exact hgn' (Option.some.inj e).symm))
        have HB2 : Hid (Fm w w2 hb) := hid (HB1.out.trans (Fm.of_row (g := g') C0.out rfl hg2 (by omega)))
        clear ho2 hg2 mS
        go_wp2_with fail
        go_roundw
        case rel => exact ⟨i, swp l' i k, by omega, rfl, by rw [swp_len]; exact hl', HP2.out, (swp_perm l' i k (by omega) (by omega)).trans HPM.out, HB2.out⟩
        case measure => simp [intOf]; omega

set_option maxRecDepth 100000 in
set_option maxHeartbeats 4000000 in
theorem down_any (hb m : Nat) (l : List (Nat × Nat)) (w : World) (hp : Hp w hb l) (hl : l.length ≤ 100000) (hm : m < l.length) :
    Calls Tryz.prog 132 #[.iface 106 (.pointer (some ⟨hb, 0, none⟩)), .int .i64 0, .int .i64 m] w fun e w' => (∃ b, e = .returned (.bool b)) ∧ (∃ l', Hp w' hb l' ∧ l'.Perm l) ∧ Fm w w' hb := by
  obtain ⟨n, hn⟩ : ∃ n, n = l.length := ⟨_, rfl⟩
  have HN := hid hn
  rw [← hn] at hl hm
  clear hn
  go_enter Tryz.func132, Tryz.ntmps132
  go_wp2_with fail
  go_loopw [7, 8, 9, 10] (fun j _ _ _ wr => ∃ (k : Nat) (l' : List (Nat × Nat)), j = .int .i64 k ∧ k < n ∧ l'.length = n ∧ Hp wr hb l' ∧ l'.Perm l ∧ Fm w wr hb) (fun j _ _ _ _ => n - (intOf j).toNat)
  case atStart => exact ⟨0, l, rfl, by omega, HN.out.symm, hp, .refl _, Fm.refl _ _⟩
  case round =>
    clear hp
    obtain ⟨k, l', rfl, hk, hl', hp, hperm, hb'⟩ := hrel
    have HPx := hid hp
    have HBx := hid hb'
    have HPM := hid hperm
    clear hp hb' hperm
    obtain ⟨j1, hj1⟩ : ∃ j1 : Nat, j1 = 2 * k + 1 := ⟨_, rfl⟩
    obtain ⟨j2, hj2⟩ : ∃ j2 : Nat, j2 = j1 + 1 := ⟨_, rfl⟩
    have e1 : 2 * (k : Int) + 1 = (j1 : Int) := by omega
    have e2 : (j1 : Int) + 1 = (j2 : Int) := by omega
    have kj : k < j1 ∧ j1 < j2 := by omega
    clear hj1 hj2
    by_cases h1 : j1 < m
    · have d1 : decide ((m : Int) ≤ (j1 : Int)) = false := by simp; omega
      have d3 : decide ((j1 : Int) < 0) = false := by simp
      by_cases h2 : j2 < m
      · have d2 : decide ((j2 : Int) < m) = true := by simp; omega
        obtain ⟨v, c0, ho⟩ := HPx.out.ex
        obtain ⟨g, cp, hv, hg1, hg2, hcp⟩ := owns_shape2 ho (by omega)
        subst hv
        have hgn : hb ≠ g := fun e => HPx.out.ne _ c0 (by rw [e]; rfl)
        rw [hl'] at c0 ho
        have mL := Tryz.mLess hb wr _ c0
        have LS := hid (less_any g n cp j2 j1 l' wr (hb - 1) ho hl' (by omega) (by omega))
        clear ho
        go_wp2_with fail
        refine LS.out.mono ?_
        rintro e w1 ⟨⟨b, rfl⟩, hb1⟩
        have HP1 := hid (HPx.out.below hb1 (Nat.le_refl _))
        have HB1 := hid (HBx.out.trans (Fm.of_below hb1 HPx.out.lt))
        clear hb1 LS mL c0 hg1 hg2 hcp
        clear HPx HBx
        obtain ⟨HPx, HBx⟩ : Hid (Hp w1 hb l') ∧ Hid (Fm w w1 hb) := ⟨HP1, HB1⟩
        clear HP1 HB1
        cases b
        · obtain ⟨v, c0, ho⟩ := HPx.out.ex
          obtain ⟨g, cp, hv, hg1, hg2, hcp⟩ := owns_shape2 ho (by omega)
          subst hv
          have hgn : hb ≠ g := fun e => HPx.out.ne _ c0 (by rw [e]; rfl)
          rw [hl'] at c0 ho
          have mLj := Tryz.mLess hb w1 _ c0
          have LSj := hid (less_any g n cp j1 k l' w1 (hb - 1) ho hl' (by omega) (by omega))
          clear ho
          go_wp2_with fail
          refine LSj.out.mono ?_
          rintro e w2 ⟨⟨b2, rfl⟩, hb2⟩
          have HP2 := hid (HPx.out.below hb2 (Nat.le_refl _))
          have HB2 := hid (HBx.out.trans (Fm.of_below hb2 HPx.out.lt))
          clear hb2 LSj mLj c0
          cases b2
          · go_wp2_with fail
            go_ret
            exact ⟨⟨_, rfl⟩, ⟨l', HP2.out, HPM.out⟩, HB2.out⟩
          · obtain ⟨v, c0, ho⟩ := HP2.out.ex
            obtain ⟨g', cp', hv, hg1', hg2', hcp'⟩ := owns_shape2 ho (by omega)
            subst hv
            have hgn' : hb ≠ g' := fun e => HP2.out.ne _ c0 (by rw [e]; rfl)
            rw [hl'] at c0 ho
            have mS := Tryz.mSwap hb w2 _ c0
            have SW := hid (swap_any (hb - 1) g' n cp' k j1 l' w2 ho hl' (by omega) (by omega))
            have f0 := hid HP2.out.fr
            have C0 := hid c0
            clear ho c0
            go_wp2_with fail
            refine SW.out.mono ?_
            rintro e w3 ⟨rfl, ho3, hg3⟩
            have gne : some hb ≠ some g' := by intro e; have := Option.some.inj e; omega
            have lt1 := hid HP2.out.lt
            have HP3 : Hid (Hp w3 hb (swp l' k j1)) := hid (Hp.of (hg3.cell (a := ⟨hb, 0, none⟩) C0.out gne) (by rw [swp_len, hl']; exact ho3) ((World.frozen?_of_block (w := w2) (a := ⟨hb, 0, none⟩) (hg3.block hb lt1.out gne)).trans f0.out) (by intro e; exact hgn' (Option.some.inj e).symm))
            have HB3 : Hid (Fm w w3 hb) := hid (HB2.out.trans (Fm.of_row (g := g') C0.out rfl hg3 (by omega)))
            clear ho3 hg3 mS
            go_wp2_with fail
            go_roundw
            case rel => exact ⟨j1, swp l' k j1, rfl, by omega, by rw [swp_len]; exact hl', HP3.out, (swp_perm l' k j1 (by omega) (by omega)).trans HPM.out, HB3.out⟩
            case measure => simp [intOf]; omega
        · obtain ⟨v, c0, ho⟩ := HPx.out.ex
          obtain ⟨g, cp, hv, hg1, hg2, hcp⟩ := owns_shape2 ho (by omega)
          subst hv
          have hgn : hb ≠ g := fun e => HPx.out.ne _ c0 (by rw [e]; rfl)
          rw [hl'] at c0 ho
          have mLj := Tryz.mLess hb w1 _ c0
          have LSj := hid (less_any g n cp j2 k l' w1 (hb - 1) ho hl' (by omega) (by omega))
          clear ho
          go_wp2_with fail
          refine LSj.out.mono ?_
          rintro e w2 ⟨⟨b2, rfl⟩, hb2⟩
          have HP2 := hid (HPx.out.below hb2 (Nat.le_refl _))
          have HB2 := hid (HBx.out.trans (Fm.of_below hb2 HPx.out.lt))
          clear hb2 LSj mLj c0
          cases b2
          · go_wp2_with fail
            go_ret
            exact ⟨⟨_, rfl⟩, ⟨l', HP2.out, HPM.out⟩, HB2.out⟩
          · obtain ⟨v, c0, ho⟩ := HP2.out.ex
            obtain ⟨g', cp', hv, hg1', hg2', hcp'⟩ := owns_shape2 ho (by omega)
            subst hv
            have hgn' : hb ≠ g' := fun e => HP2.out.ne _ c0 (by rw [e]; rfl)
            rw [hl'] at c0 ho
            have mS := Tryz.mSwap hb w2 _ c0
            have SW := hid (swap_any (hb - 1) g' n cp' k j2 l' w2 ho hl' (by omega) (by omega))
            have f0 := hid HP2.out.fr
            have C0 := hid c0
            clear ho c0
            go_wp2_with fail
            refine SW.out.mono ?_
            rintro e w3 ⟨rfl, ho3, hg3⟩
            have gne : some hb ≠ some g' := by intro e; have := Option.some.inj e; omega
            have lt1 := hid HP2.out.lt
            have HP3 : Hid (Hp w3 hb (swp l' k j2)) := hid (Hp.of (hg3.cell (a := ⟨hb, 0, none⟩) C0.out gne) (by rw [swp_len, hl']; exact ho3) ((World.frozen?_of_block (w := w2) (a := ⟨hb, 0, none⟩) (hg3.block hb lt1.out gne)).trans f0.out) (by intro e; exact hgn' (Option.some.inj e).symm))
            have HB3 : Hid (Fm w w3 hb) := hid (HB2.out.trans (Fm.of_row (g := g') C0.out rfl hg3 (by omega)))
            clear ho3 hg3 mS
            go_wp2_with fail
            go_roundw
            case rel => exact ⟨j2, swp l' k j2, rfl, by omega, by rw [swp_len]; exact hl', HP3.out, (swp_perm l' k j2 (by omega) (by omega)).trans HPM.out, HB3.out⟩
            case measure => simp [intOf]; omega
      · have d2 : decide ((j2 : Int) < m) = false := by simp; omega
        obtain ⟨v, c0, ho⟩ := HPx.out.ex
        obtain ⟨g, cp, hv, hg1, hg2, hcp⟩ := owns_shape2 ho (by omega)
        subst hv
        have hgn : hb ≠ g := fun e => HPx.out.ne _ c0 (by rw [e]; rfl)
        rw [hl'] at c0 ho
        have mLj := Tryz.mLess hb wr _ c0
        have LSj := hid (less_any g n cp j1 k l' wr (hb - 1) ho hl' (by omega) (by omega))
        clear ho
        go_wp2_with fail
        refine LSj.out.mono ?_
        rintro e w2 ⟨⟨b2, rfl⟩, hb2⟩
        have HP2 := hid (HPx.out.below hb2 (Nat.le_refl _))
        have HB2 := hid (HBx.out.trans (Fm.of_below hb2 HPx.out.lt))
        clear hb2 LSj mLj c0
        cases b2
        · go_wp2_with fail
          go_ret
          exact ⟨⟨_, rfl⟩, ⟨l', HP2.out, HPM.out⟩, HB2.out⟩
        · obtain ⟨v, c0, ho⟩ := HP2.out.ex
          obtain ⟨g', cp', hv, hg1', hg2', hcp'⟩ := owns_shape2 ho (by omega)
          subst hv
          have hgn' : hb ≠ g' := fun e => HP2.out.ne _ c0 (by rw [e]; rfl)
          rw [hl'] at c0 ho
          have mS := Tryz.mSwap hb w2 _ c0
          have SW := hid (swap_any (hb - 1) g' n cp' k j1 l' w2 ho hl' (by omega) (by omega))
          have f0 := hid HP2.out.fr
          have C0 := hid c0
          clear ho c0
          go_wp2_with fail
          refine SW.out.mono ?_
          rintro e w3 ⟨rfl, ho3, hg3⟩
          have gne : some hb ≠ some g' := by intro e; have := Option.some.inj e; omega
          have lt1 := hid HP2.out.lt
          have HP3 : Hid (Hp w3 hb (swp l' k j1)) := hid (Hp.of (hg3.cell (a := ⟨hb, 0, none⟩) C0.out gne) (by rw [swp_len, hl']; exact ho3) ((World.frozen?_of_block (w := w2) (a := ⟨hb, 0, none⟩) (hg3.block hb lt1.out gne)).trans f0.out) (by intro e; exact hgn' (Option.some.inj e).symm))
          have HB3 : Hid (Fm w w3 hb) := hid (HB2.out.trans (Fm.of_row (g := g') C0.out rfl hg3 (by omega)))
          clear ho3 hg3 mS
          go_wp2_with fail
          go_roundw
          case rel => exact ⟨j1, swp l' k j1, rfl, by omega, by rw [swp_len]; exact hl', HP3.out, (swp_perm l' k j1 (by omega) (by omega)).trans HPM.out, HB3.out⟩
          case measure => simp [intOf]; omega
    · have d1 : decide ((m : Int) ≤ (j1 : Int)) = true := by simp; omega
      go_wp2_with fail
      go_ret
      exact ⟨⟨_, rfl⟩, ⟨l', HPx.out, HPM.out⟩, HBx.out⟩
end Go.Proofs.YtdbebbbceeopaaaGreat

set_option linter.unusedSimpArgs false
namespace Go.Proofs.YtdbebbbceeopaaaGreat
open Go.RowKit
open Geo (up)

set_option maxRecDepth 100000 in
set_option maxHeartbeats 2000000 in
theorem heapPush_any (hb : Nat) (l : List (Nat × Nat)) (x : Nat × Nat) (w : World) (hp : Hp w hb l) (hl : l.length ≤ 90000) :
    Calls Tryz.prog 105 #[.iface 106 (.pointer (some ⟨hb, 0, none⟩)), .iface 110 (.agg #[.int .i64 x.1, .int .i64 x.2])] w fun e w' => e = .returned (.tuple #[]) ∧ (∃ l', Hp w' hb l' ∧ l'.Perm (x :: l)) ∧ Fm w w' hb := by
  have mP := Tryz.mPush hb w
  have PU := hid (pushM_any hb l x w hp (by omega))
  clear hp
  generalize hx1 : (x.1 : Int) = x1 at *
  generalize hx2 : (x.2 : Int) = x2 at *
  go_enter Tryz.func105, Tryz.ntmps105
  go_wp2_with fail
  refine PU.out.mono ?_
  rintro e w1 ⟨rfl, hp1, hb1⟩
  obtain ⟨v, c0, ho⟩ := hp1.ex
  obtain ⟨g, cp, hv, hg1, hg2, hcp⟩ := owns_shape2 ho (by simp)
  subst hv
  have hgn : hb ≠ g := fun e => hp1.ne _ c0 (by rw [e]; rfl)
  have el : (l ++ [x]).length = l.length + 1 := by simp
  rw [el] at c0 ho
  have mN := Tryz.mLen hb w1 _ c0
  have LN := hid (len_any (some ⟨g, 0, none⟩) (l.length + 1) cp w1)
  have UP := hid (up_any hb l.length (l ++ [x]) w1 hp1 (by omega) (by omega))
  have HB1 := hid hb1
  obtain ⟨n, hn⟩ : ∃ n, n = l.length := ⟨_, rfl⟩
  rw [← hn] at hl mN LN UP
  clear hn hp1 hb1 ho c0 mP hg1 hg2 hcp el
  go_wp2_with fail
  refine LN.out.mono ?_
  rintro e w2 ⟨rfl, rfl⟩
  go_wp2_with fail
  refine UP.out.mono ?_
  rintro e w3 ⟨rfl, ⟨l', hp3, hpm⟩, hb3⟩
  have HP3 := hid hp3
  have HB3 := hid (HB1.out.trans hb3)
  have HPM := hid hpm
  clear hp3 hb3 hpm
  go_wp2_with fail
  go_end0
  exact ⟨rfl, ⟨l', HP3.out, HPM.out.trans (List.perm_append_singleton _ _)⟩, HB3.out⟩

theorem rw_set {w : World} {hb X o k : Nat} {u : Value} (hne : X ≠ hb) (h : Rw (w.setCell ⟨X, o, none⟩ u) hb k) : Rw w hb k := by
  obtain ⟨v, c, e⟩ := h
  rw [World.cell?_setCell_other _ _ _ _ (by intro h; injection h with h _; omega)] at c
  exact ⟨v, c, e⟩

theorem Hp.set {w : World} {hb X o : Nat} {u : Value} {l : List (Nat × Nat)} (h : Hp w hb l) (hne : X ≠ hb) (hr : ¬ Rw w hb X) : Hp (w.setCell ⟨X, o, none⟩ u) hb l := by
  obtain ⟨v, c, ho⟩ := h.ex
  refine Hp.of (v := v) ?_ (owns_setH ho (fun e => hr ⟨v, c, e⟩)) ?_ (h.ne v c)
  · rw [World.cell?_setCell_other _ _ _ _ (by intro h; injection h with h _; omega)]; exact c
  · rw [World.frozen?_setCell]; exact h.fr

theorem Fm.set {w w' : World} {hb X o : Nat} {u : Value} (h : Fm w w' hb) (hX : w.heap.size ≤ X) (hl : hb < w.heap.size) : Fm w (w'.setCell ⟨X, o, none⟩ u) hb :=
  ⟨h.os, h.tape, h.output, by simp [World.setCell]; exact h.size, fun k hk h1 h2 => (Below.heap_setCell _ _ _ _ (by show k ≠ X; omega)).trans (h.block k hk h1 h2), fun k hk hr => h.row k hk (rw_set (by omega) hr)⟩

theorem last_of {α : Type} : ∀ {l : List α}, 0 < l.length → ∃ r x, l = r ++ [x] := by
  intro l h
  exact ⟨l.dropLast, l.getLast (by intro e; subst e; simp at h), (List.dropLast_concat_getLast _).symm⟩

set_option maxRecDepth 100000 in
set_option maxHeartbeats 2000000 in
theorem heapPop_any (hb : Nat) (l : List (Nat × Nat)) (w : World) (hp : Hp w hb l) (hl : l.length ≤ 100000) (h0 : 0 < l.length) :
    Calls Tryz.prog 113 #[.iface 106 (.pointer (some ⟨hb, 0, none⟩))] w fun e w' => (∃ (x : Nat × Nat) (l' : List (Nat × Nat)), e = .returned (.iface 110 (.agg #[.int .i64 x.1, .int .i64 x.2])) ∧ Hp w' hb l' ∧ l.Perm (x :: l')) ∧ Fm w w' hb := by
  obtain ⟨m, hm⟩ : ∃ m, l.length = m + 1 := ⟨l.length - 1, by omega⟩
  obtain ⟨v, c0, ho⟩ := hp.ex
  obtain ⟨g, cp, hv, hg1, hg2, hcp⟩ := owns_shape2 ho (by omega)
  subst hv
  have hgn : hb ≠ g := fun e => hp.ne _ c0 (by rw [e]; rfl)
  rw [hm] at c0 ho
  have mN := Tryz.mLen hb w _ c0
  have mS := Tryz.mSwap hb w _ c0
  have LN := hid (len_any (some ⟨g, 0, none⟩) (m + 1) cp w)
  have SW := hid (swap_any (hb - 1) g (m + 1) cp 0 m l w ho hm (by omega) (by omega))
  have F0 := hid hp.fr
  have C0 := hid c0
  have HP := hid hp
  clear hp ho c0
  go_enter Tryz.func113, Tryz.ntmps113
  go_wp2_with fail
  refine LN.out.mono ?_
  rintro e w1 ⟨rfl, rfl⟩
  go_wp2_with fail
  refine SW.out.mono ?_
  rintro e w2 ⟨rfl, ho2, hg2'⟩
  have gne : some hb ≠ some g := by intro e; have := Option.some.inj e; omega
  have lt1 := hid HP.out.lt
  have HP2 : Hid (Hp w2 hb (swp l 0 m)) := hid (Hp.of (hg2'.cell (a := ⟨hb, 0, none⟩) C0.out gne) (by rw [swp_len, hm]; exact ho2) ((World.frozen?_of_block (a := ⟨hb, 0, none⟩) (hg2'.block hb lt1.out gne)).trans F0.out) (by intro e; exact hgn (Option.some.inj e).symm))
  have HB2 := hid (Fm.of_row (g := g) C0.out rfl hg2' (by omega))
  have PM2 := hid (swp_perm l 0 m (by omega) (by omega))
  have DN := hid (down_any hb m (swp l 0 m) w2 HP2.out (by rw [swp_len]; omega) (by rw [swp_len]; omega))
  have L2 := hid (swp_len l 0 m)
  clear ho2 hg2' mS mN LN SW
  go_wp2_with fail
  refine DN.out.mono ?_
  rintro e w3 ⟨⟨b, rfl⟩, ⟨l', hp3, hpm⟩, hb3⟩
  have hl3 := hpm.length_eq
  obtain ⟨r, x, rfl⟩ := last_of (show 0 < l'.length by rw [hl3, L2.out]; omega)
  have hrl : r.length ≤ 100000 := by simp [L2.out] at hl3; omega
  have mP := Tryz.mPop hb w3
  have PO := hid (popM_any hb r x w3 hp3 hrl)
  have HB3 := hid (HB2.out.trans hb3)
  have HPM := hid (hpm.trans PM2.out)
  clear hp3 hb3 hpm hl3 DN
  go_wp2_with fail
  refine PO.out.mono ?_
  rintro e w4 ⟨rfl, hp4, hb4⟩
  have HP4 := hid hp4
  have HB4 := hid (HB3.out.trans hb4)
  clear hp4 hb4 mP
  go_wp2_with fail
  go_ret
  exact ⟨⟨x, r, rfl, HP4.out, HPM.out.symm.trans (List.perm_append_singleton _ _)⟩, HB4.out⟩

theorem min_nat (a b : Nat) : min (a : Int) (b : Int) = ((min a b : Nat) : Int) := by omega
theorem max_nat (a b : Nat) : max (a : Int) (b : Int) = ((max a b : Nat) : Int) := by omega

set_option maxHeartbeats 1000000 in
theorem upward_any (u v : Nat) (w : World) :
    Calls Tryz.prog 106 #[.agg #[.int .i64 u, .int .i64 v]] w fun e w' => e = .returned (.agg #[.int .i64 ((up u v).1 : Nat), .int .i64 ((up u v).2 : Nat)]) ∧ Below w.heap.size w w' := by
  have e1 : min (u : Int) (v : Int) = ((up u v).1 : Nat) := min_nat u v
  have e2 : max (u : Int) (v : Int) = ((up u v).2 : Nat) := max_nat u v
  generalize (up u v).1 = x1 at *
  generalize (up u v).2 = x2 at *
  go_enter Tryz.func106, Tryz.ntmps106
  go_wp2
  refine bodyPost_ret (v := .agg #[.int .i64 x1, .int .i64 x2]) ?r rfl ?q
  case r => simp [results, Tryz.results106, go_sem]
  case q => exact ⟨rfl, ((Below.refl _ _).alloc (Nat.le_refl _) _).alloc (by simp) _⟩

set_option maxRecDepth 100000 in
set_option maxHeartbeats 2000000 in
/-- A side waits, upward. -/
theorem wait_any (hb u v : Nat) (l : List (Nat × Nat)) (w : World) (hp : Hp w hb l) (hl : l.length ≤ 90000) :
    Calls Tryz.prog 72 #[.pointer (some ⟨hb, 0, none⟩), .agg #[.int .i64 u, .int .i64 v]] w fun e w' => e = .returned (.tuple #[]) ∧ (∃ l', Hp w' hb l' ∧ l'.Perm (up u v :: l)) ∧ Fm w w' hb := by
  have U := hid (upward_any u v)
  have HP := hid hp
  have PU := hid (fun W (h : Hp W hb l) => heapPush_any hb l (up u v) W h hl)
  have LT := hid hp.lt
  generalize hu : up u v = x at *
  clear hp
  go_enter Tryz.func72, Tryz.ntmps72
  go_wp2_with fail
  refine (U.out _).mono ?_
  rintro e w1 ⟨rfl, hb1⟩
  have B1 := hid ((((Below.refl w.heap.size w).alloc (Nat.le_refl _) (.cells #[.int .i64 u, .int .i64 v] 110))).trans (hb1.mono (by simp)))
  have HP1 := hid (HP.out.below B1.out (Nat.le_refl _))
  clear hb1
  go_wp2_with fail
  refine (PU.out _ HP1.out).mono ?_
  rintro e w2 ⟨rfl, ⟨l', hp2, hpm⟩, hb2⟩
  have HP2 := hid hp2
  have HPM := hid hpm
  have B2 := hid ((Fm.of_below B1.out LT.out).trans hb2)
  clear hp2 hpm hb2
  go_wp2_with fail
  go_end0
  exact ⟨rfl, ⟨l', HP2.out, HPM.out⟩, B2.out⟩

set_option maxRecDepth 100000 in
set_option maxHeartbeats 2000000 in
theorem next_any (hb : Nat) (l : List (Nat × Nat)) (w : World) (hp : Hp w hb l) (hl : l.length ≤ 100000) (h0 : 0 < l.length) :
    Calls Tryz.prog 75 #[.pointer (some ⟨hb, 0, none⟩)] w fun e w' => (∃ (x : Nat × Nat) (l' : List (Nat × Nat)), e = .returned (.agg #[.int .i64 x.1, .int .i64 x.2]) ∧ Hp w' hb l' ∧ l.Perm (x :: l')) ∧ Fm w w' hb := by
  have HP := hid hp
  have PO := hid (fun W (h : Hp W hb l) => heapPop_any hb l W h hl h0)
  have LT := hid hp.lt
  obtain ⟨W1, hW1⟩ : ∃ W1, W1 = w.alloc (.cells #[.int .i64 0, .int .i64 0] 110) := ⟨_, rfl⟩
  have B1 : Hid (Below w.heap.size w W1) := hid (by rw [hW1]; exact (Below.refl _ _).alloc (Nat.le_refl _) _)
  have HP1 := hid (HP.out.below B1.out (Nat.le_refl _))
  clear hp
  have L1 := hid (show W1.heap.size = w.heap.size + 1 by rw [hW1]; simp)
  have K1 : Hid (W1.heap[w.heap.size]? = some (.cells #[.int .i64 0, .int .i64 0] 110 (0, 0))) := hid (by rw [hW1]; show (w.heap.push _)[w.heap.size]? = some _; exact Array.getElem?_push_size)
  go_enter Tryz.func75, Tryz.ntmps75
  go_wp2_with fail
  rw [← hW1]
  clear hW1
  refine (PO.out _ HP1.out).mono ?_
  rintro e w2 ⟨⟨x, l', rfl, hp2, hpm⟩, hf2⟩
  have NR : ¬ Rw W1 hb w.heap.size := by
    rintro ⟨v, c, e⟩
    obtain ⟨v0, c0, o0⟩ := HP.out.ex
    have c1 := (B1.out.cell (p := ⟨hb, 0, none⟩) LT.out).trans c0
    rw [c1] at c
    cases c
    have := own_geH o0 _ e
    omega
  have K2 : Hid (w2.heap[w.heap.size]? = some (.cells #[.int .i64 0, .int .i64 0] 110 (0, 0))) := hid ((hf2.block _ (by rw [L1.out]; omega) (by have := LT.out; omega) NR).trans K1.out)
  have HP2 := hid hp2
  have HPM := hid hpm
  have F2 := hid ((Fm.of_below B1.out LT.out).trans hf2)
  have ta := fun w => Tryz.as110 (.agg #[.int .i64 x.1, .int .i64 x.2]) w
  generalize hx1 : (x.1 : Int) = x1 at *
  generalize hx2 : (x.2 : Int) = x2 at *
  have NR2 := hid (show ¬ Rw w2 hb w.heap.size from fun h => NR (hf2.row _ (by rw [L1.out]; omega) h))
  clear hp2 hpm hf2 NR
  have k0 : w2.cell? ⟨w.heap.size, 0, none⟩ = some (.int .i64 0) := by simp [World.cell?, K2.out]
  have k1 : w2.cell? ⟨w.heap.size, 1, none⟩ = some (.int .i64 0) := by simp [World.cell?, K2.out]
  have q0 : w2.frozen? ⟨w.heap.size, 0, none⟩ = false := by simp [World.frozen?, K2.out]
  have q1 : w2.frozen? ⟨w.heap.size, 1, none⟩ = false := by simp [World.frozen?, K2.out]
  go_wp2_with fail
  refine bodyPost_ret (v := .agg #[.int .i64 x1, .int .i64 x2]) ?r rfl ?q
  case q =>
    refine ⟨⟨x, l', by rw [hx1, hx2], ?_, HPM.out⟩, ?_⟩
    · exact (HP2.out.set (by have := LT.out; omega) NR2.out).set (by have := LT.out; omega) (fun h => NR2.out (rw_set (by have := LT.out; omega) h))
    · exact (F2.out.set (Nat.le_refl _) LT.out).set (Nat.le_refl _) LT.out
  case r =>
    have y0 : ((w2.setCell ⟨w.heap.size, 0, none⟩ (.int .i64 x1)).setCell ⟨w.heap.size, 1, none⟩ (.int .i64 x2)).cell? ⟨w.heap.size, 0, none⟩ = some (.int .i64 x1) := by
      rw [World.cell?_setCell_other _ _ _ _ (by intro h; injection h with _ h; omega)]
      exact World.cell?_setCell_same _ _ _ k0
    have y1 : ((w2.setCell ⟨w.heap.size, 0, none⟩ (.int .i64 x1)).setCell ⟨w.heap.size, 1, none⟩ (.int .i64 x2)).cell? ⟨w.heap.size, 1, none⟩ = some (.int .i64 x2) :=
      World.cell?_setCell_same _ _ _ ((World.cell?_setCell_other _ _ _ _ (by intro h; injection h with _ h; omega)).trans k1)
    simp [results, Tryz.results75, go_sem, y0, y1]
end Go.Proofs.YtdbebbbceeopaaaGreat
