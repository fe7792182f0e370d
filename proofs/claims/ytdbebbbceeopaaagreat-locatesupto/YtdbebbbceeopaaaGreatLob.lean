import Derived.Test.YtdbebbbceeopaaaGreatLoa
import Derived.Test.YtdbebbbceeopaaaGreatShelf
set_option linter.unusedSimpArgs false
namespace Go.Proofs.YtdbebbbceeopaaaGreat
open Go.RowKit

theorem cell_new {w : World} {o : Obj} {a : Addr} {v : Value} (h : w.cell? a = some v) : (w.alloc o).cell? a = some v :=
  (((Below.refl w.heap.size w).alloc (Nat.le_refl _) o).cell (World.block_lt_of_cell? w _ h)).trans h

set_option maxRecDepth 100000 in
set_option maxHeartbeats 1000000 in
theorem lies_closure (px py : Nat → Int) (n qb qo cap bp bq : Nat) (t : Int × Int × Int) (x y : Int) (W : World) (hp : Pts W qb qo n px py) (X : -1000 ≤ x ∧ x ≤ 1000) (Y : -1000 ≤ y ∧ y ≤ 1000)
    (h1 : W.cell? ⟨bp, 0, none⟩ = some (.slice (some ⟨qb, qo, none⟩) n cap)) (h2 : W.cell? ⟨bq, 0, none⟩ = some (.int .i64 x)) (h3 : W.cell? ⟨bq, 1, none⟩ = some (.int .i64 y)) :
    Calls Tryz.prog 38 #[.agg #[.int .i64 t.1, .int .i64 t.2.1, .int .i64 t.2.2], .pointer (some ⟨bp, 0, none⟩), .pointer (some ⟨bq, 0, none⟩)] W fun e w' => e = .returned (.bool (liesB px py n x y t)) ∧ Below W.heap.size W w' := by
  obtain ⟨ta, tb, tc⟩ := t
  have HL := hid (fun (W' : World) (hb : Below W.heap.size W W') => liesIn_any px py n qb qo cap ta tb tc x y W' (hp.below hb hp.lt) X Y)
  have c1 := cell_new (o := .cells #[.int .i64 ta, .int .i64 tb, .int .i64 tc] 46) h1
  have c2 := cell_new (o := .cells #[.int .i64 ta, .int .i64 tb, .int .i64 tc] 46) h2
  have c3 := cell_new (o := .cells #[.int .i64 ta, .int .i64 tb, .int .i64 tc] 46) h3
  clear hp X Y
  go_enter Tryz.func38, Tryz.ntmps38
  go_wp2_with fail
  refine (HL.out _ ((Below.refl _ _).alloc (Nat.le_refl _) _)).mono ?_
  rintro e w' ⟨rfl, hb⟩
  have HB := hid hb
  clear hb h1 h2 h3 c1 c2 c3
  go_wp2_with fail
  go_ret
  exact ⟨rfl, ((Below.refl _ _).alloc (Nat.le_refl _) _).trans (HB.out.mono (by simp))⟩

/-- The triangles of a list of whole numbers. -/
def tris (z : List Int) (m : Nat) : List (Int × Int × Int) := (List.range m).map fun i => (z.getD (i * 3) 0, z.getD (i * 3 + 1) 0, z.getD (i * 3 + 2) 0)

theorem tris_len (z : List Int) (m : Nat) : (tris z m).length = m := by simp [tris]

theorem tris_at (z : List Int) (m j : Nat) (hj : j < m) : (tris z m)[j]! = (z.getD (j * 3) 0, z.getD (j * 3 + 1) 0, z.getD (j * 3 + 2) 0) := by
  rw [getElem!_pos _ _ (by simpa [tris] using hj)]
  simp [tris]

/-- A row of triangles: block g, from o on, m of them, three cells each. -/
def Trs (w : World) (g o m : Nat) (z : List Int) : Prop :=
  g < w.heap.size ∧ ∀ j, j < m → w.cell? ⟨g, o + j * 3, none⟩ = some (.int .i64 (z.getD (j * 3) 0)) ∧ w.cell? ⟨g, o + j * 3 + 1, none⟩ = some (.int .i64 (z.getD (j * 3 + 1) 0)) ∧ w.cell? ⟨g, o + j * 3 + 2, none⟩ = some (.int .i64 (z.getD (j * 3 + 2) 0))

theorem Trs.below {w w' : World} {g o m : Nat} {z : List Int} (h : Trs w g o m z) (hb : Below w.heap.size w w') : Trs w' g o m z :=
  ⟨Nat.lt_of_lt_of_le h.1 hb.size, fun j hj => ⟨(hb.cell h.1).trans (h.2 j hj).1, (hb.cell h.1).trans (h.2 j hj).2.1, (hb.cell h.1).trans (h.2 j hj).2.2⟩⟩

def encT (t : Int × Int × Int) : List Value := [.int .i64 t.1, .int .i64 t.2.1, .int .i64 t.2.2]

/-- What Locate answers. -/
def locI (px py : Nat → Int) (n : Nat) (z : List Int) (m : Nat) (x y : Int) : Int :=
  if nearB x && nearB y then Lib.idxBy (fun _ t => liesB px py n x y t) (tris z m) default else -1

theorem index_any (px py : Nat → Int) (n qb qo cap bp bq g o m mcap : Nat) (z : List Int) (x y : Int) (w : World) (hp : Pts w qb qo n px py) (X : -1000 ≤ x ∧ x ≤ 1000) (Y : -1000 ≤ y ∧ y ≤ 1000)
    (h1 : w.cell? ⟨bp, 0, none⟩ = some (.slice (some ⟨qb, qo, none⟩) n cap)) (h2 : w.cell? ⟨bq, 0, none⟩ = some (.int .i64 x)) (h3 : w.cell? ⟨bq, 1, none⟩ = some (.int .i64 y)) (ht : Trs w g o m z) (hm : m ≤ 2000000) :
    Calls Tryz.prog 37 #[.slice (some ⟨g, o, none⟩) m mcap, .func (.func 38) #[] #[.pointer (some ⟨bp, 0, none⟩), .pointer (some ⟨bq, 0, none⟩)]] w fun e w' =>
      e = .returned (.int .i64 (Lib.idxBy (fun _ t => liesB px py n x y t) (tris z m) default)) ∧ Below w.heap.size w w' := by
  have eg : ∀ args w, (callFunc 38 args).run Tryz.prog w = .ok (.enter 38 args) w := enters_of Tryz.func38 (by kernel_rfl) rfl
  have hpr : PredBelow Tryz.prog 38 #[.pointer (some ⟨bp, 0, none⟩), .pointer (some ⟨bq, 0, none⟩)] (fun t => .agg (encT t).toArray) (fun t => liesB px py n x y t) w := by
    intro W t hb
    have := lies_closure px py n qb qo cap bp bq t x y W (hp.below hb hp.lt) X Y ((hb.cell (World.block_lt_of_cell? w _ h1)).trans h1) ((hb.cell (World.block_lt_of_cell? w _ h2)).trans h2) ((hb.cell (World.block_lt_of_cell? w _ h3)).trans h3)
    refine this.mono ?_
    rintro e w' ⟨rfl, hb'⟩
    exact ⟨rfl, hb.trans (hb'.mono hb.size)⟩
  have := AnyQ.slices_IndexFunc Tryz.indexL 3 Tryz.isAgg46 Tryz.sizeOf46 encT (fun _ => rfl) (fun t => liesB px py n x y t) 38 #[.pointer (some ⟨bp, 0, none⟩), .pointer (some ⟨bq, 0, none⟩)] eg g o m mcap (tris z m) w hpr (by rw [tris_len]; exact Nat.le_refl _) (by omega) ht.1
    (fun j hj i v hi => by
      rw [tris_len] at hj
      rw [tris_at z m j hj] at hi
      obtain ⟨a1, a2, a3⟩ := ht.2 j hj
      rcases i with _ | _ | _ | i
      · simp [encT] at hi; subst hi; exact a1
      · simp [encT] at hi; subst hi; exact a2
      · simp [encT] at hi; subst hi; exact a3
      · simp [encT] at hi)
  change Calls Tryz.prog 37 _ _ _ at this
  rw [show (tris z m).take m = tris z m from List.take_of_length_le (by rw [tris_len]; exact Nat.le_refl _)] at this
  exact this

set_option maxRecDepth 100000 in
set_option maxHeartbeats 1000000 in
theorem locate_any (px py : Nat → Int) (n qb qo cap g o m mcap : Nat) (z : List Int) (x y : Int) (w : World) (hp : Pts w qb qo n px py) (ht : Trs w g o m z) (hm : m ≤ 2000000) :
    Calls Tryz.prog 24 #[.slice (some ⟨qb, qo, none⟩) n cap, .slice (some ⟨g, o, none⟩) m mcap, .agg #[.int .i64 x, .int .i64 y]] w fun e w' => e = .returned (.int .i64 (locI px py n z m x y)) ∧ Below w.heap.size w w' := by
  have HP := hid hp
  have HT := hid ht
  have HI := hid (inBounds_any x y)
  unfold locI
  clear hp ht
  cases hr : (nearB x && nearB y) with
  | false =>
    rw [hr] at HI
    rw [if_neg (by simp)]
    clear hr
    go_enter Tryz.func24, Tryz.ntmps24
    go_wp2_with fail
    have b2 : Hid (Below w.heap.size w ((w.alloc (.cells #[.slice (some ⟨qb, qo, none⟩) n cap] 26)).alloc (.cells #[.int .i64 x, .int .i64 y] 35))) := hid (((Below.refl _ _).alloc (Nat.le_refl _) _).alloc (by simp) _)
    refine (HI.out _).mono ?_
    rintro e w' ⟨rfl, hb⟩
    have HB := bstep b2 hb
    clear hb b2
    go_wp2_with fail
    go_ret
    exact ⟨rfl, HB.out⟩
  | true =>
    rw [hr] at HI
    rw [if_pos rfl]
    obtain ⟨r, hr'⟩ : ∃ r, Lib.idxBy (fun _ t => liesB px py n x y t) (tris z m) default = r := ⟨_, rfl⟩
    rw [hr']
    have HR := hid hr'
    clear hr'
    rw [Bool.and_eq_true, nearB_iff, nearB_iff] at hr
    obtain ⟨X, Y⟩ := hr
    have HX := hid X
    have HY := hid Y
    clear X Y
    go_enter Tryz.func24, Tryz.ntmps24
    go_wp2_with fail
    obtain ⟨W1, hW1⟩ : ∃ W1 : World, W1 = (w.alloc (.cells #[.slice (some ⟨qb, qo, none⟩) n cap] 26)).alloc (.cells #[.int .i64 x, .int .i64 y] 35) := ⟨_, rfl⟩
    rw [← hW1]
    have b1 : Hid (Below w.heap.size w W1) := hid (by rw [hW1]; exact ((Below.refl _ _).alloc (Nat.le_refl _) _).alloc (by simp) _)
    have a1 : W1.cell? ⟨w.heap.size, 0, none⟩ = some (.slice (some ⟨qb, qo, none⟩) n cap) := by
      rw [hW1, World.cell?_alloc_past _ _ _ (by simp), World.cell?_alloc_at _ _ _ _ (by simp)]; rfl
    have a2 : W1.cell? ⟨w.heap.size + 1, 0, none⟩ = some (.int .i64 x) := by rw [hW1, World.cell?_alloc_at _ _ _ _ (by simp)]; rfl
    have a3 : W1.cell? ⟨w.heap.size + 1, 1, none⟩ = some (.int .i64 y) := by rw [hW1, World.cell?_alloc_at _ _ _ _ (by simp)]; rfl
    clear hW1
    refine (HI.out _).mono ?_
    rintro e W2 ⟨rfl, hb⟩
    have HB := bstep b1 hb
    have A1 := hid ((hb.cell (World.block_lt_of_cell? W1 _ a1)).trans a1)
    have A2 := hid ((hb.cell (World.block_lt_of_cell? W1 _ a2)).trans a2)
    have A3 := hid ((hb.cell (World.block_lt_of_cell? W1 _ a3)).trans a3)
    clear hb a1 a2 a3 b1
    go_wp2_with fail
    refine (index_any px py n qb qo cap w.heap.size (w.heap.size + 1) g o m mcap z x y W2 (HP.out.below HB.out HP.out.lt) HX.out HY.out A1.out A2.out A3.out (HT.out.below HB.out) hm).mono ?_
    rintro e W3 ⟨rfl, hb⟩
    have HB3 := bstep HB hb
    clear hb
    rw [HR.out]
    go_wp2_with fail
    go_ret
    exact ⟨rfl, HB3.out⟩
end Go.Proofs.YtdbebbbceeopaaaGreat
