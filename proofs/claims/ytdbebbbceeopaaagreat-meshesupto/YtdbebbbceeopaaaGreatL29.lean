import Derived.Test.YtdbebbbceeopaaaGreatL28
import Derived.Test.YtdbebbbceeopaaaGreatL27
set_option linter.unusedSimpArgs false
namespace Go.Proofs.YtdbebbbceeopaaaGreat
open Go.RowKit Go.Maps
open Flt (Is)

set_option maxHeartbeats 1000000 in
theorem btw99 (ra ia rb ib rp ip bA bB : Nat) (px py : Nat → Int) (a b p : Nat) (hax : Is ra (px a)) (hay : Is ia (py a)) (hbx : Is rb (px b)) (hby : Is ib (py b)) (hpx : Is rp (px p)) (hpy : Is ip (py p))
    (A : (-1000 ≤ px a ∧ px a ≤ 1000) ∧ (-1000 ≤ py a ∧ py a ≤ 1000)) (B : (-1000 ≤ px b ∧ px b ≤ 1000) ∧ (-1000 ≤ py b ∧ py b ≤ 1000)) (P : (-1000 ≤ px p ∧ px p ≤ 1000) ∧ (-1000 ≤ py p ∧ py p ≤ 1000)) (w : World)
    (cA : w.cell? ⟨bA, 0, none⟩ = some (.complex .f64 ra ia)) (cB : w.cell? ⟨bB, 0, none⟩ = some (.complex .f64 rb ib)) :
    Calls Tryz.prog 99 #[.complex .f64 rp ip, .pointer (some ⟨bA, 0, none⟩), .pointer (some ⟨bB, 0, none⟩)] w fun e w' => e = .returned (.bool (betwB px py a b p)) ∧ Below w.heap.size w w' := by
  have C := hid (fun W => plBetween_any ra ia rb ib rp ip px py a b p hax hay hbx hby hpx hpy A B P W)
  clear hax hay hbx hby hpx hpy A B P
  go_enter Tryz.func99, Tryz.ntmps99
  go_wp2_with fail
  refine (C.out _).mono ?_
  rintro e w1 ⟨rfl, rfl⟩
  go_wp2_with fail
  go_ret
  exact ⟨rfl, Below.refl _ _⟩

set_option maxRecDepth 100000 in
set_option maxHeartbeats 2000000 in
theorem crs102 (ra ia rb ib bA bB bP pb po n cap u v : Nat) (px py : Nat → Int) (a b : Nat) (hax : Is ra (px a)) (hay : Is ia (py a)) (hbx : Is rb (px b)) (hby : Is ib (py b))
    (A : (-1000 ≤ px a ∧ px a ≤ 1000) ∧ (-1000 ≤ py a ∧ py a ≤ 1000)) (B : (-1000 ≤ px b ∧ px b ≤ 1000) ∧ (-1000 ≤ py b ∧ py b ≤ 1000)) (w : World) (hp : Plc w pb po n px py) (hu : u < n) (hv : v < n)
    (cA : w.cell? ⟨bA, 0, none⟩ = some (.complex .f64 ra ia)) (cB : w.cell? ⟨bB, 0, none⟩ = some (.complex .f64 rb ib)) (cP : w.cell? ⟨bP, 0, none⟩ = some (.slice (some ⟨pb, po, none⟩) n cap)) :
    Calls Tryz.prog 102 #[.agg #[.int .i64 u, .int .i64 v], .pointer (some ⟨bA, 0, none⟩), .pointer (some ⟨bB, 0, none⟩), .pointer (some ⟨bP, 0, none⟩)] w fun e w' => e = .returned (.bool (crossB px py a b u v)) ∧ Below w.heap.size w w' := by
  obtain ⟨W1, hW1⟩ : ∃ W1 : World, W1 = w.alloc (.cells #[.int .i64 u, .int .i64 v] 54) := ⟨_, rfl⟩
  have B1 : Hid (Below w.heap.size w W1) := hid (by rw [hW1]; exact (Below.refl _ _).alloc (Nat.le_refl _) _)
  obtain ⟨ru, iu, cu, au, au'⟩ := hp.cell u hu
  obtain ⟨rv, iv, cv, av, av'⟩ := hp.cell v hv
  have C := hid (fun W => cross_any ra ia rb ib ru iu rv iv px py a b u v hax hay hbx hby au au' av av' A B (hp.bd u hu) (hp.bd v hv) W)
  have x0 : W1.cell? ⟨w.heap.size, 0, none⟩ = some (.int .i64 u) := by rw [hW1]; exact World.cell?_alloc_at _ _ _ _ rfl
  have x1 : W1.cell? ⟨w.heap.size, 1, none⟩ = some (.int .i64 v) := by rw [hW1]; exact World.cell?_alloc_at _ _ _ _ rfl
  have yA : W1.cell? ⟨bA, 0, none⟩ = some (.complex .f64 ra ia) := by rw [hW1]; exact cell_new cA
  have yB : W1.cell? ⟨bB, 0, none⟩ = some (.complex .f64 rb ib) := by rw [hW1]; exact cell_new cB
  have yP : W1.cell? ⟨bP, 0, none⟩ = some (.slice (some ⟨pb, po, none⟩) n cap) := by rw [hW1]; exact cell_new cP
  have zu : W1.cell? ⟨pb, po + u, none⟩ = some (.complex .f64 ru iu) := by rw [hW1]; exact cell_new cu
  have zv : W1.cell? ⟨pb, po + v, none⟩ = some (.complex .f64 rv iv) := by rw [hW1]; exact cell_new cv
  have gu : (u : Int) < n := by omega
  have gv : (v : Int) < n := by omega
  have gu0 : (0 : Int) ≤ u := by omega
  have gv0 : (0 : Int) ≤ v := by omega
  have START : W1.drew.cell? ⟨w.heap.size, 0, none⟩ = some (.int .i64 u) ∧ W1.drew.cell? ⟨w.heap.size, 1, none⟩ = some (.int .i64 v) ∧ W1.drew.cell? ⟨bA, 0, none⟩ = some (.complex .f64 ra ia) ∧ W1.drew.cell? ⟨bB, 0, none⟩ = some (.complex .f64 rb ib) ∧ W1.drew.cell? ⟨bP, 0, none⟩ = some (.slice (some ⟨pb, po, none⟩) n cap) ∧ W1.drew.cell? ⟨pb, po + u, none⟩ = some (.complex .f64 ru iu) ∧ W1.drew.cell? ⟨pb, po + v, none⟩ = some (.complex .f64 rv iv) := ⟨x0, x1, yA, yB, yP, zu, zv⟩
  obtain ⟨cr, hcr⟩ : ∃ cr, cr = crossB px py a b u v := ⟨_, rfl⟩
  rw [← hcr] at C ⊢
  clear hcr hp cu cv au au' av av' hax hay hbx hby A B cA cB cP
  go_enter Tryz.func102, Tryz.ntmps102
  go_wp2_with fail
  rw [← hW1]
  clear hW1
  go_region_held3 (fun W => W.cell? ⟨w.heap.size, 0, none⟩ = some (.int .i64 u) ∧ W.cell? ⟨w.heap.size, 1, none⟩ = some (.int .i64 v) ∧ W.cell? ⟨bA, 0, none⟩ = some (.complex .f64 ra ia) ∧ W.cell? ⟨bB, 0, none⟩ = some (.complex .f64 rb ib) ∧ W.cell? ⟨bP, 0, none⟩ = some (.slice (some ⟨pb, po, none⟩) n cap) ∧ W.cell? ⟨pb, po + u, none⟩ = some (.complex .f64 ru iu) ∧ W.cell? ⟨pb, po + v, none⟩ = some (.complex .f64 rv iv)) (assumption)
    ((go_at_call 103; refine (C.out _).mono ?_; rintro e w9 ⟨rfl, he9⟩; subst he9))
  clear START
  go_wp2_with fail
  go_ret
  exact ⟨rfl, B1.out.drew⟩
end Go.Proofs.YtdbebbbceeopaaaGreat

set_option linter.unusedSimpArgs false
namespace Go.Proofs.YtdbebbbceeopaaaGreat
open Go.RowKit Go.Maps
open Flt (Is)

/-- Is something in the way of the line of this number? -/
def wayB (px py : Nat → Int) (n : Nat) (xs : List (Nat × Nat)) (i : Nat) : Prop := (∃ p, p < n ∧ betwB px py (xs.getD i (0, 0)).1 (xs.getD i (0, 0)).2 p = true) ∨ ∃ j, j < i ∧ crossB px py (xs.getD i (0, 0)).1 (xs.getD i (0, 0)).2 (xs.getD j (0, 0)).1 (xs.getD j (0, 0)).2 = true

/-- Does a line cross one ahead of it? -/
def crF (px py : Nat → Int) (xs : List (Nat × Nat)) (u v j : Nat) : Bool := crossB px py u v (xs.getD j (0, 0)).1 (xs.getD j (0, 0)).2

/-- What isInTheWay answers. -/
def WayR (px py : Nat → Int) (n : Nat) (xs : List (Nat × Nat)) (e : Ending) : Prop := ∃ b : Bool, e = .returned (.bool b) ∧ (b = true ↔ ∃ i, i < xs.length ∧ wayB px py n xs i)

set_option maxRecDepth 100000 in
set_option maxHeartbeats 8000000 in
theorem inWay_any (pb po n cap lcap : Nat) (px py : Nat → Int) (la : Option Addr) (xs : List (Nat × Nat)) (w : World) (hn : n ≤ 40) (hp : Plc w pb po n px py) (hl : Lns w la xs) (hk : xs.length ≤ 100) (hcap : xs.length ≤ lcap) (hx : ∀ x ∈ xs, x.1 < n ∧ x.2 < n) :
    Calls Tryz.prog 70 #[.slice (some ⟨pb, po, none⟩) n cap, .slice la xs.length lcap] w fun e w' => WayR px py n xs e ∧ Below w.heap.size w w' := by
  obtain ⟨W0, hW0⟩ : ∃ W0 : World, W0 = w.alloc (.cells #[.slice (some ⟨pb, po, none⟩) n cap] 68) := ⟨_, rfl⟩
  have B0 : Hid (Below w.heap.size w W0) := hid (by rw [hW0]; exact (Below.refl _ _).alloc (Nat.le_refl _) _)
  have P0 : W0.cell? ⟨w.heap.size, 0, none⟩ = some (.slice (some ⟨pb, po, none⟩) n cap) := by rw [hW0]; exact World.cell?_alloc_at _ _ _ _ rfl
  have HP := hid (hp.below B0.out hp.lt)
  have HL := hid (hl.below B0.out)
  have HX := hid hx
  have HP0 := hid P0
  have hW0s : Hid (w.heap.size < W0.heap.size) := hid (World.block_lt_of_cell? W0 _ P0)
  obtain ⟨k, hkk⟩ : ∃ k, k = xs.length := ⟨_, rfl⟩
  have HK := hid hkk
  rw [← hkk] at hk hcap ⊢
  clear hp hl hx hkk P0
  go_enter Tryz.func70, Tryz.ntmps70
  go_wp2_with fail
  rw [← hW0]
  clear hW0
  obtain ⟨bP, hbP⟩ : ∃ bP, bP = w.heap.size := ⟨_, rfl⟩
  rw [← hbP] at HP0 hW0s ⊢
  have HBP := hid hbP
  clear hbP
  go_loopw [11] (fun ix wr => ∃ i : Nat, i ≤ k ∧ ix = .int .i64 i ∧ Hid (∀ r, r < i → ¬ wayB px py n xs r) ∧ Hid (Below W0.heap.size W0 wr)) (fun ix _ => k - (intOf ix).toNat)
  case atStart => exact ⟨0, Nat.zero_le _, rfl, hid (fun r h => by omega), hid (Below.refl _ _)⟩
  case round =>
    obtain ⟨i, hi, rfl, HJ, HB⟩ := hrel
    by_cases hik : i < k
    · have hik' : (i : Int) < k := by omega
      have hix : i < xs.length := by rw [← HK.out]; exact hik
      obtain ⟨lg, lo, hla, hlg, hlc⟩ : ∃ lg lo, la = some ⟨lg, lo, none⟩ ∧ lg < W0.heap.size ∧ (W0.cell? ⟨lg, lo + i * 2, none⟩ = some (.int .i64 (xs[i].1 : Nat)) ∧ W0.cell? ⟨lg, lo + i * 2 + 1, none⟩ = some (.int .i64 (xs[i].2 : Nat))) := by
        rcases HL.out with h | ⟨g, o, e, h1, h2⟩
        · rw [h] at hix; simp at hix
        · exact ⟨g, o, e, h1, h2 i hix⟩
      subst hla
      have xc := (HB.out.cell (p := ⟨lg, lo + i * 2, none⟩) hlg).trans hlc.1
      have yc := (HB.out.cell (p := ⟨lg, lo + i * 2 + 1, none⟩) hlg).trans hlc.2
      have gd : xs.getD i (0, 0) = xs[i] := by simp [List.getD_eq_getElem?_getD, hix]
      have huv := HX.out xs[i] (List.getElem_mem hix)
      have HWB : Hid (wayB px py n xs i ↔ (∃ p, p < n ∧ betwB px py xs[i].1 xs[i].2 p = true) ∨ ∃ j, j < i ∧ crossB px py xs[i].1 xs[i].2 (xs.getD j (0, 0)).1 (xs.getD j (0, 0)).2 = true) := hid (by unfold wayB; rw [gd])
      obtain ⟨u, hu⟩ : ∃ u, u = xs[i].1 := ⟨_, rfl⟩
      obtain ⟨v, hv⟩ : ∃ v, v = xs[i].2 := ⟨_, rfl⟩
      rw [← hu] at xc huv HWB
      rw [← hv] at yc huv HWB
      clear hu hv hlc gd
      obtain ⟨W1, hW1⟩ : ∃ W1, W1 = wr.alloc (.cells #[.int .i64 (u : Nat), .int .i64 (v : Nat)] 54) := ⟨_, rfl⟩
      have b1 : Below wr.heap.size wr W1 := by rw [hW1]; exact (Below.refl _ _).alloc (Nat.le_refl _) _
      have S1 : W1.heap.size = wr.heap.size + 1 := by rw [hW1]; simp
      have HB1 := hid (HB.out.trans (b1.mono HB.out.size))
      have HPW := HP.out.below HB1.out HP.out.lt
      obtain ⟨ri, ii, ci, Ii, Ii'⟩ := HPW.cell u huv.1
      obtain ⟨rj, ij, cj, Ij, Ij'⟩ := HPW.cell v huv.2
      have cP := (HB1.out.cell (p := ⟨bP, 0, none⟩) hW0s.out).trans HP0.out
      have x0 : W1.cell? ⟨wr.heap.size, 0, none⟩ = some (.int .i64 (u : Nat)) := by rw [hW1]; exact World.cell?_alloc_at _ _ _ _ rfl
      have x1 : W1.cell? ⟨wr.heap.size, 1, none⟩ = some (.int .i64 (v : Nat)) := by rw [hW1]; exact World.cell?_alloc_at _ _ _ _ rfl
      have l1 := World.block_lt_of_cell? W1 _ cP
      have l2 := World.block_lt_of_cell? W1 _ ci
      have l3 := World.block_lt_of_cell? W1 _ x0
      have gu : (u : Int) < n := by omega
      have gv : (v : Int) < n := by omega
      have gu0 : (0 : Int) ≤ u := by omega
      have gv0 : (0 : Int) ≤ v := by omega
      have q1 : (0 : Int) ≤ (i : Int) := by omega
      have t0 : ((W1.alloc (.cells #[.complex .f64 0 0] 94)).alloc (.cells #[.complex .f64 0 0] 94)).cell? ⟨wr.heap.size + 1, 0, none⟩ = some (.complex .f64 0 0) := by
        rw [World.cell?_alloc_past _ _ _ (by simp; omega), World.cell?_alloc_at _ _ _ _ (by omega)]; rfl
      have t1 : ((W1.alloc (.cells #[.complex .f64 0 0] 94)).alloc (.cells #[.complex .f64 0 0] 94)).cell? ⟨wr.heap.size + 1 + 1, 0, none⟩ = some (.complex .f64 0 0) := by
        rw [World.cell?_alloc_at _ _ _ _ (by simp; omega)]; rfl
      have f0 : ((W1.alloc (.cells #[.complex .f64 0 0] 94)).alloc (.cells #[.complex .f64 0 0] 94)).frozen? ⟨wr.heap.size + 1, 0, none⟩ = false := by
        rw [World.frozen?_alloc_past _ _ _ (by simp; omega), World.frozen?_alloc_at _ _ _ _ (by omega)]
      have f1 : ((W1.alloc (.cells #[.complex .f64 0 0] 94)).alloc (.cells #[.complex .f64 0 0] 94)).frozen? ⟨wr.heap.size + 1 + 1, 0, none⟩ = false := by
        rw [World.frozen?_alloc_at _ _ _ _ (by simp; omega)]
      have s0 : ∀ u, (((W1.alloc (.cells #[.complex .f64 0 0] 94)).alloc (.cells #[.complex .f64 0 0] 94)).drew.setCell ⟨wr.heap.size + 1, 0, none⟩ u).cell? ⟨wr.heap.size + 1 + 1, 0, none⟩ = some (.complex .f64 0 0) := fun u => by rw [World.cell?_setCell_far _ _ _ _ (by show _ + 1 ≠ _ + 1 + 1; omega)]; exact t1
      have s1 : ∀ u, (((W1.alloc (.cells #[.complex .f64 0 0] 94)).alloc (.cells #[.complex .f64 0 0] 94)).drew.setCell ⟨wr.heap.size + 1 + 1, 0, none⟩ u).cell? ⟨wr.heap.size + 1, 0, none⟩ = some (.complex .f64 0 0) := fun u => by rw [World.cell?_setCell_far _ _ _ _ (by show _ + 1 + 1 ≠ _ + 1; omega)]; exact t0
      have t0' : ((W1.alloc (.cells #[.complex .f64 0 0] 94)).alloc (.cells #[.complex .f64 0 0] 94)).drew.cell? ⟨wr.heap.size + 1, 0, none⟩ = some (.complex .f64 0 0) := t0
      have t1' : ((W1.alloc (.cells #[.complex .f64 0 0] 94)).alloc (.cells #[.complex .f64 0 0] 94)).drew.cell? ⟨wr.heap.size + 1 + 1, 0, none⟩ = some (.complex .f64 0 0) := t1
      have f0' : ((W1.alloc (.cells #[.complex .f64 0 0] 94)).alloc (.cells #[.complex .f64 0 0] 94)).drew.frozen? ⟨wr.heap.size + 1, 0, none⟩ = false := f0
      have f1' : ((W1.alloc (.cells #[.complex .f64 0 0] 94)).alloc (.cells #[.complex .f64 0 0] 94)).drew.frozen? ⟨wr.heap.size + 1 + 1, 0, none⟩ = false := f1
      have h0 : ∀ u, (((W1.alloc (.cells #[.complex .f64 0 0] 94)).alloc (.cells #[.complex .f64 0 0] 94)).drew.setCell ⟨wr.heap.size + 1, 0, none⟩ u).frozen? ⟨wr.heap.size + 1 + 1, 0, none⟩ = false := fun u => by rw [World.frozen?_setCell]; exact f1
      have h1 : ∀ u, (((W1.alloc (.cells #[.complex .f64 0 0] 94)).alloc (.cells #[.complex .f64 0 0] 94)).drew.setCell ⟨wr.heap.size + 1 + 1, 0, none⟩ u).frozen? ⟨wr.heap.size + 1, 0, none⟩ = false := fun u => by rw [World.frozen?_setCell]; exact f0
      have hst : ∀ (a : Addr) (m : Mode) (x y : Nat) (w : World), (store a (.complex .f64 x y) m).run Tryz.prog w = stored Tryz.prog w a (.complex .f64 x y) m := fun a m x y w => run_store Tryz.prog w a _ m rfl
      have HII := hid (And.intro (And.intro Ii Ii') (And.intro Ij Ij'))
      have HPP := hid HPW
      clear Ii Ii' Ij Ij' HPW
      go_wp2_with fail
      rw [← hW1]
      clear hW1
      go_region_held3 (fun W => W.cell? ⟨bP, 0, none⟩ = some (.slice (some ⟨pb, po, none⟩) n cap) ∧ W.cell? ⟨wr.heap.size, 0, none⟩ = some (.int .i64 (u : Nat)) ∧ W.cell? ⟨wr.heap.size, 1, none⟩ = some (.int .i64 (v : Nat)) ∧ W.cell? ⟨pb, po + u, none⟩ = some (.complex .f64 ri ii) ∧ W.cell? ⟨pb, po + v, none⟩ = some (.complex .f64 rj ij)) (go_keep) (fail)
      all_goals
        clear t0 t1 f0 f1 s0 s1 t0' t1' f0' f1' h0 h1 hst
        first
          | (obtain ⟨W4, hW4⟩ : ∃ W4 : World, W4 = ((W1.alloc (.cells #[.complex .f64 ri ii] 94)).alloc (.cells #[.complex .f64 rj ij] 94)).drew := ⟨_, rfl⟩
             rw [← hW4]
             have hAB := ab_new W1 (wr.heap.size + 1) S1 (.complex .f64 ri ii) (.complex .f64 rj ij)
             rw [← hW4] at hAB
             obtain ⟨b3, hb3⟩ : ∃ b3, b3 = wr.heap.size + 1 + 1 := ⟨_, rfl⟩
             obtain ⟨b2, hb2⟩ : ∃ b2, b2 = wr.heap.size + 1 := ⟨_, rfl⟩
             rw [← hb3, ← hb2]
             rw [← hb3, ← hb2] at hAB
             obtain ⟨bA, hbA⟩ : ∃ bA, bA = b2 := ⟨_, rfl⟩
             obtain ⟨bB, hbB⟩ : ∃ bB, bB = b3 := ⟨_, rfl⟩
             rw [← hbA, ← hbB]
             rw [← hbA, ← hbB] at hAB
             have cA : W4.cell? ⟨bA, 0, none⟩ = some (.complex .f64 ri ii) := hAB.1
             have cB : W4.cell? ⟨bB, 0, none⟩ = some (.complex .f64 rj ij) := hAB.2.1)
          | (obtain ⟨W4, hW4⟩ : ∃ W4 : World, W4 = ((W1.alloc (.cells #[.complex .f64 rj ij] 94)).alloc (.cells #[.complex .f64 ri ii] 94)).drew := ⟨_, rfl⟩
             rw [← hW4]
             have hAB := ab_new W1 (wr.heap.size + 1) S1 (.complex .f64 rj ij) (.complex .f64 ri ii)
             rw [← hW4] at hAB
             obtain ⟨b3, hb3⟩ : ∃ b3, b3 = wr.heap.size + 1 + 1 := ⟨_, rfl⟩
             obtain ⟨b2, hb2⟩ : ∃ b2, b2 = wr.heap.size + 1 := ⟨_, rfl⟩
             rw [← hb3, ← hb2]
             rw [← hb3, ← hb2] at hAB
             obtain ⟨bA, hbA⟩ : ∃ bA, bA = b3 := ⟨_, rfl⟩
             obtain ⟨bB, hbB⟩ : ∃ bB, bB = b2 := ⟨_, rfl⟩
             rw [← hbA, ← hbB]
             rw [← hbA, ← hbB] at hAB
             have cA : W4.cell? ⟨bA, 0, none⟩ = some (.complex .f64 ri ii) := hAB.2.1
             have cB : W4.cell? ⟨bB, 0, none⟩ = some (.complex .f64 rj ij) := hAB.1)
        have b4 := hAB.2.2.1
        have z4 : W4.heap.size = wr.heap.size + 3 := by have := hAB.2.2.2; omega
        have HB4 := hid (HB1.out.trans (b4.mono HB1.out.size))
        have HP4 := hid (HPP.out.below b4 HPP.out.lt)
        have cP4 := (b4.cell l1).trans cP
        have HC := hid (And.intro cA (And.intro cB cP4))
        have bu := HP4.out.bd u huv.1
        have bv := HP4.out.bd v huv.2
        have kp : ∀ W, Below W4.heap.size W4 W → W.cell? ⟨bA, 0, none⟩ = some (.complex .f64 ri ii) ∧ W.cell? ⟨bB, 0, none⟩ = some (.complex .f64 rj ij) ∧ W.cell? ⟨bP, 0, none⟩ = some (.slice (some ⟨pb, po, none⟩) n cap) := fun W hW => ⟨(hW.cell (World.block_lt_of_cell? W4 _ cA)).trans cA, (hW.cell (World.block_lt_of_cell? W4 _ cB)).trans cB, (hW.cell (World.block_lt_of_cell? W4 _ cP4)).trans cP4⟩
        have CL : ∀ (W : World) (p r q : Nat), p < n → Below W4.heap.size W4 W → W4.cell? ⟨pb, po + p, none⟩ = some (.complex .f64 r q) → Calls Tryz.prog 99 #[.complex .f64 r q, .pointer (some ⟨bA, 0, none⟩), .pointer (some ⟨bB, 0, none⟩)] W fun e w' => e = .returned (.bool (betwB px py u v p)) ∧ Below W.heap.size W w' := fun W p r q hpn hW hc => by
          obtain ⟨r', q', e1, e2, e3⟩ := HP4.out.cell p hpn
          rw [e1] at hc
          have e4 : r' = r ∧ q' = q := by simpa using hc
          obtain ⟨rfl, rfl⟩ := e4
          exact btw99 ri ii rj ij r' q' bA bB px py u v p HII.out.1.1 HII.out.1.2 HII.out.2.1 HII.out.2.2 e2 e3 bu bv (HP4.out.bd p hpn) W (kp W hW).1 (kp W hW).2.1
        have C98 := hid (contains98 pb po n cap px py (betwB px py u v) #[.pointer (some ⟨bA, 0, none⟩), .pointer (some ⟨bB, 0, none⟩)] W4 (by omega) HP4.out CL)
        clear CL
        have HKP := hid kp
        have HUV := hid (And.intro huv (And.intro bu bv))
        clear hAB hW4 hb3 hb2 hbA hbB b4 x0 x1 ci cj cP S1 l1 l2 l3 cA cB kp xc yc b1 huv bu bv
        go_wp2_with fail
        refine C98.out.mono ?_
        rintro e w5 ⟨he, hb5⟩
        obtain ⟨bt, hbt⟩ : ∃ bt, bt = decide (∃ p, p < n ∧ betwB px py u v p = true) := ⟨_, rfl⟩
        have he' : e = .returned (.bool bt) := by rw [hbt]; exact he
        subst he'
        have HB5 := hid (HB4.out.trans (hb5.mono HB4.out.size))
        have HBE := hid hb5
        have HBT := hid hbt
        clear he hb5 hbt C98
        cases bt with
        | true =>
          have YES := hid (HWB.out.2 (.inl (of_decide_eq_true HBT.out.symm)))
          go_wp2_with fail
          go_ret
          exact ⟨⟨true, rfl, ⟨fun _ => ⟨i, by rw [← HK.out]; exact hik, YES.out⟩, fun _ => rfl⟩⟩, B0.out.trans (HB5.out.mono B0.out.size)⟩
        | false =>
          have NB := hid (of_decide_eq_false HBT.out.symm)
          have CL2 : ∀ (W : World) (j : Nat) (hj : j < xs.length), j < i → Below w5.heap.size w5 W → Calls Tryz.prog 102 #[.agg #[.int .i64 (xs[j].1 : Nat), .int .i64 (xs[j].2 : Nat)], .pointer (some ⟨bA, 0, none⟩), .pointer (some ⟨bB, 0, none⟩), .pointer (some ⟨bP, 0, none⟩)] W fun e w' => e = .returned (.bool (crF px py xs u v j)) ∧ Below W.heap.size W w' := fun W j hj hji hW => by
            have hWW := HBE.out.trans (hW.mono HBE.out.size)
            have gd : xs.getD j (0, 0) = xs[j] := by simp [List.getD_eq_getElem?_getD, hj]
            have ge : crF px py xs u v j = crossB px py u v xs[j].1 xs[j].2 := by unfold crF; rw [gd]
            rw [ge]
            have hxj := HX.out xs[j] (List.getElem_mem hj)
            have kk := HKP.out W hWW
            exact crs102 ri ii rj ij bA bB bP pb po n cap xs[j].1 xs[j].2 px py u v HII.out.1.1 HII.out.1.2 HII.out.2.1 HII.out.2.2 HUV.out.2.1 HUV.out.2.2 W (HP4.out.below hWW HP4.out.lt) hxj.1 hxj.2 kk.1 kk.2.1 kk.2.2
          have C101 := hid (contains101 i lcap (some ⟨lg, lo, none⟩) xs (crF px py xs u v) #[.pointer (some ⟨bA, 0, none⟩), .pointer (some ⟨bB, 0, none⟩), .pointer (some ⟨bP, 0, none⟩)] w5 (by omega) (HL.out.below HB5.out) (by omega) CL2)
          clear CL2
          have hil : (i : Int) ≤ lcap := by omega
          go_wp2_with fail
          refine C101.out.mono ?_
          rintro e w6 ⟨he, hb6⟩
          obtain ⟨ct, hct⟩ : ∃ ct, ct = decide (∃ j, j < i ∧ crF px py xs u v j = true) := ⟨_, rfl⟩
          have he' : e = .returned (.bool ct) := by rw [hct]; exact he
          subst he'
          have HB6 := hid (HB5.out.trans (hb6.mono HB5.out.size))
          have HCT := hid hct
          clear he hb6 hct C101
          cases ct with
          | true =>
            have YES := hid (HWB.out.2 (.inr (of_decide_eq_true HCT.out.symm)))
            go_wp2_with fail
            go_ret
            exact ⟨⟨true, rfl, ⟨fun _ => ⟨i, by rw [← HK.out]; exact hik, YES.out⟩, fun _ => rfl⟩⟩, B0.out.trans (HB6.out.mono B0.out.size)⟩
          | false =>
            have NC := hid (of_decide_eq_false HCT.out.symm)
            have HN : Hid (∀ r, r < i + 1 → ¬ wayB px py n xs r) := hid (fun r hr h => by
              rcases Nat.lt_or_ge r i with q | q
              · exact HJ.out r q h
              · have : r = i := by omega
                subst this
                rcases HWB.out.1 h with g | g
                · exact NB.out g
                · exact NC.out g)
            go_wp2_with fail
            go_roundw
            case rel => exact ⟨i + 1, by omega, by go_num, HN, HB6⟩
            case measure => simp [intOf]; omega
    · have hii : k = i := by omega
      subst hii
      go_wp2_with fail
      go_ret
      exact ⟨⟨false, rfl, ⟨fun h => (by cases h), fun ⟨r, hr, h⟩ => absurd h (HJ.out r (by rw [HK.out]; exact hr))⟩⟩, B0.out.trans (HB.out.mono B0.out.size)⟩
end Go.Proofs.YtdbebbbceeopaaaGreat

set_option linter.unusedSimpArgs false
namespace Go.Proofs.YtdbebbbceeopaaaGreat
open Go.RowKit Go.Maps
open Go.Sort (SortedIn)
open Geo (up bad lift Mesh Cor Quad flipM Inj Sd)

/-- Lines by the numbers of their points. -/
def toN (xs : List (Int × Int)) : List (Nat × Nat) := xs.map fun x => (x.1.toNat, x.2.toNat)

theorem toN_len (xs : List (Int × Int)) : (toN xs).length = xs.length := by simp [toN]

theorem LnI.toN {w : World} {a : Option Addr} {xs : List (Int × Int)} {n : Nat} (h : LnI w a xs) (hj : ∀ x ∈ xs, Jn n x) : Lns w a (toN xs) := by
  rcases h with h | ⟨g, o, e, hg, hc⟩
  · subst h; exact .inl rfl
  · refine .inr ⟨g, o, e, hg, fun i hi => ?_⟩
    have hi' : i < xs.length := by rw [toN_len] at hi; exact hi
    have j := hj xs[i] (List.getElem_mem hi')
    have e : (YtdbebbbceeopaaaGreat.toN xs)[i] = (xs[i].1.toNat, xs[i].2.toNat) := by simp [YtdbebbbceeopaaaGreat.toN]
    have c := hc i hi'
    rw [e]
    have e1 : ((xs[i].1.toNat : Nat) : Int) = xs[i].1 := Int.toNat_of_nonneg j.1.1
    have e2 : ((xs[i].2.toNat : Nat) : Int) = xs[i].2 := Int.toNat_of_nonneg j.2.1.1
    dsimp only
    rw [e1, e2]
    exact c

theorem toN_lt {xs : List (Int × Int)} {n : Nat} (hj : ∀ x ∈ xs, Jn n x) : ∀ y ∈ toN xs, y.1 < n ∧ y.2 < n ∧ y.1 ≠ y.2 := by
  intro y hy
  obtain ⟨x, hx, rfl⟩ := List.mem_map.1 hy
  obtain ⟨j1, j2, j3⟩ := hj x hx
  dsimp only
  omega

def jnB (n : Nat) (x : Int × Int) : Bool := decide (0 ≤ x.1 ∧ x.1 < n) && (decide (0 ≤ x.2 ∧ x.2 < n) && decide (x.1 ≠ x.2))

theorem jnB_iff {n : Nat} {xs : List (Int × Int)} : xs.all (jnB n) = true ↔ ∀ x ∈ xs, Jn n x := by
  rw [List.all_eq_true]
  simp only [jnB, Jn, Bool.and_eq_true, decide_eq_true_eq]

def wyB (px py : Nat → Int) (n : Nat) (xs : List (Nat × Nat)) (i : Nat) : Bool := (List.range n).any (fun p => betwB px py (xs.getD i (0, 0)).1 (xs.getD i (0, 0)).2 p) || (List.range i).any fun j => crossB px py (xs.getD i (0, 0)).1 (xs.getD i (0, 0)).2 (xs.getD j (0, 0)).1 (xs.getD j (0, 0)).2

theorem wyB_iff {px py : Nat → Int} {n : Nat} {xs : List (Nat × Nat)} : (List.range xs.length).any (wyB px py n xs) = true ↔ ∃ i, i < xs.length ∧ wayB px py n xs i := by
  simp only [wyB, wayB, List.any_eq_true, List.mem_range, Bool.or_eq_true]

/-- What lineRefusal answers. -/
def lineI (px py : Nat → Int) (n : Nat) (xs : List (Int × Int)) : Int :=
  if 20 < xs.length then 1 else if xs.all (jnB n) = true then (if (List.range (toN xs).length).any (wyB px py n (toN xs)) = true then 6 else 0) else 5

open Classical in
theorem lineI_eq (px py : Nat → Int) (n : Nat) (xs : List (Int × Int)) : lineI px py n xs = if 20 < xs.length then 1 else if ¬ ∀ x ∈ xs, Jn n x then 5 else if ∃ i, i < (toN xs).length ∧ wayB px py n (toN xs) i then 6 else 0 := by
  unfold lineI
  by_cases h1 : 20 < xs.length
  · rw [if_pos h1, if_pos h1]
  · rw [if_neg h1, if_neg h1]
    by_cases h2 : ∀ x ∈ xs, Jn n x
    · have h2' : ¬ ¬ ∀ x ∈ xs, Jn n x := fun k => k h2
      by_cases h3 : ∃ i, i < (toN xs).length ∧ wayB px py n (toN xs) i
      · rw [if_pos (jnB_iff.2 h2), if_pos (wyB_iff.2 h3), if_neg h2', if_pos h3]
      · rw [if_pos (jnB_iff.2 h2), if_neg (fun k => h3 (wyB_iff.1 k)), if_neg h2', if_neg h3]
    · rw [if_neg (fun k => h2 (jnB_iff.1 k)), if_pos h2]

set_option maxRecDepth 100000 in
set_option maxHeartbeats 2000000 in
theorem lineRef_any (px py : Nat → Int) (n qb qo cap lcap : Nat) (la : Option Addr) (xs : List (Int × Int)) (w : World) (hp : Pts w qb qo n px py) (hn : n ≤ 40) (hbd : ∀ i, i < n → (-1000 ≤ px i ∧ px i ≤ 1000) ∧ (-1000 ≤ py i ∧ py i ≤ 1000)) (hl : LnI w la xs) (hk : xs.length ≤ 1000000) (hcap : xs.length ≤ lcap) :
    Calls Tryz.prog 40 #[.slice (some ⟨qb, qo, none⟩) n cap, .slice la xs.length lcap] w fun e w' => e = .returned (.int .i64 (lineI px py n xs)) ∧ Below w.heap.size w w' := by
  have C1 := hid (allJoin_any n cap lcap (some ⟨qb, qo, none⟩) la xs w hl hk)
  have HP := hid hp
  have HBD := hid hbd
  have HL := hid hl
  obtain ⟨r, hr⟩ : ∃ r, r = lineI px py n xs := ⟨_, rfl⟩
  have R1 : Hid (20 < xs.length → r = 1) := hid (fun h => by rw [hr]; rw [lineI_eq]; rw [if_pos h])
  have R5 : Hid (¬ 20 < xs.length → (¬ ∀ x ∈ xs, Jn n x) → r = 5) := hid (fun h h' => by rw [hr]; rw [lineI_eq]; rw [if_neg h, if_pos h'])
  have R6 : Hid (¬ 20 < xs.length → (∀ x ∈ xs, Jn n x) → (∃ i, i < (toN xs).length ∧ wayB px py n (toN xs) i) → r = 6) := hid (fun h h' h'' => by rw [hr]; rw [lineI_eq]; rw [if_neg h, if_neg (fun k => k h'), if_pos h''])
  have R0 : Hid (¬ 20 < xs.length → (∀ x ∈ xs, Jn n x) → (¬ ∃ i, i < (toN xs).length ∧ wayB px py n (toN xs) i) → r = 0) := hid (fun h h' h'' => by rw [hr]; rw [lineI_eq]; rw [if_neg h, if_neg (fun k => k h'), if_neg h''])
  rw [← hr]
  clear hr
  obtain ⟨k, hkk⟩ : ∃ k, k = xs.length := ⟨_, rfl⟩
  have HK := hid hkk
  rw [← hkk] at hk hcap C1 R1 R5 R6 R0 ⊢
  clear hp hbd hl hkk
  by_cases h20 : 20 < k
  · have e := R1.out h20
    subst e
    have h20' : (20 : Int) < k := by omega
    go_enter Tryz.func40, Tryz.ntmps40
    go_wp2_with fail
    go_ret
    exact ⟨rfl, Below.refl _ _⟩
  · have h20' : ¬ (20 : Int) < k := by omega
    go_enter Tryz.func40, Tryz.ntmps40
    go_wp2_with fail
    refine C1.out.mono ?_
    rintro e w1 ⟨⟨b, rfl, hb⟩, hb1⟩
    have HB1 := hid hb1
    have HBJ := hid hb
    clear hb hb1 C1
    cases b with
    | false =>
      have e := R5.out h20 (fun h => by have := HBJ.out.2 h; cases this)
      subst e
      go_wp2_with fail
      go_ret
      exact ⟨rfl, HB1.out⟩
    | true =>
      have hj := HBJ.out.1 rfl
      have HJ := hid hj
      have C2 := hid (places_any px py n qb qo cap w1 (HP.out.below HB1.out HP.out.lt) hn HBD.out)
      clear hj
      go_wp2_with fail
      refine C2.out.mono ?_
      rintro e w2 ⟨rfl, hb2, hp2⟩
      have HB2 := hid (HB1.out.trans (hb2.mono HB1.out.size))
      have C3 := hid (inWay_any w1.heap.size 0 n n lcap px py la (toN xs) w2 hn hp2 ((HL.out.below HB2.out).toN HJ.out) (by rw [toN_len, ← HK.out]; omega) (by rw [toN_len, ← HK.out]; exact hcap) (fun y hy => ⟨(toN_lt HJ.out y hy).1, (toN_lt HJ.out y hy).2.1⟩))
      rw [toN_len, ← HK.out] at C3
      clear C2 hb2 hp2
      go_wp2_with fail
      refine C3.out.mono ?_
      rintro e w3 ⟨⟨b, rfl, hb⟩, hb3⟩
      have HB3 := hid (HB2.out.trans (hb3.mono HB2.out.size))
      have HBW := hid hb
      clear hb hb3 C3
      cases b with
      | true =>
        have hw := HBW.out.1 rfl
        have e := R6.out h20 HJ.out hw
        subst e
        clear hw
        go_wp2_with fail
        go_ret
        exact ⟨rfl, HB3.out⟩
      | false =>
        have e := R0.out h20 HJ.out (fun h => by have := HBW.out.2 h; cases this)
        subst e
        go_wp2_with fail
        go_ret
        exact ⟨rfl, HB3.out⟩

theorem lineI_ok {px py : Nat → Int} {n : Nat} {xs : List (Int × Int)} (h : lineI px py n xs = 0) : xs.length ≤ 20 ∧ (∀ x ∈ xs, Jn n x) ∧ Lok px py n (toN xs) := by
  rw [lineI_eq] at h
  by_cases h1 : 20 < xs.length
  · rw [if_pos h1] at h; cases h
  · rw [if_neg h1] at h
    by_cases h2 : ∀ x ∈ xs, Jn n x
    · rw [if_neg (fun k => k h2)] at h
      by_cases h3 : ∃ i, i < (toN xs).length ∧ wayB px py n (toN xs) i
      · rw [if_pos h3] at h; cases h
      · have nb : ∀ i, (hi : i < (toN xs).length) → ∀ p, p < n → betwB px py (toN xs)[i].1 (toN xs)[i].2 p = false := fun i hi p hp => by
          cases hb : betwB px py (toN xs)[i].1 (toN xs)[i].2 p with
          | false => rfl
          | true =>
            exfalso
            refine h3 ⟨i, hi, .inl ⟨p, hp, ?_⟩⟩
            rw [List.getD_eq_getElem?_getD, List.getElem?_eq_getElem hi]
            exact hb
        have nc : ∀ i j, (hi : i < (toN xs).length) → (hj : j < (toN xs).length) → j < i → crossB px py (toN xs)[i].1 (toN xs)[i].2 (toN xs)[j].1 (toN xs)[j].2 = false := fun i j hi hj hji => by
          cases hb : crossB px py (toN xs)[i].1 (toN xs)[i].2 (toN xs)[j].1 (toN xs)[j].2 with
          | false => rfl
          | true =>
            exfalso
            refine h3 ⟨i, hi, .inr ⟨j, hji, ?_⟩⟩
            rw [List.getD_eq_getElem?_getD, List.getElem?_eq_getElem hi, List.getD_eq_getElem?_getD, List.getElem?_eq_getElem hj]
            exact hb
        refine ⟨by omega, h2, ⟨toN_lt h2, fun x hx y hy => ?_, fun x hx p hp => ?_⟩⟩
        · obtain ⟨i, hi, rfl⟩ := List.getElem_of_mem hx
          obtain ⟨j, hj, rfl⟩ := List.getElem_of_mem hy
          rcases Nat.lt_trichotomy i j with k | k | k
          · rw [crossB_pair]; exact nc j i hj hi k
          · subst k; exact crossB_self _ _ _ _
          · exact nc i j hi hj k
        · obtain ⟨i, hi, rfl⟩ := List.getElem_of_mem hx
          exact nb i hi p hp
    · rw [if_pos h2] at h; cases h

end Go.Proofs.YtdbebbbceeopaaaGreat

set_option linter.unusedSimpArgs false
namespace Go.Proofs.YtdbebbbceeopaaaGreat
open Go.RowKit Go.Maps
open Go.Sort (SortedIn)
open Geo (up bad lift Mesh Cor Quad flipM Inj Sd)

/-- Of a mesh with lines: each is a side, and every other is as round as can be. -/
structure Lnd (px py : Nat → Int) (M : Nat → Nat → Option Nat) (ys : List (Nat × Nat)) : Prop where
  jo : ∀ y ∈ ys, Joined M y.1 y.2
  rd : ∀ u v c d, M u v = some c → M v u = some d → (¬ ∃ y ∈ ys, (y.1 = u ∧ y.2 = v) ∨ (y.1 = v ∧ y.2 = u)) → Geo.Wn px py u v c d ≤ 0

theorem up_eq {a b u v : Nat} (h : up a b = up u v) : (a = u ∧ b = v) ∨ (a = v ∧ b = u) := by
  rcases up_is a b with h1 | h1 <;> rcases up_is u v with h2 | h2 <;> rw [h1, h2] at h <;> simp only [Prod.mk.injEq] at h <;> omega

theorem lnd_of {px py : Nat → Int} {M : Nat → Nat → Option Nat} {ys ls : List (Nat × Nat)} (hbad : ∀ u v, bad px py (okL ls) (lift px py) M u v = false) (hj : ∀ x ∈ ls, Joined M x.1 x.2) (h1 : ∀ y ∈ ys, up y.1 y.2 ∈ ls) (h2 : ∀ x ∈ ls, ∃ y ∈ ys, x = up y.1 y.2) : Lnd px py M ys := by
  refine ⟨fun y hy => ?_, fun u v c d e1 e2 hn => ?_⟩
  · have := hj _ (h1 y hy)
    rcases up_is y.1 y.2 with h | h <;> rw [h] at this
    · exact this
    · exact this.symm
  · have ok : okL ls u v = true := by
      unfold okL
      rw [Bool.not_eq_true', ← Bool.not_eq_true]
      intro hc
      have hm : up u v ∈ ls := by simpa using hc
      obtain ⟨y, hy, e⟩ := h2 _ hm
      exact hn ⟨y, hy, up_eq e.symm⟩
    have := hbad u v
    rw [bad_some e1 e2, ok, Geo.Wg_lift] at this
    have k : ¬ 0 < Geo.Wn px py u v c d := by
      intro k
      rw [decide_eq_true k] at this
      cases this
    exact Int.not_lt.1 k

set_option maxRecDepth 100000 in
set_option maxHeartbeats 2000000 in
theorem bound_lines (px py : Nat → Int) (n : Nat) [NeZero n] (qb qo cap lcap : Nat) (la : Option Addr) (xs : List (Int × Int)) (w : World) (hp : Pts w qb qo n px py) (h3 : 3 ≤ n) (hn : n ≤ 40) (hcap : n ≤ cap) (hr : refI px py n = 0) (hl : LnI w la xs) (hlc : xs.length ≤ lcap) (hlr : lineI px py n xs = 0) :
    Calls Tryz.prog 25 #[.slice (some ⟨qb, qo, none⟩) n cap, .slice la xs.length lcap] w fun e w' => Below w.heap.size w w' ∧ ∃ (g cp : Nat) (d : Array T3) (M : Nat → Nat → Option Nat) (hs : List Nat), e = .returned (.tuple #[.slice (some ⟨g, 0, none⟩) d.size cp, .int .i64 0]) ∧ w.heap.size ≤ g ∧ d.size ≤ 1600 ∧ w'.ownsRow w.heap.size 46 3 (.slice (some ⟨g, 0, none⟩) d.size cp) d.size (flat3 d.toList) ∧ Tris M d ∧ Msh px py n M hs ∧ Lnd px py M (toN xs) := by
  have c1 := refusal_any px py n qb qo cap w hp h3 hn hcap
  rw [hr] at c1
  have C1 := hid c1
  have HP := hid hp
  have LO := lineI_ok hlr
  have HLO := hid LO
  have HL := hid hl
  have hx20 := LO.1
  have hA : allB px py n = true := by
    cases h : allB px py n with
    | true => rfl
    | false => simp [refI, h] at hr
  have hbd : ∀ i, i < n → (-1000 ≤ px i ∧ px i ≤ 1000) ∧ (-1000 ≤ py i ∧ py i ≤ 1000) := by
    intro i hi
    have := (allB_iff px py n).1 hA i hi
    exact ⟨(near_iff _).1 this.1, (near_iff _).1 this.2⟩
  have HBD := hid hbd
  have HRR := hid hr
  have HLR := hid hlr
  obtain ⟨k, hk⟩ : ∃ k, k = xs.length := ⟨_, rfl⟩
  have HK := hid hk
  rw [← hk] at hx20 hlc ⊢
  clear hp c1 hr hA hbd LO hl hlr hk
  go_enter Tryz.func25, Tryz.ntmps25
  go_wp2_with fail
  refine C1.out.mono ?_
  rintro e w1 ⟨rfl, hb1⟩
  have c2 := lineRef_any px py n qb qo cap lcap la xs w1 (HP.out.below hb1 HP.out.lt) hn HBD.out (HL.out.below hb1) (by rw [← HK.out]; omega) (by rw [← HK.out]; exact hlc)
  rw [HLR.out, ← HK.out] at c2
  have C2 := hid c2
  have HB1 := hid hb1
  clear C1 hb1 c2
  go_wp2_with fail
  refine C2.out.mono ?_
  rintro e w2 ⟨rfl, hb2⟩
  have HB2 := hid (HB1.out.trans (hb2.mono HB1.out.size))
  have c3 := hid (places_any px py n qb qo cap w2 (HP.out.below HB2.out HP.out.lt) hn HBD.out)
  clear C2 hb2 HB1
  go_wp2_with fail
  refine c3.out.mono ?_
  rintro e w3 ⟨rfl, hb3, hp3⟩
  have HB3 := hid (HB2.out.trans (hb3.mono HB2.out.size))
  have PL3 := hid hp3.lt
  have c4 := hid (new_any px py n w2.heap.size 0 n w3 hp3 hn)
  clear c3 hb3 hp3
  go_wp2_with fail
  refine c4.out.mono ?_
  rintro e w4 ⟨mb, bm, rfl, hmb, hbm, hb4, dd, hdd, hperm, hsort, hM4⟩
  have HB4 := hid (HB3.out.trans (hb4.mono HB3.out.size))
  have MS := hid (msh0 h3 hn HRR.out hdd hperm hsort)
  have OD := hid (ord0 h3 HRR.out hdd hperm hsort)
  have HMB := hid (And.intro hmb hbm)
  have c5 := drawAll_any mb bm w2.heap.size 0 n n lcap px py _ la (toN xs) w4 hn (hM4.tight MS.out.mesh hn) MS.out.mesh MS.out.cor (refI_inj HRR.out) (by have := PL3.out; omega) ((HL.out.below HB4.out).toN HLO.out.2.1) (by rw [toN_len, ← HK.out]; omega) HLO.out.2.2
  rw [toN_len, ← HK.out] at c5
  have C5 := hid c5
  clear c4 hb4 hM4 hperm hsort hdd hmb hbm c5
  go_wp2_with fail
  refine C5.out.mono ?_
  rintro e w5 ⟨rfl, M5, lv, ls, hM5, hd5, hm5, hc5, hr5, hls5, hj5, hu5, hv5⟩
  have HB5 : Hid (Below w.heap.size w w5) := hid (HB4.out.trans ⟨hd5.os, hd5.tape, hd5.output, hd5.size, fun k hk => hd5.block k (by have := HB4.out.size; omega) (by have := HMB.out.1; have := HB3.out.size; omega) (by have := HMB.out.2; have := HB3.out.size; omega) (fun e => by cases e)⟩)
  have HJ := hid (And.intro hu5 hv5)
  have sum5 : Sd n M5 (fun u v _ => Geo.c2 px py u v) = fanI px py (hullOf (T px py) (nums dd)) ((hullOf (T px py) (nums dd)).length - 2) := by
    have key : ∀ M, Geo.Reach px py n (mesh0 px py (nums dd)) M → Sd n M (fun u v _ => Geo.c2 px py u v) = Sd n (mesh0 px py (nums dd)) (fun u v _ => Geo.c2 px py u v) := by
      exact fun M h => h (fun M => Sd n M (fun u v _ => Geo.c2 px py u v) = Sd n (mesh0 px py (nums dd)) (fun u v _ => Geo.c2 px py u v)) rfl fun M a b c d ih hm q => by rw [sum_flip hm q, ih]
    rw [key M5 hr5]
    exact MS.out.sum
  have c6 := hid (round_any mb bm w2.heap.size 0 n n px py M5 lv ls (fun M => (Sd n M (fun u v _ => Geo.c2 px py u v) = fanI px py (hullOf (T px py) (nums dd)) ((hullOf (T px py) (nums dd)).length - 2) ∧ Geo.Reach px py n (mesh0 px py (nums dd)) M) ∧ ∀ x ∈ ls, Joined M x.1 x.2) w5 hn hM5 (by omega) hm5 hc5 ⟨⟨sum5, hr5⟩, hj5⟩ (fun M a b c d hm q hok hk => ⟨⟨by rw [sum_flip hm q]; exact hk.1.1, .flip hk.1.2 hm q⟩, fun x hx => by
    have nup : up a b ∉ ls := by
      intro h
      unfold okL at hok
      rw [Bool.not_eq_true', ← Bool.not_eq_true] at hok
      exact hok (by simpa using h)
    obtain ⟨y, _, ey⟩ := hv5 x hx
    have ux : up x.1 x.2 = x := by
      rw [ey]
      unfold up
      ext <;> dsimp only <;> omega
    refine joined_flip (hk.2 x hx) (fun e => nup ?_) (fun e => nup ?_)
    · rw [← e.1, ← e.2, ux]; exact hx
    · have : up a b = up x.1 x.2 := by rw [e.1, e.2]; unfold up; rw [Nat.min_comm, Nat.max_comm]
      rw [this, ux]; exact hx⟩))
  clear C5 hM5 hd5 hm5 hc5 hr5 hls5 hj5 hu5 hv5 sum5
  go_wp2_with fail
  refine c6.out.mono ?_
  rintro e w6 ⟨rfl, hg6, M, hM6, hm6, hc6, hk6, hbad⟩
  have HB6 := hid (HB5.out.grown hg6 HB5.out.size (fun k e => by have := Option.some.inj e; have := HMB.out.2; have := HB3.out.size; omega))
  have c7 := hid (trianglesM_any mb bm 1600 w2.heap.size 0 n n px py M lv ls w6 hM6 (Nat.le_refl _) (fun a b c e => ⟨(hm6.lts e).1, (hm6.lts e).2.1⟩) hn (one_tri hm6 hc6 (by omega)))
  have MS6 : Hid (Msh px py n M (hullOf (T px py) (nums dd))) := hid ⟨hm6, hc6, hk6.1.1, MS.out.hull, MS.out.hl, MS.out.hlen, MS.out.h3, ⟨nums dd, OD.out, rfl, hk6.1.2⟩⟩
  have LC := hid (lnd_of hbad hk6.2 HJ.out.1 HJ.out.2)
  clear c6 hg6 hM6 hm6 hc6 hk6 hbad
  go_wp2_with fail
  refine c7.out.mono ?_
  rintro e w7 ⟨hb7, g, cp, d, rfl, hg7, hd7, ho7, ht7⟩
  have HB7 := hid (HB6.out.trans (hb7.mono HB6.out.size))
  have HO7 : Hid (w7.ownsRow w.heap.size 46 3 (.slice (some ⟨g, 0, none⟩) d.size cp) d.size (flat3 d.toList)) := hid ⟨ho7.1, by
    rcases ho7.2 with h2 | ⟨g', cap', cur, k1, k2, k3⟩
    · exact .inl h2
    · exact .inr ⟨g', cap', cur, k1, Nat.le_trans HB6.out.size k2, k3⟩⟩
  have HG7 := hid (Nat.le_trans HB6.out.size hg7)
  have HT7 := hid ht7
  have HD7 := hid hd7
  clear c7 hb7 hg7 hd7 ho7 ht7
  go_wp2_with fail
  go_ret2
  exact ⟨HB7.out, g, cp, d, M, _, rfl, HG7.out, HD7.out, HO7.out, HT7.out, MS6.out, LC.out⟩
end Go.Proofs.YtdbebbbceeopaaaGreat

set_option linter.unusedSimpArgs false
namespace Go.Proofs.YtdbebbbceeopaaaGreat
open Go.RowKit

theorem sgn (x : Int) : (x < 0 ∧ ¬ 0 < x) ∨ (¬ x < 0 ∧ ¬ 0 < x) ∨ (0 < x ∧ ¬ x < 0) := by omega

/-- Of opposite signs? -/
def opp (x y : Int) : Bool := (decide (0 < x) && decide (y < 0)) || (decide (x < 0) && decide (0 < y))

theorem opp_mul (x y : Int) : opp x y = decide (x * y < 0) := by
  unfold opp
  rcases sgn x with ⟨a, b⟩ | ⟨a, b⟩ | ⟨a, b⟩
  · rcases sgn y with ⟨c, d⟩ | ⟨c, d⟩ | ⟨c, d⟩
    · have := Int.mul_pos_of_neg_of_neg a c
      rw [decide_eq_false b, decide_eq_false d, decide_eq_false (show ¬ x * y < 0 by omega)]; simp
    · have : y = 0 := by omega
      subst this
      simp
    · have := Int.mul_neg_of_neg_of_pos a c
      rw [decide_eq_true a, decide_eq_true c, decide_eq_true this]; simp
  · have : x = 0 := by omega
    subst this
    simp
  · rcases sgn y with ⟨c, d⟩ | ⟨c, d⟩ | ⟨c, d⟩
    · have := Int.mul_neg_of_pos_of_neg a c
      rw [decide_eq_true a, decide_eq_true c, decide_eq_true this]; simp
    · have : y = 0 := by omega
      subst this
      simp
    · have := Int.mul_pos a c
      rw [decide_eq_false b, decide_eq_false d, decide_eq_false (show ¬ x * y < 0 by omega)]; simp

theorem opp_true {x y : Int} (h : (0 < x ∧ y < 0) ∨ (x < 0 ∧ 0 < y)) : opp x y = true := by
  unfold opp
  rcases h with ⟨a, b⟩ | ⟨a, b⟩
  · rw [decide_eq_true a, decide_eq_true b]; rfl
  · rw [decide_eq_true a, decide_eq_true b]; simp

theorem opp_false {x y : Int} (h : ¬ ((0 < x ∧ y < 0) ∨ (x < 0 ∧ 0 < y))) : opp x y = false := by
  cases e : opp x y with
  | false => rfl
  | true =>
    exfalso
    unfold opp at e
    simp at e
    exact h e

set_option maxRecDepth 100000 in
set_option maxHeartbeats 2000000 in
/-- The document's crosses. -/
theorem crosses_any (a b c d : Int) (e f g h : Int) (w : World) (A : -1000 ≤ a ∧ a ≤ 1000) (B : -1000 ≤ b ∧ b ≤ 1000) (C : -1000 ≤ c ∧ c ≤ 1000) (D : -1000 ≤ d ∧ d ≤ 1000) (E : -1000 ≤ e ∧ e ≤ 1000) (F : -1000 ≤ f ∧ f ≤ 1000) (G : -1000 ≤ g ∧ g ≤ 1000) (H : -1000 ≤ h ∧ h ≤ 1000) :
    Calls Tryz.prog 88 #[.agg #[.int .i64 a, .int .i64 b], .agg #[.int .i64 c, .int .i64 d], .agg #[.int .i64 e, .int .i64 f], .agg #[.int .i64 g, .int .i64 h]] w fun r w' => r = .returned (.bool (opp (tw a b c d e f) (tw a b c d g h) && opp (tw e f g h a b) (tw e f g h c d))) ∧ Below w.heap.size w w' := by
  have T1 := hid (fun W => rturn_any a b c d e f A B C D E F W)
  have T2 := hid (fun W => rturn_any a b c d g h A B C D G H W)
  have T3 := hid (fun W => rturn_any e f g h a b E F G H A B W)
  have T4 := hid (fun W => rturn_any e f g h c d E F G H C D W)
  clear A B C D E F G H
  obtain ⟨W1, hW1⟩ : ∃ W1 : World, W1 = (((w.alloc (.cells #[.int .i64 a, .int .i64 b] 35)).alloc (.cells #[.int .i64 c, .int .i64 d] 35)).alloc (.cells #[.int .i64 e, .int .i64 f] 35)).alloc (.cells #[.int .i64 g, .int .i64 h] 35) := ⟨_, rfl⟩
  have B1 : Hid (Below w.heap.size w W1) := hid (by rw [hW1]; exact (((((Below.refl _ _).alloc (Nat.le_refl _) _).alloc (by simp) _).alloc (by simp <;> omega) _).alloc (by simp <;> omega) _))
  have hsz : W1.heap.size = w.heap.size + 1 + 1 + 1 + 1 := by rw [hW1]; simp
  have c0 : W1.cell? ⟨w.heap.size, 0, none⟩ = some (.int .i64 a) ∧ W1.cell? ⟨w.heap.size, 1, none⟩ = some (.int .i64 b) ∧ W1.cell? ⟨w.heap.size + 1, 0, none⟩ = some (.int .i64 c) ∧ W1.cell? ⟨w.heap.size + 1, 1, none⟩ = some (.int .i64 d) ∧ W1.cell? ⟨w.heap.size + 1 + 1, 0, none⟩ = some (.int .i64 e) ∧ W1.cell? ⟨w.heap.size + 1 + 1, 1, none⟩ = some (.int .i64 f) ∧ W1.cell? ⟨w.heap.size + 1 + 1 + 1, 0, none⟩ = some (.int .i64 g) ∧ W1.cell? ⟨w.heap.size + 1 + 1 + 1, 1, none⟩ = some (.int .i64 h) := by
    rw [hW1]
    refine ⟨?_, ?_, ?_, ?_, ?_, ?_, ?_, ?_⟩
    · rw [World.cell?_alloc_past _ _ _ (by simp <;> omega), World.cell?_alloc_past _ _ _ (by simp <;> omega), World.cell?_alloc_past _ _ _ (by simp), World.cell?_alloc_at _ _ _ _ (by simp)]; rfl
    · rw [World.cell?_alloc_past _ _ _ (by simp <;> omega), World.cell?_alloc_past _ _ _ (by simp <;> omega), World.cell?_alloc_past _ _ _ (by simp), World.cell?_alloc_at _ _ _ _ (by simp)]; rfl
    · rw [World.cell?_alloc_past _ _ _ (by simp <;> omega), World.cell?_alloc_past _ _ _ (by simp), World.cell?_alloc_at _ _ _ _ (by simp)]; rfl
    · rw [World.cell?_alloc_past _ _ _ (by simp <;> omega), World.cell?_alloc_past _ _ _ (by simp), World.cell?_alloc_at _ _ _ _ (by simp)]; rfl
    · rw [World.cell?_alloc_past _ _ _ (by simp), World.cell?_alloc_at _ _ _ _ (by simp)]; rfl
    · rw [World.cell?_alloc_past _ _ _ (by simp), World.cell?_alloc_at _ _ _ _ (by simp)]; rfl
    · rw [World.cell?_alloc_at _ _ _ _ (by simp)]; rfl
    · rw [World.cell?_alloc_at _ _ _ _ (by simp)]; rfl
  have KEEP : Hid (∀ W, Below W1.heap.size W1 W → W.cell? ⟨w.heap.size, 0, none⟩ = some (.int .i64 a) ∧ W.cell? ⟨w.heap.size, 1, none⟩ = some (.int .i64 b) ∧ W.cell? ⟨w.heap.size + 1, 0, none⟩ = some (.int .i64 c) ∧ W.cell? ⟨w.heap.size + 1, 1, none⟩ = some (.int .i64 d) ∧ W.cell? ⟨w.heap.size + 1 + 1, 0, none⟩ = some (.int .i64 e) ∧ W.cell? ⟨w.heap.size + 1 + 1, 1, none⟩ = some (.int .i64 f) ∧ W.cell? ⟨w.heap.size + 1 + 1 + 1, 0, none⟩ = some (.int .i64 g) ∧ W.cell? ⟨w.heap.size + 1 + 1 + 1, 1, none⟩ = some (.int .i64 h)) := hid fun W hW => by
    obtain ⟨k0, k1, k2, k3, k4, k5, k6, k7⟩ := c0
    exact ⟨(hW.cell (by show w.heap.size < _; omega)).trans k0, (hW.cell (by show w.heap.size < _; omega)).trans k1, (hW.cell (by show w.heap.size + 1 < _; omega)).trans k2, (hW.cell (by show w.heap.size + 1 < _; omega)).trans k3, (hW.cell (by show w.heap.size + 1 + 1 < _; omega)).trans k4, (hW.cell (by show w.heap.size + 1 + 1 < _; omega)).trans k5, (hW.cell (by show w.heap.size + 1 + 1 + 1 < _; omega)).trans k6, (hW.cell (by show w.heap.size + 1 + 1 + 1 < _; omega)).trans k7⟩
  clear c0 hsz
  generalize tw a b c d e f = one at *
  generalize tw a b c d g h = two at *
  generalize tw e f g h a b = three at *
  generalize tw e f g h c d = four at *
  obtain ⟨r, hr⟩ : ∃ r, r = (opp one two && opp three four) := ⟨_, rfl⟩
  rw [← hr]
  have HR := hid hr
  clear hr
  go_enter Tryz.func88, Tryz.ntmps88
  go_wp2_with fail
  rw [← hW1]
  clear hW1
  refine (T1.out _).mono ?_
  rintro x w2 ⟨rfl, hb2⟩
  have HB2 := hid hb2
  clear hb2
  obtain ⟨k0, k1, k2, k3, k4, k5, k6, k7⟩ := KEEP.out w2 HB2.out
  go_wp2_with fail
  refine (T2.out _).mono ?_
  rintro x w3 ⟨rfl, hb3⟩
  have HB3 := hid (HB2.out.trans (hb3.mono HB2.out.size))
  clear hb3 k0 k1 k2 k3 k4 k5 k6 k7
  obtain ⟨k0, k1, k2, k3, k4, k5, k6, k7⟩ := KEEP.out w3 HB3.out
  go_wp2_with fail
  refine (T3.out _).mono ?_
  rintro x w4 ⟨rfl, hb4⟩
  have HB4 := hid (HB3.out.trans (hb4.mono HB3.out.size))
  clear hb4 k0 k1 k2 k3 k4 k5 k6 k7
  obtain ⟨k0, k1, k2, k3, k4, k5, k6, k7⟩ := KEEP.out w4 HB4.out
  go_wp2_with fail
  refine (T4.out _).mono ?_
  rintro x w5 ⟨rfl, hb5⟩
  have HB5 := hid (B1.out.trans ((HB4.out.trans (hb5.mono HB4.out.size)).mono B1.out.size))
  clear hb5 k0 k1 k2 k3 k4 k5 k6 k7 KEEP T1 T2 T3 T4 HB2 HB3 HB4
  by_cases g12 : (0 < one ∧ two < 0) ∨ (one < 0 ∧ 0 < two)
  · have G1 := opp_true g12
    by_cases g34 : (0 < three ∧ four < 0) ∨ (three < 0 ∧ 0 < four)
    · have G2 := opp_true g34
      have e : r = true := by rw [HR.out, G1, G2]; rfl
      subst e
      clear G1 G2 HR
      rcases g12 with ⟨p1, p2⟩ | ⟨p1, p2⟩ <;> rcases g34 with ⟨p3, p4⟩ | ⟨p3, p4⟩
      all_goals
        have n1 : ¬ (0 < one ∧ one < 0) := by omega
        try have m1 : ¬ 0 < one := by omega
        try have m2 : ¬ one < 0 := by omega
        try have m3 : ¬ 0 < three := by omega
        try have m4 : ¬ three < 0 := by omega
        clear n1
        go_wp2_with fail
        go_ret
        exact ⟨rfl, HB5.out⟩
    · have G2 := opp_false g34
      have e : r = false := by rw [HR.out, G2]; simp
      subst e
      clear G1 G2 HR
      rcases g12 with ⟨p1, p2⟩ | ⟨p1, p2⟩ <;> rcases sgn three with ⟨p3, p3'⟩ | ⟨p3, p3'⟩ | ⟨p3, p3'⟩
      all_goals
        try have m1 : ¬ 0 < one := by omega
        try have m2 : ¬ one < 0 := by omega
        try have m5 : ¬ 0 < four := by omega
        try have m6 : ¬ four < 0 := by omega
        clear g34
        go_wp2_with fail
        go_ret
        refine ⟨?_, HB5.out⟩
        first
          | rfl
          | (show Ending.returned (Value.bool (decide (0 < four))) = _; rw [decide_eq_false (by omega)])
          | (show Ending.returned (Value.bool (decide (four < 0))) = _; rw [decide_eq_false (by omega)])
  · have G1 := opp_false g12
    have e : r = false := by rw [HR.out, G1]; simp
    subst e
    clear G1 HR
    rcases sgn one with ⟨p3, p3'⟩ | ⟨p3, p3'⟩ | ⟨p3, p3'⟩
    all_goals
      try have m5 : ¬ 0 < two := by omega
      try have m6 : ¬ two < 0 := by omega
      clear g12
      go_wp2_with fail
      go_ret
      exact ⟨rfl, HB5.out⟩
end Go.Proofs.YtdbebbbceeopaaaGreat
