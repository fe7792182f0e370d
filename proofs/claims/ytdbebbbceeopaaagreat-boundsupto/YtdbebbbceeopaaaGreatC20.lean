import Derived.Test.YtdbebbbceeopaaaGreatC9
import Derived.Test.YtdbebbbceeopaaaGreatC19
set_option linter.unusedSimpArgs false
namespace Go.Proofs.YtdbebbbceeopaaaGreat
open Go.RowKit Go.Maps
open Flt (Is)
open Geo (up bad Wg)

/-- How far a point lies from a line. -/
def away (px py : Nat → Int) (i j u : Nat) : Int := ((T px py i j u).natAbs : Int)

theorem crossB_symm (px py : Nat → Int) (i j u v : Nat) : crossB px py i j u v = crossB px py i j v u := by
  have e1 : T px py v u i = - T px py u v i := Geo.T_swap _ _ _
  have e2 : T px py v u j = - T px py u v j := Geo.T_swap _ _ _
  have e3 : T px py i j v * T px py i j u = T px py i j u * T px py i j v := Int.mul_comm _ _
  unfold crossB
  rw [e1, e2, e3, Int.neg_mul_neg]

theorem bad_none {px py h : Nat → Int} {ok : Nat → Nat → Bool} {M : Nat → Nat → Option Nat} {u v : Nat} (h0 : ((M u v).isSome && (M v u).isSome) = false) : bad px py ok h M u v = false := by
  unfold bad
  cases h1 : M u v with
  | none => simp
  | some c =>
    cases h2 : M v u with
    | none => simp
    | some d => rw [h1, h2] at h0; cases h0

theorem bad_some {px py h : Nat → Int} {ok : Nat → Nat → Bool} {M : Nat → Nat → Option Nat} {u v c d : Nat} (h1 : M u v = some c) (h2 : M v u = some d) : bad px py ok h M u v = (ok u v && decide (0 < Wg px py h u v c d)) := by
  unfold bad
  rw [h1, h2]

set_option maxRecDepth 100000 in
set_option maxHeartbeats 8000000 in
theorem inLine_any (mb bm N pb po n cap u v i j bM bA bB bH : Nat) (px py : Nat → Int) (M : Nat → Nat → Option Nat) (lv : Value) (ls : List (Nat × Nat)) (w : World) (hn : n ≤ 40) (hM : MeshAt w mb bm N pb po n cap px py M lv ls) (hu : u < n) (hv : v < n) (hi : i < n) (hj : j < n) (hlt : ∀ a b c, M a b = some c → c < n)
    (ri ii rj ij : Nat) (Ii : Is ri (px i)) (Ii' : Is ii (py i)) (Ij : Is rj (px j)) (Ij' : Is ij (py j))
    (cM : w.cell? ⟨bM, 0, none⟩ = some (.pointer (some ⟨mb, 0, none⟩))) (cA : w.cell? ⟨bA, 0, none⟩ = some (.complex .f64 ri ii)) (cB : w.cell? ⟨bB, 0, none⟩ = some (.complex .f64 rj ij)) (cH : w.cell? ⟨bH, 0, none⟩ = some (.func (.func 107) #[] #[.pointer (some ⟨bA, 0, none⟩), .pointer (some ⟨bB, 0, none⟩)])) :
    Calls Tryz.prog 109 #[.agg #[.int .i64 u, .int .i64 v], .pointer (some ⟨bM, 0, none⟩), .pointer (some ⟨bA, 0, none⟩), .pointer (some ⟨bB, 0, none⟩), .pointer (some ⟨bH, 0, none⟩)] w fun e w' => e = .returned (.bool (bad px py (crossB px py i j) (away px py i j) M u v)) ∧ Below w.heap.size w w' := by
  obtain ⟨W1, hW1⟩ : ∃ W1 : World, W1 = w.alloc (.cells #[.int .i64 u, .int .i64 v] 110) := ⟨_, rfl⟩
  have B1 : Hid (Below w.heap.size w W1) := hid (by rw [hW1]; exact (Below.refl _ _).alloc (Nat.le_refl _) _)
  have HM1 := hid (hM.below B1.out)
  have HP := HM1.out.plc
  obtain ⟨ru, iu, cu, au, au'⟩ := HP.cell u hu
  obtain ⟨rv, iv, cv, av, av'⟩ := HP.cell v hv
  have k0 := HM1.out.c0
  have x0 : W1.cell? ⟨w.heap.size, 0, none⟩ = some (.int .i64 u) := by rw [hW1]; exact World.cell?_alloc_at _ _ _ _ rfl
  have x1 : W1.cell? ⟨w.heap.size, 1, none⟩ = some (.int .i64 v) := by rw [hW1]; exact World.cell?_alloc_at _ _ _ _ rfl
  have yM : W1.cell? ⟨bM, 0, none⟩ = some (.pointer (some ⟨mb, 0, none⟩)) := by rw [hW1]; exact cell_new cM
  have yA : W1.cell? ⟨bA, 0, none⟩ = some (.complex .f64 ri ii) := by rw [hW1]; exact cell_new cA
  have yB : W1.cell? ⟨bB, 0, none⟩ = some (.complex .f64 rj ij) := by rw [hW1]; exact cell_new cB
  have yH : W1.cell? ⟨bH, 0, none⟩ = some (.func (.func 107) #[] #[.pointer (some ⟨bA, 0, none⟩), .pointer (some ⟨bB, 0, none⟩)]) := by rw [hW1]; exact cell_new cH
  have KEEP : ∀ W, Below W1.heap.size W1 W → (W.cell? ⟨w.heap.size, 0, none⟩ = some (.int .i64 u) ∧ W.cell? ⟨w.heap.size, 1, none⟩ = some (.int .i64 v) ∧ W.cell? ⟨bM, 0, none⟩ = some (.pointer (some ⟨mb, 0, none⟩)) ∧ W.cell? ⟨bA, 0, none⟩ = some (.complex .f64 ri ii) ∧ W.cell? ⟨bB, 0, none⟩ = some (.complex .f64 rj ij) ∧ W.cell? ⟨bH, 0, none⟩ = some (.func (.func 107) #[] #[.pointer (some ⟨bA, 0, none⟩), .pointer (some ⟨bB, 0, none⟩)]) ∧ W.cell? ⟨mb, 0, none⟩ = some (.slice (some ⟨pb, po, none⟩) n cap) ∧ W.cell? ⟨pb, po + u, none⟩ = some (.complex .f64 ru iu) ∧ W.cell? ⟨pb, po + v, none⟩ = some (.complex .f64 rv iv) ∧ Hid (Below W1.heap.size W1 W)) := fun W hb =>
    ⟨(hb.cell (World.block_lt_of_cell? W1 _ x0)).trans x0, (hb.cell (World.block_lt_of_cell? W1 _ x1)).trans x1, (hb.cell (World.block_lt_of_cell? W1 _ yM)).trans yM, (hb.cell (World.block_lt_of_cell? W1 _ yA)).trans yA, (hb.cell (World.block_lt_of_cell? W1 _ yB)).trans yB, (hb.cell (World.block_lt_of_cell? W1 _ yH)).trans yH, (hb.cell (World.block_lt_of_cell? W1 _ k0)).trans k0, (hb.cell (World.block_lt_of_cell? W1 _ cu)).trans cu, (hb.cell (World.block_lt_of_cell? W1 _ cv)).trans cv, hid hb⟩
  have tr : ∀ {W W' : World}, Below W1.heap.size W1 W → Below W.heap.size W W' → Below W1.heap.size W1 W' := fun h1 h2 => h1.trans (h2.mono h1.size)
  have C110 : Hid (∀ W, (W.cell? ⟨w.heap.size, 0, none⟩ = some (.int .i64 u) ∧ W.cell? ⟨w.heap.size, 1, none⟩ = some (.int .i64 v) ∧ W.cell? ⟨bM, 0, none⟩ = some (.pointer (some ⟨mb, 0, none⟩)) ∧ W.cell? ⟨bA, 0, none⟩ = some (.complex .f64 ri ii) ∧ W.cell? ⟨bB, 0, none⟩ = some (.complex .f64 rj ij) ∧ W.cell? ⟨bH, 0, none⟩ = some (.func (.func 107) #[] #[.pointer (some ⟨bA, 0, none⟩), .pointer (some ⟨bB, 0, none⟩)]) ∧ W.cell? ⟨mb, 0, none⟩ = some (.slice (some ⟨pb, po, none⟩) n cap) ∧ W.cell? ⟨pb, po + u, none⟩ = some (.complex .f64 ru iu) ∧ W.cell? ⟨pb, po + v, none⟩ = some (.complex .f64 rv iv) ∧ Hid (Below W1.heap.size W1 W)) → Calls Tryz.prog 110 #[.pointer (some ⟨mb, 0, none⟩), .agg #[.int .i64 u, .int .i64 v]] W fun e W' => e = .returned (.bool ((M u v).isSome && (M v u).isSome)) ∧ (W'.cell? ⟨w.heap.size, 0, none⟩ = some (.int .i64 u) ∧ W'.cell? ⟨w.heap.size, 1, none⟩ = some (.int .i64 v) ∧ W'.cell? ⟨bM, 0, none⟩ = some (.pointer (some ⟨mb, 0, none⟩)) ∧ W'.cell? ⟨bA, 0, none⟩ = some (.complex .f64 ri ii) ∧ W'.cell? ⟨bB, 0, none⟩ = some (.complex .f64 rj ij) ∧ W'.cell? ⟨bH, 0, none⟩ = some (.func (.func 107) #[] #[.pointer (some ⟨bA, 0, none⟩), .pointer (some ⟨bB, 0, none⟩)]) ∧ W'.cell? ⟨mb, 0, none⟩ = some (.slice (some ⟨pb, po, none⟩) n cap) ∧ W'.cell? ⟨pb, po + u, none⟩ = some (.complex .f64 ru iu) ∧ W'.cell? ⟨pb, po + v, none⟩ = some (.complex .f64 rv iv) ∧ Hid (Below W1.heap.size W1 W'))) := hid fun W hS =>
    (isBetween_any mb bm N pb po n cap u v px py M lv ls W hn (HM1.out.below hS.2.2.2.2.2.2.2.2.2.out) hu hv).mono fun e w' h => ⟨h.1, KEEP w' (tr hS.2.2.2.2.2.2.2.2.2.out h.2)⟩
  have C103 : Hid (∀ W, (W.cell? ⟨w.heap.size, 0, none⟩ = some (.int .i64 u) ∧ W.cell? ⟨w.heap.size, 1, none⟩ = some (.int .i64 v) ∧ W.cell? ⟨bM, 0, none⟩ = some (.pointer (some ⟨mb, 0, none⟩)) ∧ W.cell? ⟨bA, 0, none⟩ = some (.complex .f64 ri ii) ∧ W.cell? ⟨bB, 0, none⟩ = some (.complex .f64 rj ij) ∧ W.cell? ⟨bH, 0, none⟩ = some (.func (.func 107) #[] #[.pointer (some ⟨bA, 0, none⟩), .pointer (some ⟨bB, 0, none⟩)]) ∧ W.cell? ⟨mb, 0, none⟩ = some (.slice (some ⟨pb, po, none⟩) n cap) ∧ W.cell? ⟨pb, po + u, none⟩ = some (.complex .f64 ru iu) ∧ W.cell? ⟨pb, po + v, none⟩ = some (.complex .f64 rv iv) ∧ Hid (Below W1.heap.size W1 W)) → Calls Tryz.prog 103 #[.complex .f64 ri ii, .complex .f64 rj ij, .complex .f64 ru iu, .complex .f64 rv iv] W fun e W' => e = .returned (.bool (crossB px py i j u v)) ∧ (W'.cell? ⟨w.heap.size, 0, none⟩ = some (.int .i64 u) ∧ W'.cell? ⟨w.heap.size, 1, none⟩ = some (.int .i64 v) ∧ W'.cell? ⟨bM, 0, none⟩ = some (.pointer (some ⟨mb, 0, none⟩)) ∧ W'.cell? ⟨bA, 0, none⟩ = some (.complex .f64 ri ii) ∧ W'.cell? ⟨bB, 0, none⟩ = some (.complex .f64 rj ij) ∧ W'.cell? ⟨bH, 0, none⟩ = some (.func (.func 107) #[] #[.pointer (some ⟨bA, 0, none⟩), .pointer (some ⟨bB, 0, none⟩)]) ∧ W'.cell? ⟨mb, 0, none⟩ = some (.slice (some ⟨pb, po, none⟩) n cap) ∧ W'.cell? ⟨pb, po + u, none⟩ = some (.complex .f64 ru iu) ∧ W'.cell? ⟨pb, po + v, none⟩ = some (.complex .f64 rv iv) ∧ Hid (Below W1.heap.size W1 W'))) := hid fun W hS =>
    (cross_any ri ii rj ij ru iu rv iv px py i j u v Ii Ii' Ij Ij' au au' av av' (HP.bd i hi) (HP.bd j hj) (HP.bd u hu) (HP.bd v hv) W).mono fun e w' h => ⟨h.1, by rw [h.2]; exact hS⟩
  have START : (W1.drew.cell? ⟨w.heap.size, 0, none⟩ = some (.int .i64 u) ∧ W1.drew.cell? ⟨w.heap.size, 1, none⟩ = some (.int .i64 v) ∧ W1.drew.cell? ⟨bM, 0, none⟩ = some (.pointer (some ⟨mb, 0, none⟩)) ∧ W1.drew.cell? ⟨bA, 0, none⟩ = some (.complex .f64 ri ii) ∧ W1.drew.cell? ⟨bB, 0, none⟩ = some (.complex .f64 rj ij) ∧ W1.drew.cell? ⟨bH, 0, none⟩ = some (.func (.func 107) #[] #[.pointer (some ⟨bA, 0, none⟩), .pointer (some ⟨bB, 0, none⟩)]) ∧ W1.drew.cell? ⟨mb, 0, none⟩ = some (.slice (some ⟨pb, po, none⟩) n cap) ∧ W1.drew.cell? ⟨pb, po + u, none⟩ = some (.complex .f64 ru iu) ∧ W1.drew.cell? ⟨pb, po + v, none⟩ = some (.complex .f64 rv iv) ∧ Hid (Below W1.heap.size W1 W1.drew)) := KEEP _ (Below.refl _ _).drew
  have FIN := hid (fun W (h : Hid (Below W1.heap.size W1 W)) => (bstep B1 h.out).out)
  have gu : (u : Int) < n := by omega
  have gv : (v : Int) < n := by omega
  have gu0 : (0 : Int) ≤ u := by omega
  have gv0 : (0 : Int) ≤ v := by omega
  obtain ⟨bt, hbt⟩ : ∃ bt, bt = ((M u v).isSome && (M v u).isSome) := ⟨_, rfl⟩
  rw [← hbt] at C110
  obtain ⟨r, hr⟩ : ∃ r, r = bad px py (crossB px py i j) (away px py i j) M u v := ⟨_, rfl⟩
  rw [← hr]
  clear k0 x0 x1 yM yA yB yH cM cA cB cH
  cases bt with
  | false =>
    have er : r = false := by rw [hr]; exact bad_none hbt.symm
    subst er
    clear hr hbt hlt hM C103 au au' av av' Ii Ii' Ij Ij' cu cv HP
    go_enter Tryz.func109, Tryz.ntmps109
    go_wp2_with fail
    rw [← hW1]
    clear hW1
    refine wp_region_held_drew (S := (fun W => (W.cell? ⟨w.heap.size, 0, none⟩ = some (.int .i64 u) ∧ W.cell? ⟨w.heap.size, 1, none⟩ = some (.int .i64 v) ∧ W.cell? ⟨bM, 0, none⟩ = some (.pointer (some ⟨mb, 0, none⟩)) ∧ W.cell? ⟨bA, 0, none⟩ = some (.complex .f64 ri ii) ∧ W.cell? ⟨bB, 0, none⟩ = some (.complex .f64 rj ij) ∧ W.cell? ⟨bH, 0, none⟩ = some (.func (.func 107) #[] #[.pointer (some ⟨bA, 0, none⟩), .pointer (some ⟨bB, 0, none⟩)]) ∧ W.cell? ⟨mb, 0, none⟩ = some (.slice (some ⟨pb, po, none⟩) n cap) ∧ W.cell? ⟨pb, po + u, none⟩ = some (.complex .f64 ru iu) ∧ W.cell? ⟨pb, po + v, none⟩ = some (.complex .f64 rv iv) ∧ Hid (Below W1.heap.size W1 W)))) (by kernel_rfl) START (fun hHeld => ?_)
    clear hHeld
    refine wpAnyH_take (i := 0) (v := .pointer (some ⟨mb, 0, none⟩)) rfl (by kernel_rfl) (by kernel_rfl) (by kernel_rfl) (fun _ _ _ h => h) (Or.inl ⟨by kernel_rfl, ?_⟩) (by assumption) ?_
    · intro W hSw
      try dsimp only at hSw
      go_simp
    try simp only [Act.put, List.setIfInBounds_toArray, List.set_cons_zero, List.set_cons_succ]
    refine wpAnyH_take (i := 1) (v := .agg #[.int .i64 u, .int .i64 v]) rfl (by kernel_rfl) (by kernel_rfl) (by kernel_rfl) (fun _ _ _ h => h) (Or.inl ⟨by kernel_rfl, ?_⟩) (by assumption) ?_
    · intro W hSw
      try dsimp only at hSw
      go_simp
    try simp only [Act.put, List.setIfInBounds_toArray, List.set_cons_zero, List.set_cons_succ]
    refine wpAnyH_ready (rs := [2]) (by kernel_rfl) (by simp) ?_
    refine AllReadyH.cons rfl (fun K hK => ?_) AllReadyH.nil
    go_simp
    refine (C110.out _ (by assumption)).mono ?_
    rintro e w6 ⟨rfl, hS6⟩
    refine hK.out _ _ hS6 (fun hHeld => ?_)
    clear hK K hHeld
    try simp only [Act.put, List.setIfInBounds_toArray, List.set_cons_zero, List.set_cons_succ]
    clear START
    refine wpAnyH_take (i := 3) (v := .bool true) rfl (by kernel_rfl) (by kernel_rfl) (by kernel_rfl) (fun _ _ _ h => h) (Or.inl ⟨by kernel_rfl, ?_⟩) (by assumption) ?_
    · intro W hSw
      try dsimp only at hSw
      go_simp
    try simp only [Act.put, List.setIfInBounds_toArray, List.set_cons_zero, List.set_cons_succ]
    refine wpAnyH_take (i := 4) (v := .bool true) rfl (by kernel_rfl) (by kernel_rfl) (by kernel_rfl) (fun _ _ _ h => h) (Or.inl ⟨by kernel_rfl, ?_⟩) (by assumption) ?_
    · intro W hSw
      try dsimp only at hSw
      go_simp
    try simp only [Act.put, List.setIfInBounds_toArray, List.set_cons_zero, List.set_cons_succ]
    refine wpAnyH_take (i := 5) (v := undef) rfl (by kernel_rfl) (by kernel_rfl) (by kernel_rfl) (fun _ _ _ h => h) (Or.inr ⟨by kernel_rfl, rfl⟩) (by assumption) ?_
    try simp only [Act.put, List.setIfInBounds_toArray, List.set_cons_zero, List.set_cons_succ]
    refine wpAnyH_take (i := 6) (v := undef) rfl (by kernel_rfl) (by kernel_rfl) (by kernel_rfl) (fun _ _ _ h => h) (Or.inr ⟨by kernel_rfl, rfl⟩) (by assumption) ?_
    try simp only [Act.put, List.setIfInBounds_toArray, List.set_cons_zero, List.set_cons_succ]
    refine wpAnyH_take (i := 7) (v := undef) rfl (by kernel_rfl) (by kernel_rfl) (by kernel_rfl) (fun _ _ _ h => h) (Or.inr ⟨by kernel_rfl, rfl⟩) (by assumption) ?_
    try simp only [Act.put, List.setIfInBounds_toArray, List.set_cons_zero, List.set_cons_succ]
    refine wpAnyH_take (i := 8) (v := undef) rfl (by kernel_rfl) (by kernel_rfl) (by kernel_rfl) (fun _ _ _ h => h) (Or.inr ⟨by kernel_rfl, rfl⟩) (by assumption) ?_
    try simp only [Act.put, List.setIfInBounds_toArray, List.set_cons_zero, List.set_cons_succ]
    refine wpAnyH_take (i := 9) (v := undef) rfl (by kernel_rfl) (by kernel_rfl) (by kernel_rfl) (fun _ _ _ h => h) (Or.inr ⟨by kernel_rfl, rfl⟩) (by assumption) ?_
    try simp only [Act.put, List.setIfInBounds_toArray, List.set_cons_zero, List.set_cons_succ]
    refine wpAnyH_take (i := 10) (v := undef) rfl (by kernel_rfl) (by kernel_rfl) (by kernel_rfl) (fun _ _ _ h => h) (Or.inr ⟨by kernel_rfl, rfl⟩) (by assumption) ?_
    try simp only [Act.put, List.setIfInBounds_toArray, List.set_cons_zero, List.set_cons_succ]
    refine wpAnyH_take (i := 11) (v := undef) rfl (by kernel_rfl) (by kernel_rfl) (by kernel_rfl) (fun _ _ _ h => h) (Or.inr ⟨by kernel_rfl, rfl⟩) (by assumption) ?_
    try simp only [Act.put, List.setIfInBounds_toArray, List.set_cons_zero, List.set_cons_succ]
    refine wpAnyH_take (i := 12) (v := undef) rfl (by kernel_rfl) (by kernel_rfl) (by kernel_rfl) (fun _ _ _ h => h) (Or.inr ⟨by kernel_rfl, rfl⟩) (by assumption) ?_
    try simp only [Act.put, List.setIfInBounds_toArray, List.set_cons_zero, List.set_cons_succ]
    refine wpAnyH_take (i := 13) (v := undef) rfl (by kernel_rfl) (by kernel_rfl) (by kernel_rfl) (fun _ _ _ h => h) (Or.inr ⟨by kernel_rfl, rfl⟩) (by assumption) ?_
    try simp only [Act.put, List.setIfInBounds_toArray, List.set_cons_zero, List.set_cons_succ]
    refine wpAnyH_take (i := 14) (v := undef) rfl (by kernel_rfl) (by kernel_rfl) (by kernel_rfl) (fun _ _ _ h => h) (Or.inr ⟨by kernel_rfl, rfl⟩) (by assumption) ?_
    try simp only [Act.put, List.setIfInBounds_toArray, List.set_cons_zero, List.set_cons_succ]
    refine wpAnyH_take (i := 15) (v := undef) rfl (by kernel_rfl) (by kernel_rfl) (by kernel_rfl) (fun _ _ _ h => h) (Or.inr ⟨by kernel_rfl, rfl⟩) (by assumption) ?_
    try simp only [Act.put, List.setIfInBounds_toArray, List.set_cons_zero, List.set_cons_succ]
    refine wpAnyH_take (i := 16) (v := undef) rfl (by kernel_rfl) (by kernel_rfl) (by kernel_rfl) (fun _ _ _ h => h) (Or.inr ⟨by kernel_rfl, rfl⟩) (by assumption) ?_
    try simp only [Act.put, List.setIfInBounds_toArray, List.set_cons_zero, List.set_cons_succ]
    refine wpAnyH_take (i := 17) (v := undef) rfl (by kernel_rfl) (by kernel_rfl) (by kernel_rfl) (fun _ _ _ h => h) (Or.inr ⟨by kernel_rfl, rfl⟩) (by assumption) ?_
    try simp only [Act.put, List.setIfInBounds_toArray, List.set_cons_zero, List.set_cons_succ]
    refine wpAnyH_take (i := 18) (v := undef) rfl (by kernel_rfl) (by kernel_rfl) (by kernel_rfl) (fun _ _ _ h => h) (Or.inr ⟨by kernel_rfl, rfl⟩) (by assumption) ?_
    try simp only [Act.put, List.setIfInBounds_toArray, List.set_cons_zero, List.set_cons_succ]
    refine wpAnyH_take (i := 19) (v := undef) rfl (by kernel_rfl) (by kernel_rfl) (by kernel_rfl) (fun _ _ _ h => h) (Or.inr ⟨by kernel_rfl, rfl⟩) (by assumption) ?_
    try simp only [Act.put, List.setIfInBounds_toArray, List.set_cons_zero, List.set_cons_succ]
    refine wpAnyH_take (i := 20) (v := undef) rfl (by kernel_rfl) (by kernel_rfl) (by kernel_rfl) (fun _ _ _ h => h) (Or.inr ⟨by kernel_rfl, rfl⟩) (by assumption) ?_
    try simp only [Act.put, List.setIfInBounds_toArray, List.set_cons_zero, List.set_cons_succ]
    refine wpAnyH_take (i := 21) (v := undef) rfl (by kernel_rfl) (by kernel_rfl) (by kernel_rfl) (fun _ _ _ h => h) (Or.inr ⟨by kernel_rfl, rfl⟩) (by assumption) ?_
    try simp only [Act.put, List.setIfInBounds_toArray, List.set_cons_zero, List.set_cons_succ]
    refine wpAnyH_take (i := 22) (v := undef) rfl (by kernel_rfl) (by kernel_rfl) (by kernel_rfl) (fun _ _ _ h => h) (Or.inr ⟨by kernel_rfl, rfl⟩) (by assumption) ?_
    try simp only [Act.put, List.setIfInBounds_toArray, List.set_cons_zero, List.set_cons_succ]
    refine wpAnyH_take (i := 23) (v := undef) rfl (by kernel_rfl) (by kernel_rfl) (by kernel_rfl) (fun _ _ _ h => h) (Or.inr ⟨by kernel_rfl, rfl⟩) (by assumption) ?_
    try simp only [Act.put, List.setIfInBounds_toArray, List.set_cons_zero, List.set_cons_succ]
    refine wpAnyH_take (i := 24) (v := undef) rfl (by kernel_rfl) (by kernel_rfl) (by kernel_rfl) (fun _ _ _ h => h) (Or.inr ⟨by kernel_rfl, rfl⟩) (by assumption) ?_
    try simp only [Act.put, List.setIfInBounds_toArray, List.set_cons_zero, List.set_cons_succ]
    clear C110 KEEP tr
    refine wpAnyH_ready (rs := [25]) (by kernel_rfl) (by simp) ?_
    refine AllReadyH.cons rfl (fun K hK => ?_) AllReadyH.nil
    go_simp
    refine hK.out _ _ (by assumption) (fun hHeld => ?_)
    clear hK K hHeld
    refine wpAnyH_done (by kernel_rfl) ?_ _
    go_wp2_with fail
    go_ret
    exact ⟨rfl, FIN.out _ hS6.2.2.2.2.2.2.2.2.2⟩
  | true =>
    have h2 : (M u v).isSome = true ∧ (M v u).isSome = true := by rw [← Bool.and_eq_true]; exact hbt.symm
    obtain ⟨c, ec⟩ := Option.isSome_iff_exists.1 h2.1
    obtain ⟨d, ed⟩ := Option.isSome_iff_exists.1 h2.2
    have hc := hlt _ _ _ ec
    have hd := hlt _ _ _ ed
    obtain ⟨rc, ic, cc, ac, ac'⟩ := HP.cell c hc
    obtain ⟨rd, id, cd, ad, ad'⟩ := HP.cell d hd
    have bi := HP.bd i hi
    have bj := HP.bd j hj
    obtain ⟨su, tu, K1⟩ := away_any ru iu ri ii rj ij bA bB (px u) (py u) (px i) (py i) (px j) (py j) au au' Ii Ii' Ij Ij' (HP.bd u hu).1 (HP.bd u hu).2 bi.1 bi.2 bj.1 bj.2
    obtain ⟨sv, tv, K2⟩ := away_any rv iv ri ii rj ij bA bB (px v) (py v) (px i) (py i) (px j) (py j) av av' Ii Ii' Ij Ij' (HP.bd v hv).1 (HP.bd v hv).2 bi.1 bi.2 bj.1 bj.2
    obtain ⟨sc, tc, K3⟩ := away_any rc ic ri ii rj ij bA bB (px c) (py c) (px i) (py i) (px j) (py j) ac ac' Ii Ii' Ij Ij' (HP.bd c hc).1 (HP.bd c hc).2 bi.1 bi.2 bj.1 bj.2
    obtain ⟨sd, td, K4⟩ := away_any rd id ri ii rj ij bA bB (px d) (py d) (px i) (py i) (px j) (py j) ad ad' Ii Ii' Ij Ij' (HP.bd d hd).1 (HP.bd d hd).2 bi.1 bi.2 bj.1 bj.2
    have ab : ∀ q, q < n → 0 ≤ away px py i j q ∧ away px py i j q ≤ 8000000 := fun q hq => by
      have := tw_bd8 bi.1 bi.2 bj.1 bj.2 (HP.bd q hq).1 (HP.bd q hq).2
      unfold away T
      omega
    have hpl := HP.lt
    have C111 : Hid (∀ W, (W.cell? ⟨w.heap.size, 0, none⟩ = some (.int .i64 u) ∧ W.cell? ⟨w.heap.size, 1, none⟩ = some (.int .i64 v) ∧ W.cell? ⟨bM, 0, none⟩ = some (.pointer (some ⟨mb, 0, none⟩)) ∧ W.cell? ⟨bA, 0, none⟩ = some (.complex .f64 ri ii) ∧ W.cell? ⟨bB, 0, none⟩ = some (.complex .f64 rj ij) ∧ W.cell? ⟨bH, 0, none⟩ = some (.func (.func 107) #[] #[.pointer (some ⟨bA, 0, none⟩), .pointer (some ⟨bB, 0, none⟩)]) ∧ W.cell? ⟨mb, 0, none⟩ = some (.slice (some ⟨pb, po, none⟩) n cap) ∧ W.cell? ⟨pb, po + u, none⟩ = some (.complex .f64 ru iu) ∧ W.cell? ⟨pb, po + v, none⟩ = some (.complex .f64 rv iv) ∧ Hid (Below W1.heap.size W1 W)) → Calls Tryz.prog 111 #[.pointer (some ⟨mb, 0, none⟩), .agg #[.int .i64 u, .int .i64 v]] W fun e W' => e = .returned (.tuple #[.complex .f64 ru iu, .complex .f64 rv iv, .complex .f64 rc ic, .complex .f64 rd id]) ∧ (W'.cell? ⟨w.heap.size, 0, none⟩ = some (.int .i64 u) ∧ W'.cell? ⟨w.heap.size, 1, none⟩ = some (.int .i64 v) ∧ W'.cell? ⟨bM, 0, none⟩ = some (.pointer (some ⟨mb, 0, none⟩)) ∧ W'.cell? ⟨bA, 0, none⟩ = some (.complex .f64 ri ii) ∧ W'.cell? ⟨bB, 0, none⟩ = some (.complex .f64 rj ij) ∧ W'.cell? ⟨bH, 0, none⟩ = some (.func (.func 107) #[] #[.pointer (some ⟨bA, 0, none⟩), .pointer (some ⟨bB, 0, none⟩)]) ∧ W'.cell? ⟨mb, 0, none⟩ = some (.slice (some ⟨pb, po, none⟩) n cap) ∧ W'.cell? ⟨pb, po + u, none⟩ = some (.complex .f64 ru iu) ∧ W'.cell? ⟨pb, po + v, none⟩ = some (.complex .f64 rv iv) ∧ Hid (Below W1.heap.size W1 W'))) := hid fun W hS =>
      (cornersM_any mb bm N pb po n cap u v c d ru iu rv iv rc ic rd id px py M lv ls W hn (HM1.out.below hS.2.2.2.2.2.2.2.2.2.out) hu hv hc hd ec ed hS.2.2.2.2.2.2.2.1 hS.2.2.2.2.2.2.2.2.1 ((hS.2.2.2.2.2.2.2.2.2.out.cell (p := ⟨pb, po + c, none⟩) hpl).trans cc) ((hS.2.2.2.2.2.2.2.2.2.out.cell (p := ⟨pb, po + d, none⟩) hpl).trans cd)).mono fun e w' h => ⟨h.1, KEEP w' (tr hS.2.2.2.2.2.2.2.2.2.out h.2)⟩
    have C112 : Hid (∀ W, (W.cell? ⟨w.heap.size, 0, none⟩ = some (.int .i64 u) ∧ W.cell? ⟨w.heap.size, 1, none⟩ = some (.int .i64 v) ∧ W.cell? ⟨bM, 0, none⟩ = some (.pointer (some ⟨mb, 0, none⟩)) ∧ W.cell? ⟨bA, 0, none⟩ = some (.complex .f64 ri ii) ∧ W.cell? ⟨bB, 0, none⟩ = some (.complex .f64 rj ij) ∧ W.cell? ⟨bH, 0, none⟩ = some (.func (.func 107) #[] #[.pointer (some ⟨bA, 0, none⟩), .pointer (some ⟨bB, 0, none⟩)]) ∧ W.cell? ⟨mb, 0, none⟩ = some (.slice (some ⟨pb, po, none⟩) n cap) ∧ W.cell? ⟨pb, po + u, none⟩ = some (.complex .f64 ru iu) ∧ W.cell? ⟨pb, po + v, none⟩ = some (.complex .f64 rv iv) ∧ Hid (Below W1.heap.size W1 W)) → Calls Tryz.prog 112 #[.complex .f64 ru iu, .complex .f64 rv iv, .complex .f64 rc ic, .complex .f64 rd id, .func (.func 107) #[] #[.pointer (some ⟨bA, 0, none⟩), .pointer (some ⟨bB, 0, none⟩)]] W fun e W' => e = .returned (.bool (decide (0 < Wg px py (away px py i j) u v c d))) ∧ W' = W) := hid fun W hS =>
      below_any107 ru iu rv iv rc ic rd id su sv sc sd (px u) (py u) (px v) (py v) (px c) (py c) (px d) (py d) (away px py i j u) (away px py i j v) (away px py i j c) (away px py i j d) au au' av av' ac ac' ad ad' (HP.bd u hu).1 (HP.bd u hu).2 (HP.bd v hv).1 (HP.bd v hv).2 (HP.bd c hc).1 (HP.bd c hc).2 (HP.bd d hd).1 (HP.bd d hd).2 tu tv tc td (ab u hu) (ab v hv) (ab c hc) (ab d hd) #[.pointer (some ⟨bA, 0, none⟩), .pointer (some ⟨bB, 0, none⟩)] W (K1 W hS.2.2.2.1 hS.2.2.2.2.1) (K2 W hS.2.2.2.1 hS.2.2.2.2.1) (K3 W hS.2.2.2.1 hS.2.2.2.2.1) (K4 W hS.2.2.2.1 hS.2.2.2.2.1)
    rw [bad_some ec ed] at hr
    obtain ⟨wg, hwg⟩ : ∃ wg, wg = decide (0 < Wg px py (away px py i j) u v c d) := ⟨_, rfl⟩
    rw [← hwg] at C112 hr
    obtain ⟨cr, hcr⟩ : ∃ cr, cr = crossB px py i j u v := ⟨_, rfl⟩
    rw [← hcr] at C103 hr
    clear hwg hcr ab K1 K2 K3 K4 tu tv tc td ac ac' ad ad' cc cd au au' av av' Ii Ii' Ij Ij' cu cv hbt h2 hlt hM HP ec ed bi bj
    cases cr with
    | false =>
      subst hr
      clear C111 C112
      go_enter Tryz.func109, Tryz.ntmps109
      go_wp2_with fail
      rw [← hW1]
      clear hW1
      refine wp_region_held_drew (S := (fun W => (W.cell? ⟨w.heap.size, 0, none⟩ = some (.int .i64 u) ∧ W.cell? ⟨w.heap.size, 1, none⟩ = some (.int .i64 v) ∧ W.cell? ⟨bM, 0, none⟩ = some (.pointer (some ⟨mb, 0, none⟩)) ∧ W.cell? ⟨bA, 0, none⟩ = some (.complex .f64 ri ii) ∧ W.cell? ⟨bB, 0, none⟩ = some (.complex .f64 rj ij) ∧ W.cell? ⟨bH, 0, none⟩ = some (.func (.func 107) #[] #[.pointer (some ⟨bA, 0, none⟩), .pointer (some ⟨bB, 0, none⟩)]) ∧ W.cell? ⟨mb, 0, none⟩ = some (.slice (some ⟨pb, po, none⟩) n cap) ∧ W.cell? ⟨pb, po + u, none⟩ = some (.complex .f64 ru iu) ∧ W.cell? ⟨pb, po + v, none⟩ = some (.complex .f64 rv iv) ∧ Hid (Below W1.heap.size W1 W)))) (by kernel_rfl) START (fun hHeld => ?_)
      clear hHeld
      refine wpAnyH_take (i := 0) (v := .pointer (some ⟨mb, 0, none⟩)) rfl (by kernel_rfl) (by kernel_rfl) (by kernel_rfl) (fun _ _ _ h => h) (Or.inl ⟨by kernel_rfl, ?_⟩) (by assumption) ?_
      · intro W hSw
        try dsimp only at hSw
        go_simp
      try simp only [Act.put, List.setIfInBounds_toArray, List.set_cons_zero, List.set_cons_succ]
      refine wpAnyH_take (i := 1) (v := .agg #[.int .i64 u, .int .i64 v]) rfl (by kernel_rfl) (by kernel_rfl) (by kernel_rfl) (fun _ _ _ h => h) (Or.inl ⟨by kernel_rfl, ?_⟩) (by assumption) ?_
      · intro W hSw
        try dsimp only at hSw
        go_simp
      try simp only [Act.put, List.setIfInBounds_toArray, List.set_cons_zero, List.set_cons_succ]
      refine wpAnyH_ready (rs := [2]) (by kernel_rfl) (by simp) ?_
      refine AllReadyH.cons rfl (fun K hK => ?_) AllReadyH.nil
      go_simp
      refine (C110.out _ (by assumption)).mono ?_
      rintro e w6 ⟨rfl, hS6⟩
      refine hK.out _ _ hS6 (fun hHeld => ?_)
      clear hK K hHeld
      try simp only [Act.put, List.setIfInBounds_toArray, List.set_cons_zero, List.set_cons_succ]
      clear START
      refine wpAnyH_take (i := 3) (v := .bool false) rfl (by kernel_rfl) (by kernel_rfl) (by kernel_rfl) (fun _ _ _ h => h) (Or.inl ⟨by kernel_rfl, ?_⟩) (by assumption) ?_
      · intro W hSw
        try dsimp only at hSw
        go_simp
      try simp only [Act.put, List.setIfInBounds_toArray, List.set_cons_zero, List.set_cons_succ]
      refine wpAnyH_take (i := 4) (v := .bool false) rfl (by kernel_rfl) (by kernel_rfl) (by kernel_rfl) (fun _ _ _ h => h) (Or.inl ⟨by kernel_rfl, ?_⟩) (by assumption) ?_
      · intro W hSw
        try dsimp only at hSw
        go_simp
      try simp only [Act.put, List.setIfInBounds_toArray, List.set_cons_zero, List.set_cons_succ]
      refine wpAnyH_take (i := 5) (v := .complex .f64 ri ii) rfl (by kernel_rfl) (by kernel_rfl) (by kernel_rfl) (fun _ _ _ h => h) (Or.inl ⟨by kernel_rfl, ?_⟩) (by assumption) ?_
      · intro W hSw
        try dsimp only at hSw
        go_simp
      try simp only [Act.put, List.setIfInBounds_toArray, List.set_cons_zero, List.set_cons_succ]
      refine wpAnyH_take (i := 6) (v := .complex .f64 rj ij) rfl (by kernel_rfl) (by kernel_rfl) (by kernel_rfl) (fun _ _ _ h => h) (Or.inl ⟨by kernel_rfl, ?_⟩) (by assumption) ?_
      · intro W hSw
        try dsimp only at hSw
        go_simp
      try simp only [Act.put, List.setIfInBounds_toArray, List.set_cons_zero, List.set_cons_succ]
      refine wpAnyH_take (i := 7) (v := .pointer (some ⟨mb, 0, none⟩)) rfl (by kernel_rfl) (by kernel_rfl) (by kernel_rfl) (fun _ _ _ h => h) (Or.inl ⟨by kernel_rfl, ?_⟩) (by assumption) ?_
      · intro W hSw
        try dsimp only at hSw
        go_simp
      try simp only [Act.put, List.setIfInBounds_toArray, List.set_cons_zero, List.set_cons_succ]
      refine wpAnyH_take (i := 8) (v := .pointer (some ⟨mb, 0, none⟩)) rfl (by kernel_rfl) (by kernel_rfl) (by kernel_rfl) (fun _ _ _ h => h) (Or.inl ⟨by kernel_rfl, ?_⟩) (by assumption) ?_
      · intro W hSw
        try dsimp only at hSw
        go_simp
      try simp only [Act.put, List.setIfInBounds_toArray, List.set_cons_zero, List.set_cons_succ]
      refine wpAnyH_take (i := 9) (v := .pointer (some ⟨mb, 0, none⟩)) rfl (by kernel_rfl) (by kernel_rfl) (by kernel_rfl) (fun _ _ _ h => h) (Or.inl ⟨by kernel_rfl, ?_⟩) (by assumption) ?_
      · intro W hSw
        try dsimp only at hSw
        go_simp
      try simp only [Act.put, List.setIfInBounds_toArray, List.set_cons_zero, List.set_cons_succ]
      refine wpAnyH_take (i := 10) (v := .slice (some ⟨pb, po, none⟩) n cap) rfl (by kernel_rfl) (by kernel_rfl) (by kernel_rfl) (fun _ _ _ h => h) (Or.inl ⟨by kernel_rfl, ?_⟩) (by assumption) ?_
      · intro W hSw
        try dsimp only at hSw
        go_simp
      try simp only [Act.put, List.setIfInBounds_toArray, List.set_cons_zero, List.set_cons_succ]
      refine wpAnyH_take (i := 11) (v := .pointer (some ⟨w.heap.size, 0, none⟩)) rfl (by kernel_rfl) (by kernel_rfl) (by kernel_rfl) (fun _ _ _ h => h) (Or.inl ⟨by kernel_rfl, ?_⟩) (by assumption) ?_
      · intro W hSw
        try dsimp only at hSw
        go_simp
      try simp only [Act.put, List.setIfInBounds_toArray, List.set_cons_zero, List.set_cons_succ]
      refine wpAnyH_take (i := 12) (v := .int .i64 u) rfl (by kernel_rfl) (by kernel_rfl) (by kernel_rfl) (fun _ _ _ h => h) (Or.inl ⟨by kernel_rfl, ?_⟩) (by assumption) ?_
      · intro W hSw
        try dsimp only at hSw
        go_simp
      try simp only [Act.put, List.setIfInBounds_toArray, List.set_cons_zero, List.set_cons_succ]
      refine wpAnyH_take (i := 13) (v := .pointer (some ⟨pb, po + u, none⟩)) rfl (by kernel_rfl) (by kernel_rfl) (by kernel_rfl) (fun _ _ _ h => h) (Or.inl ⟨by kernel_rfl, ?_⟩) (by assumption) ?_
      · intro W hSw
        try dsimp only at hSw
        go_simp
      try simp only [Act.put, List.setIfInBounds_toArray, List.set_cons_zero, List.set_cons_succ]
      refine wpAnyH_take (i := 14) (v := .complex .f64 ru iu) rfl (by kernel_rfl) (by kernel_rfl) (by kernel_rfl) (fun _ _ _ h => h) (Or.inl ⟨by kernel_rfl, ?_⟩) (by assumption) ?_
      · intro W hSw
        try dsimp only at hSw
        go_simp
      try simp only [Act.put, List.setIfInBounds_toArray, List.set_cons_zero, List.set_cons_succ]
      refine wpAnyH_take (i := 15) (v := .pointer (some ⟨mb, 0, none⟩)) rfl (by kernel_rfl) (by kernel_rfl) (by kernel_rfl) (fun _ _ _ h => h) (Or.inl ⟨by kernel_rfl, ?_⟩) (by assumption) ?_
      · intro W hSw
        try dsimp only at hSw
        go_simp
      try simp only [Act.put, List.setIfInBounds_toArray, List.set_cons_zero, List.set_cons_succ]
      refine wpAnyH_take (i := 16) (v := .pointer (some ⟨mb, 0, none⟩)) rfl (by kernel_rfl) (by kernel_rfl) (by kernel_rfl) (fun _ _ _ h => h) (Or.inl ⟨by kernel_rfl, ?_⟩) (by assumption) ?_
      · intro W hSw
        try dsimp only at hSw
        go_simp
      try simp only [Act.put, List.setIfInBounds_toArray, List.set_cons_zero, List.set_cons_succ]
      refine wpAnyH_take (i := 17) (v := .pointer (some ⟨mb, 0, none⟩)) rfl (by kernel_rfl) (by kernel_rfl) (by kernel_rfl) (fun _ _ _ h => h) (Or.inl ⟨by kernel_rfl, ?_⟩) (by assumption) ?_
      · intro W hSw
        try dsimp only at hSw
        go_simp
      try simp only [Act.put, List.setIfInBounds_toArray, List.set_cons_zero, List.set_cons_succ]
      refine wpAnyH_take (i := 18) (v := .slice (some ⟨pb, po, none⟩) n cap) rfl (by kernel_rfl) (by kernel_rfl) (by kernel_rfl) (fun _ _ _ h => h) (Or.inl ⟨by kernel_rfl, ?_⟩) (by assumption) ?_
      · intro W hSw
        try dsimp only at hSw
        go_simp
      try simp only [Act.put, List.setIfInBounds_toArray, List.set_cons_zero, List.set_cons_succ]
      refine wpAnyH_take (i := 19) (v := .pointer (some ⟨w.heap.size, 1, none⟩)) rfl (by kernel_rfl) (by kernel_rfl) (by kernel_rfl) (fun _ _ _ h => h) (Or.inl ⟨by kernel_rfl, ?_⟩) (by assumption) ?_
      · intro W hSw
        try dsimp only at hSw
        go_simp
      try simp only [Act.put, List.setIfInBounds_toArray, List.set_cons_zero, List.set_cons_succ]
      refine wpAnyH_take (i := 20) (v := .int .i64 v) rfl (by kernel_rfl) (by kernel_rfl) (by kernel_rfl) (fun _ _ _ h => h) (Or.inl ⟨by kernel_rfl, ?_⟩) (by assumption) ?_
      · intro W hSw
        try dsimp only at hSw
        go_simp
      try simp only [Act.put, List.setIfInBounds_toArray, List.set_cons_zero, List.set_cons_succ]
      refine wpAnyH_take (i := 21) (v := .pointer (some ⟨pb, po + v, none⟩)) rfl (by kernel_rfl) (by kernel_rfl) (by kernel_rfl) (fun _ _ _ h => h) (Or.inl ⟨by kernel_rfl, ?_⟩) (by assumption) ?_
      · intro W hSw
        try dsimp only at hSw
        go_simp
      try simp only [Act.put, List.setIfInBounds_toArray, List.set_cons_zero, List.set_cons_succ]
      refine wpAnyH_take (i := 22) (v := .complex .f64 rv iv) rfl (by kernel_rfl) (by kernel_rfl) (by kernel_rfl) (fun _ _ _ h => h) (Or.inl ⟨by kernel_rfl, ?_⟩) (by assumption) ?_
      · intro W hSw
        try dsimp only at hSw
        go_simp
      try simp only [Act.put, List.setIfInBounds_toArray, List.set_cons_zero, List.set_cons_succ]
      refine wpAnyH_ready (rs := [23]) (by kernel_rfl) (by simp) ?_
      refine AllReadyH.cons rfl (fun K hK => ?_) AllReadyH.nil
      go_simp
      refine (C103.out _ (by assumption)).mono ?_
      rintro e w7 ⟨rfl, hS7⟩
      refine hK.out _ _ hS7 (fun hHeld => ?_)
      clear hK K hHeld
      try simp only [Act.put, List.setIfInBounds_toArray, List.set_cons_zero, List.set_cons_succ]
      clear hS6
      refine wpAnyH_take (i := 24) (v := .bool true) rfl (by kernel_rfl) (by kernel_rfl) (by kernel_rfl) (fun _ _ _ h => h) (Or.inl ⟨by kernel_rfl, ?_⟩) (by assumption) ?_
      · intro W hSw
        try dsimp only at hSw
        go_simp
      try simp only [Act.put, List.setIfInBounds_toArray, List.set_cons_zero, List.set_cons_succ]
      clear C110 C103
      refine wpAnyH_ready (rs := [25]) (by kernel_rfl) (by simp) ?_
      refine AllReadyH.cons rfl (fun K hK => ?_) AllReadyH.nil
      go_simp
      refine hK.out _ _ (by assumption) (fun hHeld => ?_)
      clear hK K hHeld
      refine wpAnyH_done (by kernel_rfl) ?_ _
      go_wp2_with fail
      go_ret
      exact ⟨rfl, FIN.out _ hS7.2.2.2.2.2.2.2.2.2⟩
    | true =>
      have er : r = wg := hr
      subst er
      clear hr
      go_enter Tryz.func109, Tryz.ntmps109
      go_wp2_with fail
      rw [← hW1]
      clear hW1
      refine wp_region_held_drew (S := (fun W => (W.cell? ⟨w.heap.size, 0, none⟩ = some (.int .i64 u) ∧ W.cell? ⟨w.heap.size, 1, none⟩ = some (.int .i64 v) ∧ W.cell? ⟨bM, 0, none⟩ = some (.pointer (some ⟨mb, 0, none⟩)) ∧ W.cell? ⟨bA, 0, none⟩ = some (.complex .f64 ri ii) ∧ W.cell? ⟨bB, 0, none⟩ = some (.complex .f64 rj ij) ∧ W.cell? ⟨bH, 0, none⟩ = some (.func (.func 107) #[] #[.pointer (some ⟨bA, 0, none⟩), .pointer (some ⟨bB, 0, none⟩)]) ∧ W.cell? ⟨mb, 0, none⟩ = some (.slice (some ⟨pb, po, none⟩) n cap) ∧ W.cell? ⟨pb, po + u, none⟩ = some (.complex .f64 ru iu) ∧ W.cell? ⟨pb, po + v, none⟩ = some (.complex .f64 rv iv) ∧ Hid (Below W1.heap.size W1 W)))) (by kernel_rfl) START (fun hHeld => ?_)
      clear hHeld
      refine wpAnyH_take (i := 0) (v := .pointer (some ⟨mb, 0, none⟩)) rfl (by kernel_rfl) (by kernel_rfl) (by kernel_rfl) (fun _ _ _ h => h) (Or.inl ⟨by kernel_rfl, ?_⟩) (by assumption) ?_
      · intro W hSw
        try dsimp only at hSw
        go_simp
      try simp only [Act.put, List.setIfInBounds_toArray, List.set_cons_zero, List.set_cons_succ]
      refine wpAnyH_take (i := 1) (v := .agg #[.int .i64 u, .int .i64 v]) rfl (by kernel_rfl) (by kernel_rfl) (by kernel_rfl) (fun _ _ _ h => h) (Or.inl ⟨by kernel_rfl, ?_⟩) (by assumption) ?_
      · intro W hSw
        try dsimp only at hSw
        go_simp
      try simp only [Act.put, List.setIfInBounds_toArray, List.set_cons_zero, List.set_cons_succ]
      refine wpAnyH_ready (rs := [2]) (by kernel_rfl) (by simp) ?_
      refine AllReadyH.cons rfl (fun K hK => ?_) AllReadyH.nil
      go_simp
      refine (C110.out _ (by assumption)).mono ?_
      rintro e w6 ⟨rfl, hS6⟩
      refine hK.out _ _ hS6 (fun hHeld => ?_)
      clear hK K hHeld
      try simp only [Act.put, List.setIfInBounds_toArray, List.set_cons_zero, List.set_cons_succ]
      clear START
      refine wpAnyH_take (i := 3) (v := .bool false) rfl (by kernel_rfl) (by kernel_rfl) (by kernel_rfl) (fun _ _ _ h => h) (Or.inl ⟨by kernel_rfl, ?_⟩) (by assumption) ?_
      · intro W hSw
        try dsimp only at hSw
        go_simp
      try simp only [Act.put, List.setIfInBounds_toArray, List.set_cons_zero, List.set_cons_succ]
      refine wpAnyH_take (i := 4) (v := .bool false) rfl (by kernel_rfl) (by kernel_rfl) (by kernel_rfl) (fun _ _ _ h => h) (Or.inl ⟨by kernel_rfl, ?_⟩) (by assumption) ?_
      · intro W hSw
        try dsimp only at hSw
        go_simp
      try simp only [Act.put, List.setIfInBounds_toArray, List.set_cons_zero, List.set_cons_succ]
      refine wpAnyH_take (i := 5) (v := .complex .f64 ri ii) rfl (by kernel_rfl) (by kernel_rfl) (by kernel_rfl) (fun _ _ _ h => h) (Or.inl ⟨by kernel_rfl, ?_⟩) (by assumption) ?_
      · intro W hSw
        try dsimp only at hSw
        go_simp
      try simp only [Act.put, List.setIfInBounds_toArray, List.set_cons_zero, List.set_cons_succ]
      refine wpAnyH_take (i := 6) (v := .complex .f64 rj ij) rfl (by kernel_rfl) (by kernel_rfl) (by kernel_rfl) (fun _ _ _ h => h) (Or.inl ⟨by kernel_rfl, ?_⟩) (by assumption) ?_
      · intro W hSw
        try dsimp only at hSw
        go_simp
      try simp only [Act.put, List.setIfInBounds_toArray, List.set_cons_zero, List.set_cons_succ]
      refine wpAnyH_take (i := 7) (v := .pointer (some ⟨mb, 0, none⟩)) rfl (by kernel_rfl) (by kernel_rfl) (by kernel_rfl) (fun _ _ _ h => h) (Or.inl ⟨by kernel_rfl, ?_⟩) (by assumption) ?_
      · intro W hSw
        try dsimp only at hSw
        go_simp
      try simp only [Act.put, List.setIfInBounds_toArray, List.set_cons_zero, List.set_cons_succ]
      refine wpAnyH_take (i := 8) (v := .pointer (some ⟨mb, 0, none⟩)) rfl (by kernel_rfl) (by kernel_rfl) (by kernel_rfl) (fun _ _ _ h => h) (Or.inl ⟨by kernel_rfl, ?_⟩) (by assumption) ?_
      · intro W hSw
        try dsimp only at hSw
        go_simp
      try simp only [Act.put, List.setIfInBounds_toArray, List.set_cons_zero, List.set_cons_succ]
      refine wpAnyH_take (i := 9) (v := .pointer (some ⟨mb, 0, none⟩)) rfl (by kernel_rfl) (by kernel_rfl) (by kernel_rfl) (fun _ _ _ h => h) (Or.inl ⟨by kernel_rfl, ?_⟩) (by assumption) ?_
      · intro W hSw
        try dsimp only at hSw
        go_simp
      try simp only [Act.put, List.setIfInBounds_toArray, List.set_cons_zero, List.set_cons_succ]
      refine wpAnyH_take (i := 10) (v := .slice (some ⟨pb, po, none⟩) n cap) rfl (by kernel_rfl) (by kernel_rfl) (by kernel_rfl) (fun _ _ _ h => h) (Or.inl ⟨by kernel_rfl, ?_⟩) (by assumption) ?_
      · intro W hSw
        try dsimp only at hSw
        go_simp
      try simp only [Act.put, List.setIfInBounds_toArray, List.set_cons_zero, List.set_cons_succ]
      refine wpAnyH_take (i := 11) (v := .pointer (some ⟨w.heap.size, 0, none⟩)) rfl (by kernel_rfl) (by kernel_rfl) (by kernel_rfl) (fun _ _ _ h => h) (Or.inl ⟨by kernel_rfl, ?_⟩) (by assumption) ?_
      · intro W hSw
        try dsimp only at hSw
        go_simp
      try simp only [Act.put, List.setIfInBounds_toArray, List.set_cons_zero, List.set_cons_succ]
      refine wpAnyH_take (i := 12) (v := .int .i64 u) rfl (by kernel_rfl) (by kernel_rfl) (by kernel_rfl) (fun _ _ _ h => h) (Or.inl ⟨by kernel_rfl, ?_⟩) (by assumption) ?_
      · intro W hSw
        try dsimp only at hSw
        go_simp
      try simp only [Act.put, List.setIfInBounds_toArray, List.set_cons_zero, List.set_cons_succ]
      refine wpAnyH_take (i := 13) (v := .pointer (some ⟨pb, po + u, none⟩)) rfl (by kernel_rfl) (by kernel_rfl) (by kernel_rfl) (fun _ _ _ h => h) (Or.inl ⟨by kernel_rfl, ?_⟩) (by assumption) ?_
      · intro W hSw
        try dsimp only at hSw
        go_simp
      try simp only [Act.put, List.setIfInBounds_toArray, List.set_cons_zero, List.set_cons_succ]
      refine wpAnyH_take (i := 14) (v := .complex .f64 ru iu) rfl (by kernel_rfl) (by kernel_rfl) (by kernel_rfl) (fun _ _ _ h => h) (Or.inl ⟨by kernel_rfl, ?_⟩) (by assumption) ?_
      · intro W hSw
        try dsimp only at hSw
        go_simp
      try simp only [Act.put, List.setIfInBounds_toArray, List.set_cons_zero, List.set_cons_succ]
      refine wpAnyH_take (i := 15) (v := .pointer (some ⟨mb, 0, none⟩)) rfl (by kernel_rfl) (by kernel_rfl) (by kernel_rfl) (fun _ _ _ h => h) (Or.inl ⟨by kernel_rfl, ?_⟩) (by assumption) ?_
      · intro W hSw
        try dsimp only at hSw
        go_simp
      try simp only [Act.put, List.setIfInBounds_toArray, List.set_cons_zero, List.set_cons_succ]
      refine wpAnyH_take (i := 16) (v := .pointer (some ⟨mb, 0, none⟩)) rfl (by kernel_rfl) (by kernel_rfl) (by kernel_rfl) (fun _ _ _ h => h) (Or.inl ⟨by kernel_rfl, ?_⟩) (by assumption) ?_
      · intro W hSw
        try dsimp only at hSw
        go_simp
      try simp only [Act.put, List.setIfInBounds_toArray, List.set_cons_zero, List.set_cons_succ]
      refine wpAnyH_take (i := 17) (v := .pointer (some ⟨mb, 0, none⟩)) rfl (by kernel_rfl) (by kernel_rfl) (by kernel_rfl) (fun _ _ _ h => h) (Or.inl ⟨by kernel_rfl, ?_⟩) (by assumption) ?_
      · intro W hSw
        try dsimp only at hSw
        go_simp
      try simp only [Act.put, List.setIfInBounds_toArray, List.set_cons_zero, List.set_cons_succ]
      refine wpAnyH_take (i := 18) (v := .slice (some ⟨pb, po, none⟩) n cap) rfl (by kernel_rfl) (by kernel_rfl) (by kernel_rfl) (fun _ _ _ h => h) (Or.inl ⟨by kernel_rfl, ?_⟩) (by assumption) ?_
      · intro W hSw
        try dsimp only at hSw
        go_simp
      try simp only [Act.put, List.setIfInBounds_toArray, List.set_cons_zero, List.set_cons_succ]
      refine wpAnyH_take (i := 19) (v := .pointer (some ⟨w.heap.size, 1, none⟩)) rfl (by kernel_rfl) (by kernel_rfl) (by kernel_rfl) (fun _ _ _ h => h) (Or.inl ⟨by kernel_rfl, ?_⟩) (by assumption) ?_
      · intro W hSw
        try dsimp only at hSw
        go_simp
      try simp only [Act.put, List.setIfInBounds_toArray, List.set_cons_zero, List.set_cons_succ]
      refine wpAnyH_take (i := 20) (v := .int .i64 v) rfl (by kernel_rfl) (by kernel_rfl) (by kernel_rfl) (fun _ _ _ h => h) (Or.inl ⟨by kernel_rfl, ?_⟩) (by assumption) ?_
      · intro W hSw
        try dsimp only at hSw
        go_simp
      try simp only [Act.put, List.setIfInBounds_toArray, List.set_cons_zero, List.set_cons_succ]
      refine wpAnyH_take (i := 21) (v := .pointer (some ⟨pb, po + v, none⟩)) rfl (by kernel_rfl) (by kernel_rfl) (by kernel_rfl) (fun _ _ _ h => h) (Or.inl ⟨by kernel_rfl, ?_⟩) (by assumption) ?_
      · intro W hSw
        try dsimp only at hSw
        go_simp
      try simp only [Act.put, List.setIfInBounds_toArray, List.set_cons_zero, List.set_cons_succ]
      refine wpAnyH_take (i := 22) (v := .complex .f64 rv iv) rfl (by kernel_rfl) (by kernel_rfl) (by kernel_rfl) (fun _ _ _ h => h) (Or.inl ⟨by kernel_rfl, ?_⟩) (by assumption) ?_
      · intro W hSw
        try dsimp only at hSw
        go_simp
      try simp only [Act.put, List.setIfInBounds_toArray, List.set_cons_zero, List.set_cons_succ]
      refine wpAnyH_ready (rs := [23]) (by kernel_rfl) (by simp) ?_
      refine AllReadyH.cons rfl (fun K hK => ?_) AllReadyH.nil
      go_simp
      refine (C103.out _ (by assumption)).mono ?_
      rintro e w7 ⟨rfl, hS7⟩
      refine hK.out _ _ hS7 (fun hHeld => ?_)
      clear hK K hHeld
      try simp only [Act.put, List.setIfInBounds_toArray, List.set_cons_zero, List.set_cons_succ]
      clear hS6
      refine wpAnyH_take (i := 24) (v := .bool false) rfl (by kernel_rfl) (by kernel_rfl) (by kernel_rfl) (fun _ _ _ h => h) (Or.inl ⟨by kernel_rfl, ?_⟩) (by assumption) ?_
      · intro W hSw
        try dsimp only at hSw
        go_simp
      try simp only [Act.put, List.setIfInBounds_toArray, List.set_cons_zero, List.set_cons_succ]
      clear C110 C103
      refine wpAnyH_ready (rs := [25]) (by kernel_rfl) (by simp) ?_
      refine AllReadyH.cons rfl (fun K hK => ?_) AllReadyH.nil
      go_simp
      refine hK.out _ _ (by assumption) (fun hHeld => ?_)
      clear hK K hHeld
      refine wpAnyH_done (by kernel_rfl) ?_ _
      go_wp2_with fail
      refine (C111.out _ hS7).mono ?_
      rintro e w8 ⟨rfl, hS8⟩
      have HS8 := hid hS8
      have s5 := hS8.2.2.2.2.2.1
      clear hS8 hS7 C111
      go_wp2_with fail
      refine (C112.out _ HS8.out).mono ?_
      rintro e w9 ⟨rfl, he9⟩
      subst he9
      go_wp2_with fail
      go_ret
      exact ⟨rfl, FIN.out _ HS8.out.2.2.2.2.2.2.2.2.2⟩
end Go.Proofs.YtdbebbbceeopaaaGreat

set_option linter.unusedSimpArgs false
namespace Go.Proofs.YtdbebbbceeopaaaGreat
open Go.RowKit Go.Maps
open Geo (up bad Waits Spent Wg VolG Quad flipM Mesh Cor Bowl lift)

set_option maxRecDepth 100000 in
set_option maxHeartbeats 8000000 in
theorem turnLine_any (mb bm pb po n cap : Nat) (px py h : Nat → Int) (M0 : Nat → Nat → Option Nat) (lv : Value) (ls : List (Nat × Nat)) (ok : Nat → Nat → Bool) (KP : (Nat → Nat → Option Nat) → Prop) (first caps : Array Value) (w : World) (hn : n ≤ 40) (hM : MeshAt w mb bm 1600 pb po n cap px py M0 lv ls) (hm0 : Mesh px py n M0) (hc0 : Cor n M0) (hk0 : KP M0)
    (hbw : Bowl px py h) (hh : ∀ i, 0 ≤ h i) (hsy : ∀ u v, ok u v = ok v u)
    (hKP : ∀ M a b c d, Mesh px py n M → Quad px py M a b c d → ok a b = true → KP M → KP (flipM M a b c d))
    (hcl : ∀ (W : World) (M : Nat → Nat → Option Nat) (u v : Nat), MeshAt W mb bm 1600 pb po n cap px py M lv ls → Mesh px py n M → Below w.heap.size w W ∨ w.grownBy W (some bm) → u < n → v < n → Calls Tryz.prog 109 (first.push (.agg #[.int .i64 (u : Nat), .int .i64 (v : Nat)]) ++ caps) W fun e w' => e = .returned (.bool (bad px py ok h M u v)) ∧ Below W.heap.size W w') :
    Calls Tryz.prog 76 #[.pointer (some ⟨mb, 0, none⟩), .func (.func 109) first caps] w fun e w' => e = .returned (.tuple #[]) ∧ w.grownBy w' (some bm) ∧
      ∃ M, MeshAt w' mb bm 1600 pb po n cap px py M lv ls ∧ Mesh px py n M ∧ Cor n M ∧ KP M ∧ ∀ u v, bad px py ok h M u v = false := by
  obtain ⟨vf, hvf⟩ := vol_fn px py h n bm hn
  have VF := hid hvf
  have SD := hid (sides_any mb bm 1600 pb po n cap px py M0 lv ls w hM (by omega) (fun a b c e => ⟨(hm0.lts e).1, (hm0.lts e).2.1⟩) hn)
  have H1 := hid (World.block_lt_of_cell? w _ hM.c0)
  have H2 := hid hM.plc.lt
  have H3 := hid (own_lt2 hM.ln)
  have bl := hid hM.map.lt
  have HM0 := hid hM
  have CL := hid hcl
  have KPP := hid hKP
  clear hvf hM hcl hKP
  obtain ⟨hb, hhb⟩ : ∃ hb, hb = w.heap.size + 1 := ⟨_, rfl⟩
  have HHB := hid hhb
  rw [← hhb] at SD
  clear hhb
  go_enter Tryz.func76, Tryz.ntmps76
  go_wp2_with fail
  refine SD.out.mono ?_
  rintro e w0 ⟨rfl, hb0, l0, hp0, hl0, hin0, hln0⟩
  have HM0' : Hid (MeshAt w0 mb bm 1600 pb po n cap px py M0 lv ls) := hid (HM0.out.below hb0)
  have G0 : Hid (w.grownBy w0 (some bm)) := hid (grown_below _ hb0)
  have T0 : Hid (Ti px py h n ok KP M0 l0 []) := hid ⟨hm0, hc0, hk0, fun u v huv hbad => by
    obtain ⟨_, c, d, e1, _, _⟩ := Geo.bad_inv hbad
    exact hin0 u v huv (by rw [e1]; rfl), Spent.nil, by simp; omega, hln0⟩
  have HP0 := hid hp0
  clear hb0 hp0 hl0 hin0 hln0 SD
  go_wp2_with fail
  go_loopw [5, 7] (fun _ _ wr => ∃ (M : Nat → Nat → Option Nat) (l K : List (Nat × Nat)), Hid (MeshAt wr mb bm 1600 pb po n cap px py M lv ls) ∧ Hid (Ti px py h n ok KP M l K) ∧ Hid (Hp wr hb l) ∧ Hid (w.grownBy wr (some bm))) (fun _ _ wr => vf wr * 5 + lenW wr hb)
  case atStart => exact ⟨M0, l0, [], HM0', T0, HP0, G0⟩
  case round =>
    obtain ⟨M, l, K, HM, HT, HP, HG⟩ := hrel
    clear HM0' T0 HP0 G0
    have hlen : l.length ≤ 6400 := by have := HT.out.len; have := HT.out.spent.len hn; omega
    obtain ⟨v, c0, ho⟩ := HP.out.ex
    obtain ⟨a1, c1, hv⟩ := owns_len2 ho
    subst hv
    have HLN := hid (len_any a1 l.length c1 wr)
    clear ho
    by_cases hl : l.length = 0
    · have hle : l = [] := List.eq_nil_of_length_eq_zero hl
      have DONE : Hid (∀ u v, bad px py ok h M u v = false) := hid (Waits.done hsy HT.out.mesh (by rw [← hle]; exact HT.out.wait))
      rw [hl] at c0 HLN
      go_wp2_with fail
      refine HLN.out.mono ?_
      rintro e w1 ⟨rfl, rfl⟩
      go_wp2_with fail
      go_end0
      exact ⟨rfl, HG.out, M, HM.out, HT.out.mesh, HT.out.cor, HT.out.keep, DONE.out⟩
    · have hd : decide ((0 : Int) < (l.length : Int)) = true := by simp; omega
      have NX := hid (next_any hb l wr HP.out (by omega) (by omega))
      go_wp2_with fail
      refine HLN.out.mono ?_
      rintro e w1 ⟨rfl, rfl⟩
      go_wp2_with fail
      refine NX.out.mono ?_
      rintro e w2 ⟨⟨x, l1, rfl, hp2, hpm⟩, hf2⟩
      have B2 : Below w.heap.size w1 w2 := hf2.belowB HP.out (by have := HHB.out; omega) HG.out.size
      have hxl := HT.out.lt x (hpm.mem_iff.2 List.mem_cons_self)
      obtain ⟨W2, hW2⟩ : ∃ W2, W2 = w2.alloc (.cells #[.int .i64 (x.1 : Nat), .int .i64 (x.2 : Nat)] 110) := ⟨_, rfl⟩
      have B2' : Hid (Below w2.heap.size w2 W2) := hid (by rw [hW2]; exact (Below.refl _ _).alloc (Nat.le_refl _) _)
      have HM2 := hid ((HM.out.belowB B2 H1.out bl.out H2.out H3.out).below B2'.out)
      have HG2 := hid (gr_below (gr_below HG.out B2) (B2'.out.mono (Nat.le_trans HG.out.size B2.size)))
      have HP2 := hid (hp2.below B2'.out (Nat.le_refl _))
      have HPM := hid hpm
      have hl1 : l.length = l1.length + 1 := by rw [hpm.length_eq]; rfl
      have CALL := hid (CL.out W2 M x.1 x.2 HM2.out HT.out.mesh (.inr HG2.out) (by omega) hxl.2)
      have x0 : W2.cell? ⟨w2.heap.size, 0, none⟩ = some (.int .i64 (x.1 : Nat)) := by rw [hW2]; exact World.cell?_alloc_at _ _ _ _ rfl
      have x1 : W2.cell? ⟨w2.heap.size, 1, none⟩ = some (.int .i64 (x.2 : Nat)) := by rw [hW2]; exact World.cell?_alloc_at _ _ _ _ rfl
      have xlt : Hid (w2.heap.size < W2.heap.size) := hid (World.block_lt_of_cell? W2 _ x0)
      have XX : Hid (W2.cell? ⟨w2.heap.size, 0, none⟩ = some (.int .i64 (x.1 : Nat)) ∧ W2.cell? ⟨w2.heap.size, 1, none⟩ = some (.int .i64 (x.2 : Nat))) := hid ⟨x0, x1⟩
      rw [hW2] at x0 x1
      clear hp2 hf2 hpm B2 c0 NX HLN
      go_wp2_with fail
      rw [← hW2]
      clear hW2
      refine CALL.out.mono ?_
      rintro e w3 ⟨rfl, hb3⟩
      have HM3 := hid (HM2.out.below hb3)
      have HG3 := hid (gr_below HG2.out (hb3.mono HG2.out.size))
      have HP3 := hid (HP2.out.below hb3 (Nat.le_refl _))
      have XC : Hid (w3.cell? ⟨w2.heap.size, 0, none⟩ = some (.int .i64 (x.1 : Nat)) ∧ w3.cell? ⟨w2.heap.size, 1, none⟩ = some (.int .i64 (x.2 : Nat))) := hid ⟨(hb3.cell (p := ⟨w2.heap.size, 0, none⟩) xlt.out).trans XX.out.1, (hb3.cell (p := ⟨w2.heap.size, 1, none⟩) xlt.out).trans XX.out.2⟩
      have LW := hid (lenW_eq HP.out)
      have VW := hid (VF.out _ _ _ HM.out.map)
      clear hb3 CALL x0 x1 HM2 HG2 HP2 B2' XX
      obtain ⟨bb, hbb⟩ : ∃ bb, bb = bad px py ok h M x.1 x.2 := ⟨_, rfl⟩
      rw [← hbb]
      have HBB := hid hbb
      clear hbb
      cases bb
      · have T1 : Hid (Ti px py h n ok KP M l1 K) := hid (HT.out.drop HPM.out HBB.out.symm)
        go_wp2_with fail
        go_roundw
        case rel => exact ⟨M, l1, K, HM3, T1, HP3, HG3⟩
        case measure => rw [lenW_eq HP3.out, LW.out, VW.out, VF.out _ _ _ HM3.out.map]; omega
      · obtain ⟨hok, c, d, e1, e2, hw⟩ := Geo.bad_inv HBB.out.symm
        have lc := HT.out.mesh.lts e1
        have ld := HT.out.mesh.lts e2
        have hxx : x.1 < x.2 := by
          have := Geo.T_ne12 (HT.out.mesh.pos _ _ _ e1)
          omega
        have TO := hid (turnOver_any mb bm 1600 pb po n cap x.1 x.2 c d px py M lv ls w3 hn HM3.out (by omega) lc.1 lc.2.1 lc.2.2 ld.2.2 e1 e2)
        have q := HT.out.mesh.quadG hbw e1 e2 hw
        have FL := hid (turn_flip q)
        have VOL := hid (Geo.flip_VolG HT.out.mesh h q)
        have NN := hid (Geo.volG_nonneg (HT.out.mesh.flipQ q) hh)
        have MF := hid (HT.out.mesh.flipQ q)
        have TT := hid (fun l5 hp5 => HT.out.turn (l5 := l5) hbw KPP.out HPM.out hok e1 e2 hw hxx hp5)
        have HW := hid hw
        clear q e1 e2 hw hok
        have xc0 := XC.out.1
        have xc1 := XC.out.2
        generalize hx1 : x.1 = xa at *
        generalize hx2 : x.2 = xb at *
        go_wp2_with fail
        refine TO.out.mono ?_
        rintro e w4 ⟨rfl, hm4, hg4⟩
        rw [FL.out] at hm4
        have HM4 := hid (hm4.tight MF.out hn)
        have HG4 := hid (gr_trans HG3.out hg4)
        have HP4 := hid (HP3.out.grown hg4 (by have := HHB.out; have := bl.out; omega))
        clear hm4 hg4 xc0 xc1 TO HM3 HG3 HP3 XC
        go_wp2_with fail
        have ix0 := Tryz.ix0 (.int .i64 (xa : Nat)) (.int .i64 (d : Nat)) (.int .i64 (d : Nat)) (.int .i64 (xb : Nat)) (.int .i64 (xb : Nat)) (.int .i64 (c : Nat)) (.int .i64 (c : Nat)) (.int .i64 (xa : Nat))
        have ix1 := Tryz.ix1 (.int .i64 (xa : Nat)) (.int .i64 (d : Nat)) (.int .i64 (d : Nat)) (.int .i64 (xb : Nat)) (.int .i64 (xb : Nat)) (.int .i64 (c : Nat)) (.int .i64 (c : Nat)) (.int .i64 (xa : Nat))
        have ix2 := Tryz.ix2 (.int .i64 (xa : Nat)) (.int .i64 (d : Nat)) (.int .i64 (d : Nat)) (.int .i64 (xb : Nat)) (.int .i64 (xb : Nat)) (.int .i64 (c : Nat)) (.int .i64 (c : Nat)) (.int .i64 (xa : Nat))
        have ix3 := Tryz.ix3 (.int .i64 (xa : Nat)) (.int .i64 (d : Nat)) (.int .i64 (d : Nat)) (.int .i64 (xb : Nat)) (.int .i64 (xb : Nat)) (.int .i64 (c : Nat)) (.int .i64 (c : Nat)) (.int .i64 (xa : Nat))
        refine wp_loop_rounds 5 ?_
        have WS1 := hid (wait_step (a := xa) (b := d) HHB.out HM4.out HP4.out HG4.out H1.out H2.out H3.out bl.out (by omega))
        rw [rounds_succ]
        go_wp2_with fail
        refine WS1.out.mono ?_
        rintro e w5 ⟨rfl, ⟨l2, hpx, hpm1⟩, hmx, hgx⟩
        have HP5 := hid hpx
        have HM5 := hid hmx
        have HG5 := hid hgx
        have PM1 := hid hpm1
        have hl5 : l2.length = l1.length + 1 := by rw [hpm1.length_eq]; rfl
        clear hpx hmx hgx hpm1 WS1
        go_wp2_with fail
        have WS2 := hid (wait_step (a := d) (b := xb) HHB.out HM5.out HP5.out HG5.out H1.out H2.out H3.out bl.out (by omega))
        rw [rounds_succ]
        go_wp2_with fail
        refine WS2.out.mono ?_
        rintro e w6 ⟨rfl, ⟨l3, hpx, hpm2⟩, hmx, hgx⟩
        have HP6 := hid hpx
        have HM6 := hid hmx
        have HG6 := hid hgx
        have PM2 := hid hpm2
        have hl6 : l3.length = l2.length + 1 := by rw [hpm2.length_eq]; rfl
        clear hpx hmx hgx hpm2 WS2
        go_wp2_with fail
        have WS3 := hid (wait_step (a := xb) (b := c) HHB.out HM6.out HP6.out HG6.out H1.out H2.out H3.out bl.out (by omega))
        rw [rounds_succ]
        go_wp2_with fail
        refine WS3.out.mono ?_
        rintro e w7 ⟨rfl, ⟨l4, hpx, hpm3⟩, hmx, hgx⟩
        have HP7 := hid hpx
        have HM7 := hid hmx
        have HG7 := hid hgx
        have PM3 := hid hpm3
        have hl7 : l4.length = l3.length + 1 := by rw [hpm3.length_eq]; rfl
        clear hpx hmx hgx hpm3 WS3
        go_wp2_with fail
        have WS4 := hid (wait_step (a := c) (b := xa) HHB.out HM7.out HP7.out HG7.out H1.out H2.out H3.out bl.out (by omega))
        rw [rounds_succ]
        go_wp2_with fail
        refine WS4.out.mono ?_
        rintro e w8 ⟨rfl, ⟨l5, hpx, hpm4⟩, hmx, hgx⟩
        have HP8 := hid hpx
        have HM8 := hid hmx
        have HG8 := hid hgx
        have PM4 := hid hpm4
        have hl8 : l5.length = l4.length + 1 := by rw [hpm4.length_eq]; rfl
        clear hpx hmx hgx hpm4 WS4
        go_wp2_with fail
        rw [rounds_succ]
        go_wp2_with fail
        have T5 := hid (TT.out l5 (PM4.out.trans ((PM3.out.trans ((PM2.out.trans (PM1.out.cons _)).cons _)).cons _)))
        go_roundw
        case rel => exact ⟨_, l5, _, HM8, T5, HP8, HG8⟩
        case measure =>
          rw [lenW_eq HP8.out, LW.out, VW.out, VF.out _ _ _ HM8.out.map, VOL.out]
          have := HW.out
          have := NN.out
          rw [VOL.out] at this
          omega
end Go.Proofs.YtdbebbbceeopaaaGreat

set_option linter.unusedSimpArgs false
namespace Go.Proofs.YtdbebbbceeopaaaGreat
open Go.RowKit Go.Maps
open Flt (Is)
open Geo (up bad Wg Mesh Cor Quad flipM)

/-- What a drawn line leaves as it was. -/
structure Dm (w w' : World) (mb bm : Nat) (lv lv' : Value) : Prop where
  os : w'.os = w.os
  tape : w'.tape = w.tape
  output : w'.output = w.output
  size : w.heap.size ≤ w'.heap.size
  block : ∀ k, k < w.heap.size → k ≠ mb → k ≠ bm → lv.ownBlock ≠ some k → w'.heap[k]? = w.heap[k]?
  row : ∀ k, k < w.heap.size → lv'.ownBlock = some k → lv.ownBlock = some k

theorem MapAt.ofBlock {w w' : World} {bm N : Nat} {M : Nat → Nat → Option Nat} (h : MapAt w bm N M) (e : w'.heap[bm]? = w.heap[bm]?) : MapAt w' bm N M := by
  obtain ⟨D, hown, hR⟩ := h
  obtain ⟨es, clock, e1, e2, e3, e4⟩ := hown
  exact ⟨D, ⟨es, clock, e.trans e1, e2, e3, e4⟩, hR⟩

theorem Plc.ofBlock {w w' : World} {pb po n : Nat} {px py : Nat → Int} (h : Plc w pb po n px py) (hs : w.heap.size ≤ w'.heap.size) (e : w'.heap[pb]? = w.heap[pb]?) : Plc w' pb po n px py :=
  ⟨Nat.lt_of_lt_of_le h.lt hs, fun i hi => by
    obtain ⟨r, q, e1, e2, e3⟩ := h.cell i hi
    exact ⟨r, q, (World.cell?_of_block (w := w) (a := ⟨pb, po + i, none⟩) e).trans e1, e2, e3⟩, h.bd⟩

/-- The mesh behind a line that is put to the others. -/
theorem draw_post {w6 w9 : World} {mb bm N pb po n cap gi ci : Nat} {px py : Nat → Int} {M : Nat → Nat → Option Nat} {lv : Value} {ls : List (Nat × Nat)} {x : Nat × Nat} {o : Obj} (h : MeshAt w6 mb bm N pb po n cap px py M lv ls) (hmp : mb ≠ pb) (hlp : lv.ownBlock ≠ some pb)
    (hown : w9.ownsRow (mb + 1) 110 2 (.slice (some ⟨gi, 0, none⟩) (ls.length + 1) ci) (ls.length + 1) (flat ls ++ [.int .i64 x.1, .int .i64 x.2])) (hg : (w6.alloc o).drew.grownBy w9 lv.ownBlock) (hat : lv.ownBlock = some gi ∨ gi = w6.heap.size + 1) :
    MeshAt (w9.setCell ⟨mb, 2, none⟩ (.slice (some ⟨gi, 0, none⟩) (ls.length + 1) ci)) mb bm N pb po n cap px py M (.slice (some ⟨gi, 0, none⟩) (ls.length + 1) ci) (ls ++ [x]) ∧ Dm w6 (w9.setCell ⟨mb, 2, none⟩ (.slice (some ⟨gi, 0, none⟩) (ls.length + 1) ci)) mb bm lv (.slice (some ⟨gi, 0, none⟩) (ls.length + 1) ci) := by
  have own := own_geH h.ln
  have lmb : mb < w6.heap.size := World.block_lt_of_cell? w6 _ h.c0
  have lbm := h.map.lt
  have lpb := h.plc.lt
  have e1 : (w6.alloc o).drew.heap.size = w6.heap.size + 1 := by show (w6.alloc o).heap.size = _; simp
  have blk : ∀ k, k < w6.heap.size → lv.ownBlock ≠ some k → w9.heap[k]? = w6.heap[k]? := fun k hk hne => (hg.block k (by omega) (fun e => hne e.symm)).trans (Below.heap_alloc w6 o k hk)
  have nmb : lv.ownBlock ≠ some mb := fun e => by have := (own mb e).1; omega
  have gmb : gi ≠ mb := by
    rcases hat with k | k
    · intro e; rw [e] at k; exact nmb k
    · omega
  have sz : w6.heap.size ≤ w9.heap.size := by have := hg.size; omega
  have sc : ∀ (u : Value) (k : Nat), k ≠ mb → (w9.setCell ⟨mb, 2, none⟩ u).heap[k]? = w9.heap[k]? := fun u k hk => Below.heap_setCell _ _ _ _ hk
  have ssz : ∀ u : Value, (w9.setCell ⟨mb, 2, none⟩ u).heap.size = w9.heap.size := fun u => by simp [World.setCell]
  have c9 : ∀ off v, w6.cell? ⟨mb, off, none⟩ = some v → w9.cell? ⟨mb, off, none⟩ = some v := fun off v hv => (World.cell?_of_block (w := w6) (a := ⟨mb, off, none⟩) (blk mb lmb nmb)).trans hv
  have f9 : w9.frozen? ⟨mb, 2, none⟩ = false := (World.frozen?_of_block (w := w6) (a := ⟨mb, 2, none⟩) (blk mb lmb nmb)).trans h.f2
  refine ⟨⟨?_, ?_, World.cell?_setCell_same _ _ _ (c9 _ _ h.c2), by rw [World.frozen?_setCell]; exact f9, ?_, ?_, ?_, ?_, h.ne, h.np⟩, ⟨hg.os, hg.tape, hg.output, by rw [ssz]; exact sz, fun k hk k1 k2 k3 => ?_, fun k hk e => ?_⟩⟩
  · rw [World.cell?_setCell_other _ _ _ _ (by simp)]; exact c9 _ _ h.c0
  · rw [World.cell?_setCell_other _ _ _ _ (by simp)]; exact c9 _ _ h.c1
  · have e : flat (ls ++ [x]) = flat ls ++ [.int .i64 x.1, .int .i64 x.2] := by rw [flat_append]; rfl
    rw [e, List.length_append]
    exact hown.kept (row := some mb) ⟨rfl, rfl, rfl, by simp [World.setCell], fun k hk hne => Below.heap_setCell _ _ _ _ (fun e => hne (by rw [e]))⟩ (.inr (by intro e; exact gmb (Option.some.inj e)))
  · intro e
    have e' : gi = bm := Option.some.inj e
    rcases hat with k | k
    · rw [e'] at k; exact h.nl k
    · omega
  · refine h.plc.ofBlock (by rw [ssz]; exact sz) ?_
    rw [sc _ _ (Ne.symm hmp)]
    exact blk pb lpb hlp
  · refine h.map.ofBlock ?_
    rw [sc _ _ (Ne.symm h.ne)]
    exact blk bm lbm h.nl
  · rw [sc _ _ k1]
    exact blk k hk k3
  · have e' : gi = k := Option.some.inj e
    rcases hat with q | q
    · rw [q, e']
    · omega

theorem Dm.before {w w1 w2 w3 : World} {mb bm : Nat} {lv lv' : Value} (h : Dm w2 w3 mb bm lv lv') (hb : Below w.heap.size w w1) (hg : w1.grownBy w2 (some bm)) : Dm w w3 mb bm lv lv' :=
  ⟨h.os.trans (hg.os.trans hb.os), h.tape.trans (hg.tape.trans hb.tape), h.output.trans (hg.output.trans hb.output), Nat.le_trans hb.size (Nat.le_trans hg.size h.size),
    fun k hk k1 k2 k3 => (h.block k (by have := hb.size; have := hg.size; omega) k1 k2 k3).trans ((hg.block k (by have := hb.size; omega) (fun e => k2 (Option.some.inj e))).trans (hb.block k hk)),
    fun k hk e => h.row k (by have := hb.size; have := hg.size; omega) e⟩

theorem ab_new (W1 : World) (S : Nat) (hS : W1.heap.size = S) (a b : Value) : ((W1.alloc (.cells #[a] 94)).alloc (.cells #[b] 94)).drew.cell? ⟨S, 0, none⟩ = some a ∧ ((W1.alloc (.cells #[a] 94)).alloc (.cells #[b] 94)).drew.cell? ⟨S + 1, 0, none⟩ = some b ∧ Below W1.heap.size W1 ((W1.alloc (.cells #[a] 94)).alloc (.cells #[b] 94)).drew ∧ ((W1.alloc (.cells #[a] 94)).alloc (.cells #[b] 94)).drew.heap.size = S + 1 + 1 := by
  refine ⟨?_, ?_, ?_, ?_⟩
  · show ((W1.alloc _).alloc _).cell? _ = _
    rw [World.cell?_alloc_past _ _ _ (by simp; omega), World.cell?_alloc_at _ _ _ _ (by omega)]; rfl
  · show ((W1.alloc _).alloc _).cell? _ = _
    rw [World.cell?_alloc_at _ _ _ _ (by simp; omega)]; rfl
  · exact (((Below.refl _ _).alloc (Nat.le_refl _) _).alloc (by simp) _).drew
  · show ((W1.alloc _).alloc _).heap.size = _
    simp [hS]

set_option maxRecDepth 100000 in
set_option maxHeartbeats 8000000 in
theorem draw_any (mb bm pb po n cap i j : Nat) (px py : Nat → Int) (M0 : Nat → Nat → Option Nat) (lv : Value) (ls : List (Nat × Nat)) (KP : (Nat → Nat → Option Nat) → Prop) (w : World) (hn : n ≤ 40) (hM : MeshAt w mb bm 1600 pb po n cap px py M0 lv ls) (hls : ls.length ≤ 1000) (hm0 : Mesh px py n M0) (hc0 : Cor n M0) (hk0 : KP M0) (hi : i < n) (hj : j < n) (hmp : mb ≠ pb) (hlp : lv.ownBlock ≠ some pb)
    (hKP : ∀ M a b c d, Mesh px py n M → Quad px py M a b c d → crossB px py i j a b = true → KP M → KP (flipM M a b c d)) :
    Calls Tryz.prog 74 #[.pointer (some ⟨mb, 0, none⟩), .agg #[.int .i64 i, .int .i64 j]] w fun e w' => e = .returned (.tuple #[]) ∧
      ∃ M lv', MeshAt w' mb bm 1600 pb po n cap px py M lv' (ls ++ [(i, j)]) ∧ Dm w w' mb bm lv lv' ∧ Mesh px py n M ∧ Cor n M ∧ KP M ∧ ∀ u v, bad px py (crossB px py i j) (away px py i j) M u v = false := by
  obtain ⟨W1, hW1⟩ : ∃ W1 : World, W1 = (w.alloc (.cells #[.pointer (some ⟨mb, 0, none⟩)] 75)).alloc (.cells #[.int .i64 i, .int .i64 j] 110) := ⟨_, rfl⟩
  have B1 : Hid (Below w.heap.size w W1) := hid (by rw [hW1]; exact ((Below.refl _ _).alloc (Nat.le_refl _) _).alloc (by simp) _)
  have S1 : W1.heap.size = w.heap.size + 1 + 1 := by rw [hW1]; simp
  have HM1 := hid (hM.below B1.out)
  have HP := HM1.out.plc
  obtain ⟨ri, ii, ci, Ii, Ii'⟩ := HP.cell i hi
  obtain ⟨rj, ij, cj, Ij, Ij'⟩ := HP.cell j hj
  have k0 := HM1.out.c0
  have x0 : W1.cell? ⟨w.heap.size, 0, none⟩ = some (.pointer (some ⟨mb, 0, none⟩)) := by rw [hW1, World.cell?_alloc_past _ _ _ (by simp), World.cell?_alloc_at _ _ _ _ (by simp)]; rfl
  have x1 : W1.cell? ⟨w.heap.size + 1, 0, none⟩ = some (.int .i64 i) := by rw [hW1, World.cell?_alloc_at _ _ _ _ (by simp)]; rfl
  have x2 : W1.cell? ⟨w.heap.size + 1, 1, none⟩ = some (.int .i64 j) := by rw [hW1, World.cell?_alloc_at _ _ _ _ (by simp)]; rfl
  have gi : (i : Int) < n := by omega
  have gj : (j : Int) < n := by omega
  have gi0 : (0 : Int) ≤ i := by omega
  have gj0 : (0 : Int) ≤ j := by omega
  have l1 := World.block_lt_of_cell? W1 _ k0
  have l2 := World.block_lt_of_cell? W1 _ ci
  have l3 := World.block_lt_of_cell? W1 _ x0
  have l4 := World.block_lt_of_cell? W1 _ x1
  have HM := hid hM
  have HPP := hid HP
  have HII := hid (And.intro (And.intro Ii Ii') (And.intro Ij Ij'))
  clear hM HP Ii Ii' Ij Ij'
  go_enter Tryz.func74, Tryz.ntmps74
  go_wp2_with fail
  rw [← hW1]
  clear hW1
  have t0 : ((W1.alloc (.cells #[.complex .f64 0 0] 94)).alloc (.cells #[.complex .f64 0 0] 94)).cell? ⟨w.heap.size + 1 + 1, 0, none⟩ = some (.complex .f64 0 0) := by
    rw [World.cell?_alloc_past _ _ _ (by simp; omega), World.cell?_alloc_at _ _ _ _ (by omega)]; rfl
  have t1 : ((W1.alloc (.cells #[.complex .f64 0 0] 94)).alloc (.cells #[.complex .f64 0 0] 94)).cell? ⟨w.heap.size + 1 + 1 + 1, 0, none⟩ = some (.complex .f64 0 0) := by
    rw [World.cell?_alloc_at _ _ _ _ (by simp; omega)]; rfl
  have f0 : ((W1.alloc (.cells #[.complex .f64 0 0] 94)).alloc (.cells #[.complex .f64 0 0] 94)).frozen? ⟨w.heap.size + 1 + 1, 0, none⟩ = false := by
    rw [World.frozen?_alloc_past _ _ _ (by simp; omega), World.frozen?_alloc_at _ _ _ _ (by omega)]
  have f1 : ((W1.alloc (.cells #[.complex .f64 0 0] 94)).alloc (.cells #[.complex .f64 0 0] 94)).frozen? ⟨w.heap.size + 1 + 1 + 1, 0, none⟩ = false := by
    rw [World.frozen?_alloc_at _ _ _ _ (by simp; omega)]
  have s0 : ∀ u, (((W1.alloc (.cells #[.complex .f64 0 0] 94)).alloc (.cells #[.complex .f64 0 0] 94)).drew.setCell ⟨w.heap.size + 1 + 1, 0, none⟩ u).cell? ⟨w.heap.size + 1 + 1 + 1, 0, none⟩ = some (.complex .f64 0 0) := fun u => by rw [World.cell?_setCell_far _ _ _ _ (by show _ + 1 + 1 ≠ _ + 1 + 1 + 1; omega)]; exact t1
  have s1 : ∀ u, (((W1.alloc (.cells #[.complex .f64 0 0] 94)).alloc (.cells #[.complex .f64 0 0] 94)).drew.setCell ⟨w.heap.size + 1 + 1 + 1, 0, none⟩ u).cell? ⟨w.heap.size + 1 + 1, 0, none⟩ = some (.complex .f64 0 0) := fun u => by rw [World.cell?_setCell_far _ _ _ _ (by show _ + 1 + 1 + 1 ≠ _ + 1 + 1; omega)]; exact t0
  have t0' : ((W1.alloc (.cells #[.complex .f64 0 0] 94)).alloc (.cells #[.complex .f64 0 0] 94)).drew.cell? ⟨w.heap.size + 1 + 1, 0, none⟩ = some (.complex .f64 0 0) := t0
  have t1' : ((W1.alloc (.cells #[.complex .f64 0 0] 94)).alloc (.cells #[.complex .f64 0 0] 94)).drew.cell? ⟨w.heap.size + 1 + 1 + 1, 0, none⟩ = some (.complex .f64 0 0) := t1
  have f0' : ((W1.alloc (.cells #[.complex .f64 0 0] 94)).alloc (.cells #[.complex .f64 0 0] 94)).drew.frozen? ⟨w.heap.size + 1 + 1, 0, none⟩ = false := f0
  have f1' : ((W1.alloc (.cells #[.complex .f64 0 0] 94)).alloc (.cells #[.complex .f64 0 0] 94)).drew.frozen? ⟨w.heap.size + 1 + 1 + 1, 0, none⟩ = false := f1
  have h0 : ∀ u, (((W1.alloc (.cells #[.complex .f64 0 0] 94)).alloc (.cells #[.complex .f64 0 0] 94)).drew.setCell ⟨w.heap.size + 1 + 1, 0, none⟩ u).frozen? ⟨w.heap.size + 1 + 1 + 1, 0, none⟩ = false := fun u => by rw [World.frozen?_setCell]; exact f1
  have h1 : ∀ u, (((W1.alloc (.cells #[.complex .f64 0 0] 94)).alloc (.cells #[.complex .f64 0 0] 94)).drew.setCell ⟨w.heap.size + 1 + 1 + 1, 0, none⟩ u).frozen? ⟨w.heap.size + 1 + 1, 0, none⟩ = false := fun u => by rw [World.frozen?_setCell]; exact f0
  have hst : ∀ (a : Addr) (m : Mode) (x y : Nat) (w : World), (store a (.complex .f64 x y) m).run Tryz.prog w = stored Tryz.prog w a (.complex .f64 x y) m := fun a m x y w => run_store Tryz.prog w a _ m rfl
  go_region_held3 (fun W => W.cell? ⟨w.heap.size, 0, none⟩ = some (.pointer (some ⟨mb, 0, none⟩)) ∧ W.cell? ⟨w.heap.size + 1, 0, none⟩ = some (.int .i64 i) ∧ W.cell? ⟨w.heap.size + 1, 1, none⟩ = some (.int .i64 j) ∧ W.cell? ⟨mb, 0, none⟩ = some (.slice (some ⟨pb, po, none⟩) n cap) ∧ W.cell? ⟨pb, po + i, none⟩ = some (.complex .f64 ri ii) ∧ W.cell? ⟨pb, po + j, none⟩ = some (.complex .f64 rj ij)) (go_keep) (fail)
  all_goals clear t0 t1 f0 f1 s0 s1 t0' t1' f0' f1' h0 h1 hst
  all_goals
    first
      | (obtain ⟨W4, hW4⟩ : ∃ W4 : World, W4 = ((W1.alloc (.cells #[.complex .f64 ri ii] 94)).alloc (.cells #[.complex .f64 rj ij] 94)).drew := ⟨_, rfl⟩
         rw [← hW4]
         have hAB := ab_new W1 (w.heap.size + 1 + 1) S1 (.complex .f64 ri ii) (.complex .f64 rj ij)
         rw [← hW4] at hAB
         obtain ⟨b3, hb3⟩ : ∃ b3, b3 = w.heap.size + 1 + 1 + 1 := ⟨_, rfl⟩
         obtain ⟨b2, hb2⟩ : ∃ b2, b2 = w.heap.size + 1 + 1 := ⟨_, rfl⟩
         rw [← hb3, ← hb2]
         rw [← hb3, ← hb2] at hAB
         obtain ⟨bA, hbA⟩ : ∃ bA, bA = b2 := ⟨_, rfl⟩
         obtain ⟨bB, hbB⟩ : ∃ bB, bB = b3 := ⟨_, rfl⟩
         rw [← hbA, ← hbB]
         rw [← hbA, ← hbB] at hAB
         have cA : W4.cell? ⟨bA, 0, none⟩ = some (.complex .f64 ri ii) := hAB.1
         have cB : W4.cell? ⟨bB, 0, none⟩ = some (.complex .f64 rj ij) := hAB.2.1)
      | (obtain ⟨W4, hW4⟩ : ∃ W4 : World, W4 = ((W1.alloc (.cells #[.complex .f64 rj ij] 94)).alloc (.cells #[.complex .f64 ri ii] 94)).drew := ⟨_, rfl⟩
         rw [← hW4]
         have hAB := ab_new W1 (w.heap.size + 1 + 1) S1 (.complex .f64 rj ij) (.complex .f64 ri ii)
         rw [← hW4] at hAB
         obtain ⟨b3, hb3⟩ : ∃ b3, b3 = w.heap.size + 1 + 1 + 1 := ⟨_, rfl⟩
         obtain ⟨b2, hb2⟩ : ∃ b2, b2 = w.heap.size + 1 + 1 := ⟨_, rfl⟩
         rw [← hb3, ← hb2]
         rw [← hb3, ← hb2] at hAB
         obtain ⟨bA, hbA⟩ : ∃ bA, bA = b3 := ⟨_, rfl⟩
         obtain ⟨bB, hbB⟩ : ∃ bB, bB = b2 := ⟨_, rfl⟩
         rw [← hbA, ← hbB]
         rw [← hbA, ← hbB] at hAB
         have cA : W4.cell? ⟨bA, 0, none⟩ = some (.complex .f64 ri ii) := hAB.2.1
         have cB : W4.cell? ⟨bB, 0, none⟩ = some (.complex .f64 rj ij) := hAB.1)
    have b4 := hAB.2.2.1
    have z4 : W4.heap.size = w.heap.size + 4 := by have := hAB.2.2.2; omega
    have lA : w.heap.size < bA := by omega
    have lB : w.heap.size < bB := by omega
    have B4 : Hid (Below w.heap.size w W4) := hid (B1.out.trans (b4.mono B1.out.size))
    have cM := (b4.cell l3).trans x0
    have cL := (b4.cell l4).trans x1
    have cL' := (b4.cell l4).trans x2
    clear hAB hW4 hb3 hb2 hbA hbB b4 x0 x1 x2 ci cj k0 S1 l1 l2 l3 l4
    have hsf : ∀ (a : Addr) (m : Mode) (w : World), (store a (.func (.func 107) #[] #[.pointer (some ⟨bA, 0, none⟩), .pointer (some ⟨bB, 0, none⟩)]) m).run Tryz.prog w = stored Tryz.prog w a (.func (.func 107) #[] #[.pointer (some ⟨bA, 0, none⟩), .pointer (some ⟨bB, 0, none⟩)]) m := fun a m w => run_store Tryz.prog w a _ m rfl
    go_wp2_with fail
    obtain ⟨W5, hW5⟩ : ∃ W5 : World, W5 = W4.alloc (.cells #[.func (.func 107) #[] #[.pointer (some ⟨bA, 0, none⟩), .pointer (some ⟨bB, 0, none⟩)]] 140) := ⟨_, rfl⟩
    rw [← hW5]
    have B5 : Below w.heap.size w W5 := by rw [hW5]; exact B4.out.alloc B4.out.size _
    have z5 : W5.heap.size = w.heap.size + 5 := by rw [hW5]; simp; omega
    have cH : W5.cell? ⟨w.heap.size + 4, 0, none⟩ = some (.func (.func 107) #[] #[.pointer (some ⟨bA, 0, none⟩), .pointer (some ⟨bB, 0, none⟩)]) := by rw [hW5]; exact World.cell?_alloc_at _ _ _ _ (by omega)
    have cA5 : W5.cell? ⟨bA, 0, none⟩ = some (.complex .f64 ri ii) := by rw [hW5]; exact cell_new cA
    have cB5 : W5.cell? ⟨bB, 0, none⟩ = some (.complex .f64 rj ij) := by rw [hW5]; exact cell_new cB
    have cM5 : W5.cell? ⟨w.heap.size, 0, none⟩ = some (.pointer (some ⟨mb, 0, none⟩)) := by rw [hW5]; exact cell_new cM
    have cL5 : W5.cell? ⟨w.heap.size + 1, 0, none⟩ = some (.int .i64 i) := by rw [hW5]; exact cell_new cL
    have cL5' : W5.cell? ⟨w.heap.size + 1, 1, none⟩ = some (.int .i64 j) := by rw [hW5]; exact cell_new cL'
    have HM5 := hid (HM.out.below B5)
    have bml : bm < w.heap.size := HM.out.map.lt
    have keep : ∀ (W : World), Below W5.heap.size W5 W ∨ W5.grownBy W (some bm) → ∀ (b o : Nat) (v : Value), w.heap.size ≤ b → W5.cell? ⟨b, o, none⟩ = some v → W.cell? ⟨b, o, none⟩ = some v := fun W hW b o v hb hv => by
      rcases hW with h | h
      · exact (h.cell (World.block_lt_of_cell? W5 _ hv)).trans hv
      · exact h.cell hv (fun e => by have e' : b = bm := Option.some.inj e; omega)
    have TA := hid (turnLine_any mb bm pb po n cap px py (away px py i j) M0 lv ls (crossB px py i j) KP #[] #[.pointer (some ⟨w.heap.size, 0, none⟩), .pointer (some ⟨bA, 0, none⟩), .pointer (some ⟨bB, 0, none⟩), .pointer (some ⟨w.heap.size + 4, 0, none⟩)] W5 hn HM5.out hm0 hc0 hk0 (Geo.bowl_line i j) (fun u => by unfold away; omega) (fun u v => crossB_symm px py i j u v) hKP
      (fun W M u v hMW hmm hfr hu hv => inLine_any mb bm 1600 pb po n cap u v i j w.heap.size bA bB (w.heap.size + 4) px py M lv ls W hn hMW hu hv hi hj (fun a b c e => (hmm.lts e).2.2) ri ii rj ij HII.out.1.1 HII.out.1.2 HII.out.2.1 HII.out.2.2 (keep W hfr _ _ _ (Nat.le_refl _) cM5) (keep W hfr _ _ _ (by omega) cA5) (keep W hfr _ _ _ (by omega) cB5) (keep W hfr _ _ _ (by omega) cH)))
    refine TA.out.mono ?_
    rintro e w6 ⟨rfl, hg6, M, hM6, hm6, hc6, hk6, hbad⟩
    have c6M := keep w6 (.inr hg6) _ _ _ (Nat.le_refl _) cM5
    have c6L := keep w6 (.inr hg6) _ _ _ (by omega) cL5
    have c6L' := keep w6 (.inr hg6) _ _ _ (by omega) cL5'
    have HM6 := hid hM6
    have HX := hid (And.intro hm6 (And.intro hc6 (And.intro hk6 hbad)))
    have HG6 := hid hg6
    have HB5 := hid B5
    have k2 := hM6.c2
    have f2 := hM6.f2
    have HZ := hid z5
    clear TA keep cA cB cM cL cL' cA5 cB5 cM5 cL5 cL5' cH hW5 hM6 hm6 hc6 hk6 hbad hg6 B5 z5 z4 lA lB hsf HM5 B4
    obtain ⟨a1, c1, hlv⟩ := owns_len2 HM6.out.ln
    obtain ⟨i8, hi8, hz80, hz81, hz82⟩ := info_parts Tryz.info110
    have l6 : mb < w6.heap.size := World.block_lt_of_cell? w6 _ k2
    have own6 := own_geH HM6.out.ln
    have NW := hid (news2 w6 (.int .i64 (i : Nat)) (.int .i64 (j : Nat)))
    have NH := hid (show (w6.alloc (.cells #[.int .i64 (i : Nat), .int .i64 (j : Nat)] 110)).drew.heap.size = w6.heap.size + 1 by show (w6.alloc _).heap.size = _; simp)
    have N1 := hid (show ∀ u ∈ [Value.int .i64 (i : Nat), .int .i64 (j : Nat)], u.oneCell' = true by
      intro u hu
      simp at hu
      rcases hu with rfl | rfl <;> rfl)
    have CB := hid (show (w6.alloc (.cells #[.int .i64 (i : Nat), .int .i64 (j : Nat)] 110)).drew.cell? ⟨mb, 2, none⟩ = some lv from (((Below.refl w6.heap.size w6).alloc (Nat.le_refl _) _).drew.cell (p := ⟨mb, 2, none⟩) l6).trans k2)
    have FB := hid (show (w6.alloc (.cells #[.int .i64 (i : Nat), .int .i64 (j : Nat)] 110)).drew.frozen? ⟨mb, 2, none⟩ = false from (((Below.refl w6.heap.size w6).alloc (Nat.le_refl _) _).drew.frozen (p := ⟨mb, 2, none⟩) l6).trans f2)
    have VB := hid (show some mb ≠ lv.ownBlock from fun e => by have := (own6 mb e.symm).1; omega)
    have POST := hid (fun gi ci w9 => draw_post (w9 := w9) (gi := gi) (ci := ci) (x := (i, j)) (o := .cells #[.int .i64 (i : Nat), .int .i64 (j : Nat)] 110) HM6.out hmp hlp)
    have HO := hid HM6.out.ln
    have nem : ¬ w6.heap.size = mb := by omega
    obtain ⟨m, hm⟩ : ∃ m, m = ls.length := ⟨_, rfl⟩
    rw [← hm] at HO POST hls hlv
    subst hlv
    have nlv : ∀ q, w.heap.size ≤ q → (Value.slice a1 m c1).ownBlock ≠ some q := fun q hq e => by have := (own_geH HM.out.ln q e).2; omega
    have nsz : mb ≠ w.heap.size := by have := World.block_lt_of_cell? w _ HM.out.c0; have : mb < w.heap.size := this; omega
    have nsz1 : mb ≠ w.heap.size + 1 := by have := World.block_lt_of_cell? w _ HM.out.c0; have : mb < w.heap.size := this; omega
    clear own6 hm
    go_wp2_with fail
    have START : w6.drew.cell? ⟨w.heap.size, 0, none⟩ = some (.pointer (some ⟨mb, 0, none⟩)) ∧ w6.drew.cell? ⟨w.heap.size + 1, 0, none⟩ = some (.int .i64 (i : Nat)) ∧ w6.drew.cell? ⟨w.heap.size + 1, 1, none⟩ = some (.int .i64 (j : Nat)) := ⟨c6M, c6L, c6L'⟩
    have kd : w6.drew.cell? ⟨mb, 2, none⟩ = some (.slice a1 m c1) := k2
    have S2 : (w6.drew.alloc (.cells #[.int .i64 (i : Nat), .int .i64 (j : Nat)] 110)).cell? ⟨w.heap.size, 0, none⟩ = some (.pointer (some ⟨mb, 0, none⟩)) ∧ (w6.drew.alloc (.cells #[.int .i64 (i : Nat), .int .i64 (j : Nat)] 110)).cell? ⟨w.heap.size + 1, 0, none⟩ = some (.int .i64 (i : Nat)) ∧ (w6.drew.alloc (.cells #[.int .i64 (i : Nat), .int .i64 (j : Nat)] 110)).cell? ⟨w.heap.size + 1, 1, none⟩ = some (.int .i64 (j : Nat)) := ⟨cell_new (w := w6.drew) c6M, cell_new (w := w6.drew) c6L, cell_new (w := w6.drew) c6L'⟩
    refine wp_region_held_drew (S := (fun W => W.cell? ⟨w.heap.size, 0, none⟩ = some (.pointer (some ⟨mb, 0, none⟩)) ∧ W.cell? ⟨w.heap.size + 1, 0, none⟩ = some (.int .i64 (i : Nat)) ∧ W.cell? ⟨w.heap.size + 1, 1, none⟩ = some (.int .i64 (j : Nat)))) (by kernel_rfl) START (fun hHeld => ?_)
    clear hHeld
    refine wpAnyH_take (i := 0) (v := .pointer (some ⟨mb, 0, none⟩)) rfl (by kernel_rfl) (by kernel_rfl) (by kernel_rfl) (fun _ _ _ h => h) (Or.inl ⟨by kernel_rfl, ?_⟩) (by assumption) ?_
    · intro W hSw
      try dsimp only at hSw
      go_simp
    try simp only [Act.put, List.setIfInBounds_toArray, List.set_cons_zero, List.set_cons_succ]
    refine wpAnyH_take (i := 1) (v := .pointer (some ⟨mb, 0, none⟩)) rfl (by kernel_rfl) (by kernel_rfl) (by kernel_rfl) (fun _ _ _ h => h) (Or.inl ⟨by kernel_rfl, ?_⟩) (by assumption) ?_
    · intro W hSw
      try dsimp only at hSw
      go_simp
    try simp only [Act.put, List.setIfInBounds_toArray, List.set_cons_zero, List.set_cons_succ]
    refine wpAnyH_take (i := 2) (v := .pointer (some ⟨mb, 0, none⟩)) rfl (by kernel_rfl) (by kernel_rfl) (by kernel_rfl) (fun _ _ _ h => h) (Or.inl ⟨by kernel_rfl, ?_⟩) (by assumption) ?_
    · intro W hSw
      try dsimp only at hSw
      go_simp
    try simp only [Act.put, List.setIfInBounds_toArray, List.set_cons_zero, List.set_cons_succ]
    refine wpAnyH_take (i := 3) (v := .pointer (some ⟨mb, 2, none⟩)) rfl (by kernel_rfl) (by kernel_rfl) (by kernel_rfl) (fun _ _ _ h => h) (Or.inl ⟨by kernel_rfl, ?_⟩) (by assumption) ?_
    · intro W hSw
      try dsimp only at hSw
      go_simp
    try simp only [Act.put, List.setIfInBounds_toArray, List.set_cons_zero, List.set_cons_succ]
    refine wpAnyH_take (i := 5) (v := .agg #[.int .i64 (i : Nat), .int .i64 (j : Nat)]) rfl (by kernel_rfl) (by kernel_rfl) (by kernel_rfl) (fun _ _ _ h => h) (Or.inl ⟨by kernel_rfl, ?_⟩) (by assumption) ?_
    · intro W hSw
      try dsimp only at hSw
      go_simp
    try simp only [Act.put, List.setIfInBounds_toArray, List.set_cons_zero, List.set_cons_succ]
    have kd2 : (w6.drew.alloc (.cells #[.int .i64 (i : Nat), .int .i64 (j : Nat)] 110)).cell? ⟨mb, 2, none⟩ = some (.slice a1 m c1) := cell_new (w := w6.drew) k2
    refine wpAnyH_ready (rs := [4, 6]) (by kernel_rfl) (by simp) ?_
    refine AllReadyH.cons rfl (fun K hK => ?_) (AllReadyH.cons rfl (fun K hK => ?_) AllReadyH.nil)
    go_simp
    refine hK.out _ _ (by assumption) (fun hHeld => ?_)
    clear hK K hHeld
    try simp only [Act.put, List.setIfInBounds_toArray, List.set_cons_zero, List.set_cons_succ]
    refine wpAnyH_ready (rs := [6]) (by kernel_rfl) (by simp) ?_
    refine AllReadyH.cons rfl (fun K hK => ?_) AllReadyH.nil
    go_simp
    refine hK.out _ _ (by assumption) (fun hHeld => ?_)
    clear hK K hHeld
    try simp only [Act.put, List.setIfInBounds_toArray, List.set_cons_zero, List.set_cons_succ]
    rotate_left
    go_simp
    refine hK.out _ _ (by assumption) (fun hHeld => ?_)
    clear hK K hHeld
    try simp only [Act.put, List.setIfInBounds_toArray, List.set_cons_zero, List.set_cons_succ]
    refine wpAnyH_ready (rs := [4]) (by kernel_rfl) (by simp) ?_
    refine AllReadyH.cons rfl (fun K hK => ?_) AllReadyH.nil
    go_simp
    refine hK.out _ _ (by assumption) (fun hHeld => ?_)
    clear hK K hHeld
    try simp only [Act.put, List.setIfInBounds_toArray, List.set_cons_zero, List.set_cons_succ]
    all_goals
      refine wpAnyH_ready (rs := [7]) (by kernel_rfl) (by simp) ?_
      refine AllReadyH.cons rfl (fun K hK => ?_) AllReadyH.nil
      refine step_append_lies _ (by rfl) (.tmp 31) (.tmp 33) 103 (by rfl) (mb + 1) 110 i8 (.agg #[.int .i64 0, .int .i64 0]) 2 16 Tryz.underlying103 hi8 hz80 hz81 hz82 (by rfl) (by decide) (.slice a1 m c1) m (flat ls) (by rfl) (HO.out.alloc _) ⟨w6.heap.size, 0, none⟩ 1 1 [.int .i64 (i : Nat), .int .i64 (j : Nat)] (by rfl) (by rfl) NW.out N1.out (by decide) (by unfold maxLen; omega) (by omega) (by have := NH.out; show _ ≤ (w6.alloc _).heap.size; simp; omega) (w6.heap.size + 1) (by show (w6.alloc _).heap.size = _; simp) ?_
      intro gi ci w9 hown9 hgrow9 hat hlt9
      have S9 : w9.cell? ⟨w.heap.size, 0, none⟩ = some (.pointer (some ⟨mb, 0, none⟩)) ∧ w9.cell? ⟨w.heap.size + 1, 0, none⟩ = some (.int .i64 (i : Nat)) ∧ w9.cell? ⟨w.heap.size + 1, 1, none⟩ = some (.int .i64 (j : Nat)) := ⟨hgrow9.cell (a := ⟨w.heap.size, 0, none⟩) S2.1 (fun e => nlv _ (Nat.le_refl _) e.symm), hgrow9.cell (a := ⟨w.heap.size + 1, 0, none⟩) S2.2.1 (fun e => nlv _ (Nat.le_succ _) e.symm), hgrow9.cell (a := ⟨w.heap.size + 1, 1, none⟩) S2.2.2 (fun e => nlv _ (Nat.le_succ _) e.symm)⟩
      have cb9 : w9.cell? ⟨mb, 2, none⟩ = some (.slice a1 m c1) := hgrow9.cell (a := ⟨mb, 2, none⟩) CB.out VB.out
      have fb9 : w9.frozen? ⟨mb, 2, none⟩ = false := (World.frozen?_of_block (w := (w6.alloc (.cells #[.int .i64 (i : Nat), .int .i64 (j : Nat)] 110)).drew) (a := ⟨mb, 2, none⟩) (hgrow9.block mb (by have := NH.out; show _ < (w6.alloc _).heap.size; simp; omega) VB.out)).trans FB.out
      have HPOST := hid (POST.out gi ci w9 hown9 hgrow9 hat)
      refine hK.out _ _ S9 (fun hHeld => ?_)
      clear hK K hHeld hown9 hgrow9 hat hlt9 S2 START
      try simp only [Act.put, List.setIfInBounds_toArray, List.set_cons_zero, List.set_cons_succ]
      have S10 : (w9.setCell ⟨mb, 2, none⟩ (.slice (some ⟨gi, 0, none⟩) (m + 1) ci)).cell? ⟨w.heap.size, 0, none⟩ = some (.pointer (some ⟨mb, 0, none⟩)) ∧ (w9.setCell ⟨mb, 2, none⟩ (.slice (some ⟨gi, 0, none⟩) (m + 1) ci)).cell? ⟨w.heap.size + 1, 0, none⟩ = some (.int .i64 (i : Nat)) ∧ (w9.setCell ⟨mb, 2, none⟩ (.slice (some ⟨gi, 0, none⟩) (m + 1) ci)).cell? ⟨w.heap.size + 1, 1, none⟩ = some (.int .i64 (j : Nat)) := ⟨(World.cell?_setCell_far _ _ _ _ nsz).trans S9.1, (World.cell?_setCell_far _ _ _ _ nsz1).trans S9.2.1, (World.cell?_setCell_far _ _ _ _ nsz1).trans S9.2.2⟩
      refine wpAnyH_take (i := 8) (v := .pointer (some ⟨mb, 0, none⟩)) rfl (by kernel_rfl) (by kernel_rfl) (by kernel_rfl) (fun _ _ _ h => h) (Or.inl ⟨by kernel_rfl, ?_⟩) (by assumption) ?_
      · intro W hSw
        try dsimp only at hSw
        go_simp
      try simp only [Act.put, List.setIfInBounds_toArray, List.set_cons_zero, List.set_cons_succ]
      refine wpAnyH_take (i := 9) (v := .pointer (some ⟨mb, 2, none⟩)) rfl (by kernel_rfl) (by kernel_rfl) (by kernel_rfl) (fun _ _ _ h => h) (Or.inl ⟨by kernel_rfl, ?_⟩) (by assumption) ?_
      · intro W hSw
        try dsimp only at hSw
        go_simp
      try simp only [Act.put, List.setIfInBounds_toArray, List.set_cons_zero, List.set_cons_succ]
      refine wpAnyH_ready (rs := [10]) (by kernel_rfl) (by simp) ?_
      refine AllReadyH.cons rfl (fun K hK => ?_) AllReadyH.nil
      go_simp
      refine hK.out _ _ (by assumption) (fun hHeld => ?_)
      clear hK K hHeld
      refine wpAnyH_done (by kernel_rfl) ?_ _
      go_wp2_with fail
      go_end0
      exact ⟨rfl, M, _, HPOST.out.1, HPOST.out.2.before HB5.out HG6.out, HX.out⟩
end Go.Proofs.YtdbebbbceeopaaaGreat
