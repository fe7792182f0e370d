import Derived.Test.YtdbebbbceeopaaaGreatH12
import Derived.Test.YtdbebbbceeopaaaGreatH25
set_option linter.unusedSimpArgs false
namespace Go.Proofs.YtdbebbbceeopaaaGreat
open Go.RowKit Go.Maps
open Flt (Is)
open Geo (up bad Wg)

/-- How far a point lies from a line. -/
def away (px py : Nat → Int) (i j u : Nat) : Int := ((T px py i j u).natAbs : Int)

theorem crossB_symm (px py : Nat → Int) (i j u v : Nat) : crossB px py i j u v = crossB px py i j v u := by
  have e1 : T px py v u i = - T px py u v i := Geo.T_swap _ _ _
  have e2 : T px py v u j = - T px py u v j := Geo.T_swap _ _ _
  have e3 : T px py i j v * T px py i j u = T px py i j u * T px py i j v := Int.mul_comm _ _
  unfold crossB
  rw [e1, e2, e3, Int.neg_mul_neg]

theorem bad_none {px py h : Nat → Int} {ok : Nat → Nat → Bool} {M : Nat → Nat → Option Nat} {u v : Nat} (h0 : ((M u v).isSome && (M v u).isSome) = false) : bad px py ok h M u v = false := by
  unfold bad
  cases h1 : M u v with
  | none => simp
  | some c =>
    cases h2 : M v u with
    | none => simp
    | some d => rw [h1, h2] at h0; cases h0

theorem bad_some {px py h : Nat → Int} {ok : Nat → Nat → Bool} {M : Nat → Nat → Option Nat} {u v c d : Nat} (h1 : M u v = some c) (h2 : M v u = some d) : bad px py ok h M u v = (ok u v && decide (0 < Wg px py h u v c d)) := by
  unfold bad
  rw [h1, h2]

set_option maxRecDepth 100000 in
set_option maxHeartbeats 8000000 in
theorem inLine_any (mb bm N pb po n cap u v i j bM bA bB bH : Nat) (px py : Nat → Int) (M : Nat → Nat → Option Nat) (lv : Value) (ls : List (Nat × Nat)) (w : World) (hn : n ≤ 40) (hM : MeshAt w mb bm N pb po n cap px py M lv ls) (hu : u < n) (hv : v < n) (hi : i < n) (hj : j < n) (hlt : ∀ a b c, M a b = some c → c < n)
    (ri ii rj ij : Nat) (Ii : Is ri (px i)) (Ii' : Is ii (py i)) (Ij : Is rj (px j)) (Ij' : Is ij (py j))
    (cM : w.cell? ⟨bM, 0, none⟩ = some (.pointer (some ⟨mb, 0, none⟩))) (cA : w.cell? ⟨bA, 0, none⟩ = some (.complex .f64 ri ii)) (cB : w.cell? ⟨bB, 0, none⟩ = some (.complex .f64 rj ij)) (cH : w.cell? ⟨bH, 0, none⟩ = some (.func (.func 107) #[] #[.pointer (some ⟨bA, 0, none⟩), .pointer (some ⟨bB, 0, none⟩)])) :
    Calls Tryz.prog 109 #[.agg #[.int .i64 u, .int .i64 v], .pointer (some ⟨bM, 0, none⟩), .pointer (some ⟨bA, 0, none⟩), .pointer (some ⟨bB, 0, none⟩), .pointer (some ⟨bH, 0, none⟩)] w fun e w' => e = .returned (.bool (bad px py (crossB px py i j) (away px py i j) M u v)) ∧ Below w.heap.size w w' := by
  obtain ⟨W1, hW1⟩ : ∃ W1 : World, W1 = w.alloc (.cells #[.int .i64 u, .int .i64 v] 110) := ⟨_, rfl⟩
  have B1 : Hid (Below w.heap.size w W1) := hid (by rw [hW1]; exact (Below.refl _ _).alloc (Nat.le_refl _) _)
  have HM1 := hid (hM.below B1.out)
  have HP := HM1.out.plc
  obtain ⟨ru, iu, cu, au, au'⟩ := HP.cell u hu
  obtain ⟨rv, iv, cv, av, av'⟩ := HP.cell v hv
  have k0 := HM1.out.c0
  have x0 : W1.cell? ⟨w.heap.size, 0, none⟩ = some (.int .i64 u) := by rw [hW1]; exact World.cell?_alloc_at _ _ _ _ rfl
  have x1 : W1.cell? ⟨w.heap.size, 1, none⟩ = some (.int .i64 v) := by rw [hW1]; exact World.cell?_alloc_at _ _ _ _ rfl
  have yM : W1.cell? ⟨bM, 0, none⟩ = some (.pointer (some ⟨mb, 0, none⟩)) := by rw [hW1]; exact cell_new cM
  have yA : W1.cell? ⟨bA, 0, none⟩ = some (.complex .f64 ri ii) := by rw [hW1]; exact cell_new cA
  have yB : W1.cell? ⟨bB, 0, none⟩ = some (.complex .f64 rj ij) := by rw [hW1]; exact cell_new cB
  have yH : W1.cell? ⟨bH, 0, none⟩ = some (.func (.func 107) #[] #[.pointer (some ⟨bA, 0, none⟩), .pointer (some ⟨bB, 0, none⟩)]) := by rw [hW1]; exact cell_new cH
  have KEEP : ∀ W, Below W1.heap.size W1 W → (W.cell? ⟨w.heap.size, 0, none⟩ = some (.int .i64 u) ∧ W.cell? ⟨w.heap.size, 1, none⟩ = some (.int .i64 v) ∧ W.cell? ⟨bM, 0, none⟩ = some (.pointer (some ⟨mb, 0, none⟩)) ∧ W.cell? ⟨bA, 0, none⟩ = some (.complex .f64 ri ii) ∧ W.cell? ⟨bB, 0, none⟩ = some (.complex .f64 rj ij) ∧ W.cell? ⟨bH, 0, none⟩ = some (.func (.func 107) #[] #[.pointer (some ⟨bA, 0, none⟩), .pointer (some ⟨bB, 0, none⟩)]) ∧ W.cell? ⟨mb, 0, none⟩ = some (.slice (some ⟨pb, po, none⟩) n cap) ∧ W.cell? ⟨pb, po + u, none⟩ = some (.complex .f64 ru iu) ∧ W.cell? ⟨pb, po + v, none⟩ = some (.complex .f64 rv iv) ∧ Hid (Below W1.heap.size W1 W)) := fun W hb =>
    ⟨(hb.cell (World.block_lt_of_cell? W1 _ x0)).trans x0, (hb.cell (World.block_lt_of_cell? W1 _ x1)).trans x1, (hb.cell (World.block_lt_of_cell? W1 _ yM)).trans yM, (hb.cell (World.block_lt_of_cell? W1 _ yA)).trans yA, (hb.cell (World.block_lt_of_cell? W1 _ yB)).trans yB, (hb.cell (World.block_lt_of_cell? W1 _ yH)).trans yH, (hb.cell (World.block_lt_of_cell? W1 _ k0)).trans k0, (hb.cell (World.block_lt_of_cell? W1 _ cu)).trans cu, (hb.cell (World.block_lt_of_cell? W1 _ cv)).trans cv, hid hb⟩
  have tr : ∀ {W W' : World}, Below W1.heap.size W1 W → Below W.heap.size W W' → Below W1.heap.size W1 W' := fun h1 h2 => h1.trans (h2.mono h1.size)
  have C110 : Hid (∀ W, (W.cell? ⟨w.heap.size, 0, none⟩ = some (.int .i64 u) ∧ W.cell? ⟨w.heap.size, 1, none⟩ = some (.int .i64 v) ∧ W.cell? ⟨bM, 0, none⟩ = some (.pointer (some ⟨mb, 0, none⟩)) ∧ W.cell? ⟨bA, 0, none⟩ = some (.complex .f64 ri ii) ∧ W.cell? ⟨bB, 0, none⟩ = some (.complex .f64 rj ij) ∧ W.cell? ⟨bH, 0, none⟩ = some (.func (.func 107) #[] #[.pointer (some ⟨bA, 0, none⟩), .pointer (some ⟨bB, 0, none⟩)]) ∧ W.cell? ⟨mb, 0, none⟩ = some (.slice (some ⟨pb, po, none⟩) n cap) ∧ W.cell? ⟨pb, po + u, none⟩ = some (.complex .f64 ru iu) ∧ W.cell? ⟨pb, po + v, none⟩ = some (.complex .f64 rv iv) ∧ Hid (Below W1.heap.size W1 W)) → Calls Tryz.prog 110 #[.pointer (some ⟨mb, 0, none⟩), .agg #[.int .i64 u, .int .i64 v]] W fun e W' => e = .returned (.bool ((M u v).isSome && (M v u).isSome)) ∧ (W'.cell? ⟨w.heap.size, 0, none⟩ = some (.int .i64 u) ∧ W'.cell? ⟨w.heap.size, 1, none⟩ = some (.int .i64 v) ∧ W'.cell? ⟨bM, 0, none⟩ = some (.pointer (some ⟨mb, 0, none⟩)) ∧ W'.cell? ⟨bA, 0, none⟩ = some (.complex .f64 ri ii) ∧ W'.cell? ⟨bB, 0, none⟩ = some (.complex .f64 rj ij) ∧ W'.cell? ⟨bH, 0, none⟩ = some (.func (.func 107) #[] #[.pointer (some ⟨bA, 0, none⟩), .pointer (some ⟨bB, 0, none⟩)]) ∧ W'.cell? ⟨mb, 0, none⟩ = some (.slice (some ⟨pb, po, none⟩) n cap) ∧ W'.cell? ⟨pb, po + u, none⟩ = some (.complex .f64 ru iu) ∧ W'.cell? ⟨pb, po + v, none⟩ = some (.complex .f64 rv iv) ∧ Hid (Below W1.heap.size W1 W'))) := hid fun W hS =>
    (isBetween_any mb bm N pb po n cap u v px py M lv ls W hn (HM1.out.below hS.2.2.2.2.2.2.2.2.2.out) hu hv).mono fun e w' h => ⟨h.1, KEEP w' (tr hS.2.2.2.2.2.2.2.2.2.out h.2)⟩
  have C103 : Hid (∀ W, (W.cell? ⟨w.heap.size, 0, none⟩ = some (.int .i64 u) ∧ W.cell? ⟨w.heap.size, 1, none⟩ = some (.int .i64 v) ∧ W.cell? ⟨bM, 0, none⟩ = some (.pointer (some ⟨mb, 0, none⟩)) ∧ W.cell? ⟨bA, 0, none⟩ = some (.complex .f64 ri ii) ∧ W.cell? ⟨bB, 0, none⟩ = some (.complex .f64 rj ij) ∧ W.cell? ⟨bH, 0, none⟩ = some (.func (.func 107) #[] #[.pointer (some ⟨bA, 0, none⟩), .pointer (some ⟨bB, 0, none⟩)]) ∧ W.cell? ⟨mb, 0, none⟩ = some (.slice (some ⟨pb, po, none⟩) n cap) ∧ W.cell? ⟨pb, po + u, none⟩ = some (.complex .f64 ru iu) ∧ W.cell? ⟨pb, po + v, none⟩ = some (.complex .f64 rv iv) ∧ Hid (Below W1.heap.size W1 W)) → Calls Tryz.prog 103 #[.complex .f64 ri ii, .complex .f64 rj ij, .complex .f64 ru iu, .complex .f64 rv iv] W fun e W' => e = .returned (.bool (crossB px py i j u v)) ∧ (W'.cell? ⟨w.heap.size, 0, none⟩ = some (.int .i64 u) ∧ W'.cell? ⟨w.heap.size, 1, none⟩ = some (.int .i64 v) ∧ W'.cell? ⟨bM, 0, none⟩ = some (.pointer (some ⟨mb, 0, none⟩)) ∧ W'.cell? ⟨bA, 0, none⟩ = some (.complex .f64 ri ii) ∧ W'.cell? ⟨bB, 0, none⟩ = some (.complex .f64 rj ij) ∧ W'.cell? ⟨bH, 0, none⟩ = some (.func (.func 107) #[] #[.pointer (some ⟨bA, 0, none⟩), .pointer (some ⟨bB, 0, none⟩)]) ∧ W'.cell? ⟨mb, 0, none⟩ = some (.slice (some ⟨pb, po, none⟩) n cap) ∧ W'.cell? ⟨pb, po + u, none⟩ = some (.complex .f64 ru iu) ∧ W'.cell? ⟨pb, po + v, none⟩ = some (.complex .f64 rv iv) ∧ Hid (Below W1.heap.size W1 W'))) := hid fun W hS =>
    (cross_any ri ii rj ij ru iu rv iv px py i j u v Ii Ii' Ij Ij' au au' av av' (HP.bd i hi) (HP.bd j hj) (HP.bd u hu) (HP.bd v hv) W).mono fun e w' h => ⟨h.1, by rw [h.2]; exact hS⟩
  have START : (W1.drew.cell? ⟨w.heap.size, 0, none⟩ = some (.int .i64 u) ∧ W1.drew.cell? ⟨w.heap.size, 1, none⟩ = some (.int .i64 v) ∧ W1.drew.cell? ⟨bM, 0, none⟩ = some (.pointer (some ⟨mb, 0, none⟩)) ∧ W1.drew.cell? ⟨bA, 0, none⟩ = some (.complex .f64 ri ii) ∧ W1.drew.cell? ⟨bB, 0, none⟩ = some (.complex .f64 rj ij) ∧ W1.drew.cell? ⟨bH, 0, none⟩ = some (.func (.func 107) #[] #[.pointer (some ⟨bA, 0, none⟩), .pointer (some ⟨bB, 0, none⟩)]) ∧ W1.drew.cell? ⟨mb, 0, none⟩ = some (.slice (some ⟨pb, po, none⟩) n cap) ∧ W1.drew.cell? ⟨pb, po + u, none⟩ = some (.complex .f64 ru iu) ∧ W1.drew.cell? ⟨pb, po + v, none⟩ = some (.complex .f64 rv iv) ∧ Hid (Below W1.heap.size W1 W1.drew)) := KEEP _ (Below.refl _ _).drew
  have FIN := hid (fun W (h : Hid (Below W1.heap.size W1 W)) => (bstep B1 h.out).out)
  have gu : (u : Int) < n := by omega
  have gv : (v : Int) < n := by omega
  have gu0 : (0 : Int) ≤ u := by omega
  have gv0 : (0 : Int) ≤ v := by omega
  obtain ⟨bt, hbt⟩ : ∃ bt, bt = ((M u v).isSome && (M v u).isSome) := ⟨_, rfl⟩
  rw [← hbt] at C110
  obtain ⟨r, hr⟩ : ∃ r, r = bad px py (crossB px py i j) (away px py i j) M u v := ⟨_, rfl⟩
  rw [← hr]
  clear k0 x0 x1 yM yA yB yH cM cA cB cH
  cases bt with
  | false =>
    have er : r = false := by rw [hr]; exact bad_none hbt.symm
    subst er
    clear hr hbt hlt hM C103 au au' av av' Ii Ii' Ij Ij' cu cv HP
    go_enter Tryz.func109, Tryz.ntmps109
    go_wp2_with fail
    rw [← hW1]
    clear hW1
    refine wp_region_held_drew (S := (fun W => (W.cell? ⟨w.heap.size, 0, none⟩ = some (.int .i64 u) ∧ W.cell? ⟨w.heap.size, 1, none⟩ = some (.int .i64 v) ∧ W.cell? ⟨bM, 0, none⟩ = some (.pointer (some ⟨mb, 0, none⟩)) ∧ W.cell? ⟨bA, 0, none⟩ = some (.complex .f64 ri ii) ∧ W.cell? ⟨bB, 0, none⟩ = some (.complex .f64 rj ij) ∧ W.cell? ⟨bH, 0, none⟩ = some (.func (.func 107) #[] #[.pointer (some ⟨bA, 0, none⟩), .pointer (some ⟨bB, 0, none⟩)]) ∧ W.cell? ⟨mb, 0, none⟩ = some (.slice (some ⟨pb, po, none⟩) n cap) ∧ W.cell? ⟨pb, po + u, none⟩ = some (.complex .f64 ru iu) ∧ W.cell? ⟨pb, po + v, none⟩ = some (.complex .f64 rv iv) ∧ Hid (Below W1.heap.size W1 W)))) (by kernel_rfl) START (fun hHeld => ?_)
    clear hHeld
    refine wpAnyH_take (i := 0) (v := .pointer (some ⟨mb, 0, none⟩)) rfl (by kernel_rfl) (by kernel_rfl) (by kernel_rfl) (fun _ _ _ h => h) (Or.inl ⟨by kernel_rfl, ?_⟩) (by assumption) ?_
    · intro W hSw
      try dsimp only at hSw
      go_simp
    try simp only [Act.put, List.setIfInBounds_toArray, List.set_cons_zero, List.set_cons_succ]
    refine wpAnyH_take (i := 1) (v := .agg #[.int .i64 u, .int .i64 v]) rfl (by kernel_rfl) (by kernel_rfl) (by kernel_rfl) (fun _ _ _ h => h) (Or.inl ⟨by kernel_rfl, ?_⟩) (by assumption) ?_
    · intro W hSw
      try dsimp only at hSw
      go_simp
    try simp only [Act.put, List.setIfInBounds_toArray, List.set_cons_zero, List.set_cons_succ]
    refine wpAnyH_ready (rs := [2]) (by kernel_rfl) (by simp) ?_
    refine AllReadyH.cons rfl (fun K hK => ?_) AllReadyH.nil
    go_simp
    refine (C110.out _ (by assumption)).mono ?_
    rintro e w6 ⟨rfl, hS6⟩
    refine hK.out _ _ hS6 (fun hHeld => ?_)
    clear hK K hHeld
    try simp only [Act.put, List.setIfInBounds_toArray, List.set_cons_zero, List.set_cons_succ]
    clear START
    refine wpAnyH_take (i := 3) (v := .bool true) rfl (by kernel_rfl) (by kernel_rfl) (by kernel_rfl) (fun _ _ _ h => h) (Or.inl ⟨by kernel_rfl, ?_⟩) (by assumption) ?_
    · intro W hSw
      try dsimp only at hSw
      go_simp
    try simp only [Act.put, List.setIfInBounds_toArray, List.set_cons_zero, List.set_cons_succ]
    refine wpAnyH_take (i := 4) (v := .bool true) rfl (by kernel_rfl) (by kernel_rfl) (by kernel_rfl) (fun _ _ _ h => h) (Or.inl ⟨by kernel_rfl, ?_⟩) (by assumption) ?_
    · intro W hSw
      try dsimp only at hSw
      go_simp
    try simp only [Act.put, List.setIfInBounds_toArray, List.set_cons_zero, List.set_cons_succ]
    refine wpAnyH_take (i := 5) (v := undef) rfl (by kernel_rfl) (by kernel_rfl) (by kernel_rfl) (fun _ _ _ h => h) (Or.inr ⟨by kernel_rfl, rfl⟩) (by assumption) ?_
    try simp only [Act.put, List.setIfInBounds_toArray, List.set_cons_zero, List.set_cons_succ]
    refine wpAnyH_take (i := 6) (v := undef) rfl (by kernel_rfl) (by kernel_rfl) (by kernel_rfl) (fun _ _ _ h => h) (Or.inr ⟨by kernel_rfl, rfl⟩) (by assumption) ?_
    try simp only [Act.put, List.setIfInBounds_toArray, List.set_cons_zero, List.set_cons_succ]
    refine wpAnyH_take (i := 7) (v := undef) rfl (by kernel_rfl) (by kernel_rfl) (by kernel_rfl) (fun _ _ _ h => h) (Or.inr ⟨by kernel_rfl, rfl⟩) (by assumption) ?_
    try simp only [Act.put, List.setIfInBounds_toArray, List.set_cons_zero, List.set_cons_succ]
    refine wpAnyH_take (i := 8) (v := undef) rfl (by kernel_rfl) (by kernel_rfl) (by kernel_rfl) (fun _ _ _ h => h) (Or.inr ⟨by kernel_rfl, rfl⟩) (by assumption) ?_
    try simp only [Act.put, List.setIfInBounds_toArray, List.set_cons_zero, List.set_cons_succ]
    refine wpAnyH_take (i := 9) (v := undef) rfl (by kernel_rfl) (by kernel_rfl) (by kernel_rfl) (fun _ _ _ h => h) (Or.inr ⟨by kernel_rfl, rfl⟩) (by assumption) ?_
    try simp only [Act.put, List.setIfInBounds_toArray, List.set_cons_zero, List.set_cons_succ]
    refine wpAnyH_take (i := 10) (v := undef) rfl (by kernel_rfl) (by kernel_rfl) (by kernel_rfl) (fun _ _ _ h => h) (Or.inr ⟨by kernel_rfl, rfl⟩) (by assumption) ?_
    try simp only [Act.put, List.setIfInBounds_toArray, List.set_cons_zero, List.set_cons_succ]
    refine wpAnyH_take (i := 11) (v := undef) rfl (by kernel_rfl) (by kernel_rfl) (by kernel_rfl) (fun _ _ _ h => h) (Or.inr ⟨by kernel_rfl, rfl⟩) (by assumption) ?_
    try simp only [Act.put, List.setIfInBounds_toArray, List.set_cons_zero, List.set_cons_succ]
    refine wpAnyH_take (i := 12) (v := undef) rfl (by kernel_rfl) (by kernel_rfl) (by kernel_rfl) (fun _ _ _ h => h) (Or.inr ⟨by kernel_rfl, rfl⟩) (by assumption) ?_
    try simp only [Act.put, List.setIfInBounds_toArray, List.set_cons_zero, List.set_cons_succ]
    refine wpAnyH_take (i := 13) (v := undef) rfl (by kernel_rfl) (by kernel_rfl) (by kernel_rfl) (fun _ _ _ h => h) (Or.inr ⟨by kernel_rfl, rfl⟩) (by assumption) ?_
    try simp only [Act.put, List.setIfInBounds_toArray, List.set_cons_zero, List.set_cons_succ]
    refine wpAnyH_take (i := 14) (v := undef) rfl (by kernel_rfl) (by kernel_rfl) (by kernel_rfl) (fun _ _ _ h => h) (Or.inr ⟨by kernel_rfl, rfl⟩) (by assumption) ?_
    try simp only [Act.put, List.setIfInBounds_toArray, List.set_cons_zero, List.set_cons_succ]
    refine wpAnyH_take (i := 15) (v := undef) rfl (by kernel_rfl) (by kernel_rfl) (by kernel_rfl) (fun _ _ _ h => h) (Or.inr ⟨by kernel_rfl, rfl⟩) (by assumption) ?_
    try simp only [Act.put, List.setIfInBounds_toArray, List.set_cons_zero, List.set_cons_succ]
    refine wpAnyH_take (i := 16) (v := undef) rfl (by kernel_rfl) (by kernel_rfl) (by kernel_rfl) (fun _ _ _ h => h) (Or.inr ⟨by kernel_rfl, rfl⟩) (by assumption) ?_
    try simp only [Act.put, List.setIfInBounds_toArray, List.set_cons_zero, List.set_cons_succ]
    refine wpAnyH_take (i := 17) (v := undef) rfl (by kernel_rfl) (by kernel_rfl) (by kernel_rfl) (fun _ _ _ h => h) (Or.inr ⟨by kernel_rfl, rfl⟩) (by assumption) ?_
    try simp only [Act.put, List.setIfInBounds_toArray, List.set_cons_zero, List.set_cons_succ]
    refine wpAnyH_take (i := 18) (v := undef) rfl (by kernel_rfl) (by kernel_rfl) (by kernel_rfl) (fun _ _ _ h => h) (Or.inr ⟨by kernel_rfl, rfl⟩) (by assumption) ?_
    try simp only [Act.put, List.setIfInBounds_toArray, List.set_cons_zero, List.set_cons_succ]
    refine wpAnyH_take (i := 19) (v := undef) rfl (by kernel_rfl) (by kernel_rfl) (by kernel_rfl) (fun _ _ _ h => h) (Or.inr ⟨by kernel_rfl, rfl⟩) (by assumption) ?_
    try simp only [Act.put, List.setIfInBounds_toArray, List.set_cons_zero, List.set_cons_succ]
    refine wpAnyH_take (i := 20) (v := undef) rfl (by kernel_rfl) (by kernel_rfl) (by kernel_rfl) (fun _ _ _ h => h) (Or.inr ⟨by kernel_rfl, rfl⟩) (by assumption) ?_
    try simp only [Act.put, List.setIfInBounds_toArray, List.set_cons_zero, List.set_cons_succ]
    refine wpAnyH_take (i := 21) (v := undef) rfl (by kernel_rfl) (by kernel_rfl) (by kernel_rfl) (fun _ _ _ h => h) (Or.inr ⟨by kernel_rfl, rfl⟩) (by assumption) ?_
    try simp only [Act.put, List.setIfInBounds_toArray, List.set_cons_zero, List.set_cons_succ]
    refine wpAnyH_take (i := 22) (v := undef) rfl (by kernel_rfl) (by kernel_rfl) (by kernel_rfl) (fun _ _ _ h => h) (Or.inr ⟨by kernel_rfl, rfl⟩) (by assumption) ?_
    try simp only [Act.put, List.setIfInBounds_toArray, List.set_cons_zero, List.set_cons_succ]
    refine wpAnyH_take (i := 23) (v := undef) rfl (by kernel_rfl) (by kernel_rfl) (by kernel_rfl) (fun _ _ _ h => h) (Or.inr ⟨by kernel_rfl, rfl⟩) (by assumption) ?_
    try simp only [Act.put, List.setIfInBounds_toArray, List.set_cons_zero, List.set_cons_succ]
    refine wpAnyH_take (i := 24) (v := undef) rfl (by kernel_rfl) (by kernel_rfl) (by kernel_rfl) (fun _ _ _ h => h) (Or.inr ⟨by kernel_rfl, rfl⟩) (by assumption) ?_
    try simp only [Act.put, List.setIfInBounds_toArray, List.set_cons_zero, List.set_cons_succ]
    clear C110 KEEP tr
    refine wpAnyH_ready (rs := [25]) (by kernel_rfl) (by simp) ?_
    refine AllReadyH.cons rfl (fun K hK => ?_) AllReadyH.nil
    go_simp
    refine hK.out _ _ (by assumption) (fun hHeld => ?_)
    clear hK K hHeld
    refine wpAnyH_done (by kernel_rfl) ?_ _
    go_wp2_with fail
    go_ret
    exact ⟨rfl, FIN.out _ hS6.2.2.2.2.2.2.2.2.2⟩
  | true =>
    have h2 : (M u v).isSome = true ∧ (M v u).isSome = true := by rw [← Bool.and_eq_true]; exact hbt.symm
    obtain ⟨c, ec⟩ := Option.isSome_iff_exists.1 h2.1
    obtain ⟨d, ed⟩ := Option.isSome_iff_exists.1 h2.2
    have hc := hlt _ _ _ ec
    have hd := hlt _ _ _ ed
    obtain ⟨rc, ic, cc, ac, ac'⟩ := HP.cell c hc
    obtain ⟨rd, id, cd, ad, ad'⟩ := HP.cell d hd
    have bi := HP.bd i hi
    have bj := HP.bd j hj
    obtain ⟨su, tu, K1⟩ := away_any ru iu ri ii rj ij bA bB (px u) (py u) (px i) (py i) (px j) (py j) au au' Ii Ii' Ij Ij' (HP.bd u hu).1 (HP.bd u hu).2 bi.1 bi.2 bj.1 bj.2
    obtain ⟨sv, tv, K2⟩ := away_any rv iv ri ii rj ij bA bB (px v) (py v) (px i) (py i) (px j) (py j) av av' Ii Ii' Ij Ij' (HP.bd v hv).1 (HP.bd v hv).2 bi.1 bi.2 bj.1 bj.2
    obtain ⟨sc, tc, K3⟩ := away_any rc ic ri ii rj ij bA bB (px c) (py c) (px i) (py i) (px j) (py j) ac ac' Ii Ii' Ij Ij' (HP.bd c hc).1 (HP.bd c hc).2 bi.1 bi.2 bj.1 bj.2
    obtain ⟨sd, td, K4⟩ := away_any rd id ri ii rj ij bA bB (px d) (py d) (px i) (py i) (px j) (py j) ad ad' Ii Ii' Ij Ij' (HP.bd d hd).1 (HP.bd d hd).2 bi.1 bi.2 bj.1 bj.2
    have ab : ∀ q, q < n → 0 ≤ away px py i j q ∧ away px py i j q ≤ 8000000 := fun q hq => by
      have := tw_bd8 bi.1 bi.2 bj.1 bj.2 (HP.bd q hq).1 (HP.bd q hq).2
      unfold away T
      omega
    have hpl := HP.lt
    have C111 : Hid (∀ W, (W.cell? ⟨w.heap.size, 0, none⟩ = some (.int .i64 u) ∧ W.cell? ⟨w.heap.size, 1, none⟩ = some (.int .i64 v) ∧ W.cell? ⟨bM, 0, none⟩ = some (.pointer (some ⟨mb, 0, none⟩)) ∧ W.cell? ⟨bA, 0, none⟩ = some (.complex .f64 ri ii) ∧ W.cell? ⟨bB, 0, none⟩ = some (.complex .f64 rj ij) ∧ W.cell? ⟨bH, 0, none⟩ = some (.func (.func 107) #[] #[.pointer (some ⟨bA, 0, none⟩), .pointer (some ⟨bB, 0, none⟩)]) ∧ W.cell? ⟨mb, 0, none⟩ = some (.slice (some ⟨pb, po, none⟩) n cap) ∧ W.cell? ⟨pb, po + u, none⟩ = some (.complex .f64 ru iu) ∧ W.cell? ⟨pb, po + v, none⟩ = some (.complex .f64 rv iv) ∧ Hid (Below W1.heap.size W1 W)) → Calls Tryz.prog 111 #[.pointer (some ⟨mb, 0, none⟩), .agg #[.int .i64 u, .int .i64 v]] W fun e W' => e = .returned (.tuple #[.complex .f64 ru iu, .complex .f64 rv iv, .complex .f64 rc ic, .complex .f64 rd id]) ∧ (W'.cell? ⟨w.heap.size, 0, none⟩ = some (.int .i64 u) ∧ W'.cell? ⟨w.heap.size, 1, none⟩ = some (.int .i64 v) ∧ W'.cell? ⟨bM, 0, none⟩ = some (.pointer (some ⟨mb, 0, none⟩)) ∧ W'.cell? ⟨bA, 0, none⟩ = some (.complex .f64 ri ii) ∧ W'.cell? ⟨bB, 0, none⟩ = some (.complex .f64 rj ij) ∧ W'.cell? ⟨bH, 0, none⟩ = some (.func (.func 107) #[] #[.pointer (some ⟨bA, 0, none⟩), .pointer (some ⟨bB, 0, none⟩)]) ∧ W'.cell? ⟨mb, 0, none⟩ = some (.slice (some ⟨pb, po, none⟩) n cap) ∧ W'.cell? ⟨pb, po + u, none⟩ = some (.complex .f64 ru iu) ∧ W'.cell? ⟨pb, po + v, none⟩ = some (.complex .f64 rv iv) ∧ Hid (Below W1.heap.size W1 W'))) := hid fun W hS =>
      (cornersM_any mb bm N pb po n cap u v c d ru iu rv iv rc ic rd id px py M lv ls W hn (HM1.out.below hS.2.2.2.2.2.2.2.2.2.out) hu hv hc hd ec ed hS.2.2.2.2.2.2.2.1 hS.2.2.2.2.2.2.2.2.1 ((hS.2.2.2.2.2.2.2.2.2.out.cell (p := ⟨pb, po + c, none⟩) hpl).trans cc) ((hS.2.2.2.2.2.2.2.2.2.out.cell (p := ⟨pb, po + d, none⟩) hpl).trans cd)).mono fun e w' h => ⟨h.1, KEEP w' (tr hS.2.2.2.2.2.2.2.2.2.out h.2)⟩
    have C112 : Hid (∀ W, (W.cell? ⟨w.heap.size, 0, none⟩ = some (.int .i64 u) ∧ W.cell? ⟨w.heap.size, 1, none⟩ = some (.int .i64 v) ∧ W.cell? ⟨bM, 0, none⟩ = some (.pointer (some ⟨mb, 0, none⟩)) ∧ W.cell? ⟨bA, 0, none⟩ = some (.complex .f64 ri ii) ∧ W.cell? ⟨bB, 0, none⟩ = some (.complex .f64 rj ij) ∧ W.cell? ⟨bH, 0, none⟩ = some (.func (.func 107) #[] #[.pointer (some ⟨bA, 0, none⟩), .pointer (some ⟨bB, 0, none⟩)]) ∧ W.cell? ⟨mb, 0, none⟩ = some (.slice (some ⟨pb, po, none⟩) n cap) ∧ W.cell? ⟨pb, po + u, none⟩ = some (.complex .f64 ru iu) ∧ W.cell? ⟨pb, po + v, none⟩ = some (.complex .f64 rv iv) ∧ Hid (Below W1.heap.size W1 W)) → Calls Tryz.prog 112 #[.complex .f64 ru iu, .complex .f64 rv iv, .complex .f64 rc ic, .complex .f64 rd id, .func (.func 107) #[] #[.pointer (some ⟨bA, 0, none⟩), .pointer (some ⟨bB, 0, none⟩)]] W fun e W' => e = .returned (.bool (decide (0 < Wg px py (away px py i j) u v c d))) ∧ W' = W) := hid fun W hS =>
      below_any107 ru iu rv iv rc ic rd id su sv sc sd (px u) (py u) (px v) (py v) (px c) (py c) (px d) (py d) (away px py i j u) (away px py i j v) (away px py i j c) (away px py i j d) au au' av av' ac ac' ad ad' (HP.bd u hu).1 (HP.bd u hu).2 (HP.bd v hv).1 (HP.bd v hv).2 (HP.bd c hc).1 (HP.bd c hc).2 (HP.bd d hd).1 (HP.bd d hd).2 tu tv tc td (ab u hu) (ab v hv) (ab c hc) (ab d hd) #[.pointer (some ⟨bA, 0, none⟩), .pointer (some ⟨bB, 0, none⟩)] W (K1 W hS.2.2.2.1 hS.2.2.2.2.1) (K2 W hS.2.2.2.1 hS.2.2.2.2.1) (K3 W hS.2.2.2.1 hS.2.2.2.2.1) (K4 W hS.2.2.2.1 hS.2.2.2.2.1)
    rw [bad_some ec ed] at hr
    obtain ⟨wg, hwg⟩ : ∃ wg, wg = decide (0 < Wg px py (away px py i j) u v c d) := ⟨_, rfl⟩
    rw [← hwg] at C112 hr
    obtain ⟨cr, hcr⟩ : ∃ cr, cr = crossB px py i j u v := ⟨_, rfl⟩
    rw [← hcr] at C103 hr
    clear hwg hcr ab K1 K2 K3 K4 tu tv tc td ac ac' ad ad' cc cd au au' av av' Ii Ii' Ij Ij' cu cv hbt h2 hlt hM HP ec ed bi bj
    cases cr with
    | false =>
      subst hr
      clear C111 C112
      go_enter Tryz.func109, Tryz.ntmps109
      go_wp2_with fail
      rw [← hW1]
      clear hW1
      refine wp_region_held_drew (S := (fun W => (W.cell? ⟨w.heap.size, 0, none⟩ = some (.int .i64 u) ∧ W.cell? ⟨w.heap.size, 1, none⟩ = some (.int .i64 v) ∧ W.cell? ⟨bM, 0, none⟩ = some (.pointer (some ⟨mb, 0, none⟩)) ∧ W.cell? ⟨bA, 0, none⟩ = some (.complex .f64 ri ii) ∧ W.cell? ⟨bB, 0, none⟩ = some (.complex .f64 rj ij) ∧ W.cell? ⟨bH, 0, none⟩ = some (.func (.func 107) #[] #[.pointer (some ⟨bA, 0, none⟩), .pointer (some ⟨bB, 0, none⟩)]) ∧ W.cell? ⟨mb, 0, none⟩ = some (.slice (some ⟨pb, po, none⟩) n cap) ∧ W.cell? ⟨pb, po + u, none⟩ = some (.complex .f64 ru iu) ∧ W.cell? ⟨pb, po + v, none⟩ = some (.complex .f64 rv iv) ∧ Hid (Below W1.heap.size W1 W)))) (by kernel_rfl) START (fun hHeld => ?_)
      clear hHeld
      refine wpAnyH_take (i := 0) (v := .pointer (some ⟨mb, 0, none⟩)) rfl (by kernel_rfl) (by kernel_rfl) (by kernel_rfl) (fun _ _ _ h => h) (Or.inl ⟨by kernel_rfl, ?_⟩) (by assumption) ?_
      · intro W hSw
        try dsimp only at hSw
        go_simp
      try simp only [Act.put, List.setIfInBounds_toArray, List.set_cons_zero, List.set_cons_succ]
      refine wpAnyH_take (i := 1) (v := .agg #[.int .i64 u, .int .i64 v]) rfl (by kernel_rfl) (by kernel_rfl) (by kernel_rfl) (fun _ _ _ h => h) (Or.inl ⟨by kernel_rfl, ?_⟩) (by assumption) ?_
      · intro W hSw
        try dsimp only at hSw
        go_simp
      try simp only [Act.put, List.setIfInBounds_toArray, List.set_cons_zero, List.set_cons_succ]
      refine wpAnyH_ready (rs := [2]) (by kernel_rfl) (by simp) ?_
      refine AllReadyH.cons rfl (fun K hK => ?_) AllReadyH.nil
      go_simp
      refine (C110.out _ (by assumption)).mono ?_
      rintro e w6 ⟨rfl, hS6⟩
      refine hK.out _ _ hS6 (fun hHeld => ?_)
      clear hK K hHeld
      try simp only [Act.put, List.setIfInBounds_toArray, List.set_cons_zero, List.set_cons_succ]
      clear START
      refine wpAnyH_take (i := 3) (v := .bool false) rfl (by kernel_rfl) (by kernel_rfl) (by kernel_rfl) (fun _ _ _ h => h) (Or.inl ⟨by kernel_rfl, ?_⟩) (by assumption) ?_
      · intro W hSw
        try dsimp only at hSw
        go_simp
      try simp only [Act.put, List.setIfInBounds_toArray, List.set_cons_zero, List.set_cons_succ]
      refine wpAnyH_take (i := 4) (v := .bool false) rfl (by kernel_rfl) (by kernel_rfl) (by kernel_rfl) (fun _ _ _ h => h) (Or.inl ⟨by kernel_rfl, ?_⟩) (by assumption) ?_
      · intro W hSw
        try dsimp only at hSw
        go_simp
      try simp only [Act.put, List.setIfInBounds_toArray, List.set_cons_zero, List.set_cons_succ]
      refine wpAnyH_take (i := 5) (v := .complex .f64 ri ii) rfl (by kernel_rfl) (by kernel_rfl) (by kernel_rfl) (fun _ _ _ h => h) (Or.inl ⟨by kernel_rfl, ?_⟩) (by assumption) ?_
      · intro W hSw
        try dsimp only at hSw
        go_simp
      try simp only [Act.put, List.setIfInBounds_toArray, List.set_cons_zero, List.set_cons_succ]
      refine wpAnyH_take (i := 6) (v := .complex .f64 rj ij) rfl (by kernel_rfl) (by kernel_rfl) (by kernel_rfl) (fun _ _ _ h => h) (Or.inl ⟨by kernel_rfl, ?_⟩) (by assumption) ?_
      · intro W hSw
        try dsimp only at hSw
        go_simp
      try simp only [Act.put, List.setIfInBounds_toArray, List.set_cons_zero, List.set_cons_succ]
      refine wpAnyH_take (i := 7) (v := .pointer (some ⟨mb, 0, none⟩)) rfl (by kernel_rfl) (by kernel_rfl) (by kernel_rfl) (fun _ _ _ h => h) (Or.inl ⟨by kernel_rfl, ?_⟩) (by assumption) ?_
      · intro W hSw
        try dsimp only at hSw
        go_simp
      try simp only [Act.put, List.setIfInBounds_toArray, List.set_cons_zero, List.set_cons_succ]
      refine wpAnyH_take (i := 8) (v := .pointer (some ⟨mb, 0, none⟩)) rfl (by kernel_rfl) (by kernel_rfl) (by kernel_rfl) (fun _ _ _ h => h) (Or.inl ⟨by kernel_rfl, ?_⟩) (by assumption) ?_
      · intro W hSw
        try dsimp only at hSw
        go_simp
      try simp only [Act.put, List.setIfInBounds_toArray, List.set_cons_zero, List.set_cons_succ]
      refine wpAnyH_take (i := 9) (v := .pointer (some ⟨mb, 0, none⟩)) rfl (by kernel_rfl) (by kernel_rfl) (by kernel_rfl) (fun _ _ _ h => h) (Or.inl ⟨by kernel_rfl, ?_⟩) (by assumption) ?_
      · intro W hSw
        try dsimp only at hSw
        go_simp
      try simp only [Act.put, List.setIfInBounds_toArray, List.set_cons_zero, List.set_cons_succ]
      refine wpAnyH_take (i := 10) (v := .slice (some ⟨pb, po, none⟩) n cap) rfl (by kernel_rfl) (by kernel_rfl) (by kernel_rfl) (fun _ _ _ h => h) (Or.inl ⟨by kernel_rfl, ?_⟩) (by assumption) ?_
      · intro W hSw
        try dsimp only at hSw
        go_simp
      try simp only [Act.put, List.setIfInBounds_toArray, List.set_cons_zero, List.set_cons_succ]
      refine wpAnyH_take (i := 11) (v := .pointer (some ⟨w.heap.size, 0, none⟩)) rfl (by kernel_rfl) (by kernel_rfl) (by kernel_rfl) (fun _ _ _ h => h) (Or.inl ⟨by kernel_rfl, ?_⟩) (by assumption) ?_
      · intro W hSw
        try dsimp only at hSw
        go_simp
      try simp only [Act.put, List.setIfInBounds_toArray, List.set_cons_zero, List.set_cons_succ]
      refine wpAnyH_take (i := 12) (v := .int .i64 u) rfl (by kernel_rfl) (by kernel_rfl) (by kernel_rfl) (fun _ _ _ h => h) (Or.inl ⟨by kernel_rfl, ?_⟩) (by assumption) ?_
      · intro W hSw
        try dsimp only at hSw
        go_simp
      try simp only [Act.put, List.setIfInBounds_toArray, List.set_cons_zero, List.set_cons_succ]
      refine wpAnyH_take (i := 13) (v := .pointer (some ⟨pb, po + u, none⟩)) rfl (by kernel_rfl) (by kernel_rfl) (by kernel_rfl) (fun _ _ _ h => h) (Or.inl ⟨by kernel_rfl, ?_⟩) (by assumption) ?_
      · intro W hSw
        try dsimp only at hSw
        go_simp
      try simp only [Act.put, List.setIfInBounds_toArray, List.set_cons_zero, List.set_cons_succ]
      refine wpAnyH_take (i := 14) (v := .complex .f64 ru iu) rfl (by kernel_rfl) (by kernel_rfl) (by kernel_rfl) (fun _ _ _ h => h) (Or.inl ⟨by kernel_rfl, ?_⟩) (by assumption) ?_
      · intro W hSw
        try dsimp only at hSw
        go_simp
      try simp only [Act.put, List.setIfInBounds_toArray, List.set_cons_zero, List.set_cons_succ]
      refine wpAnyH_take (i := 15) (v := .pointer (some ⟨mb, 0, none⟩)) rfl (by kernel_rfl) (by kernel_rfl) (by kernel_rfl) (fun _ _ _ h => h) (Or.inl ⟨by kernel_rfl, ?_⟩) (by assumption) ?_
      · intro W hSw
        try dsimp only at hSw
        go_simp
      try simp only [Act.put, List.setIfInBounds_toArray, List.set_cons_zero, List.set_cons_succ]
      refine wpAnyH_take (i := 16) (v := .pointer (some ⟨mb, 0, none⟩)) rfl (by kernel_rfl) (by kernel_rfl) (by kernel_rfl) (fun _ _ _ h => h) (Or.inl ⟨by kernel_rfl, ?_⟩) (by assumption) ?_
      · intro W hSw
        try dsimp only at hSw
        go_simp
      try simp only [Act.put, List.setIfInBounds_toArray, List.set_cons_zero, List.set_cons_succ]
      refine wpAnyH_take (i := 17) (v := .pointer (some ⟨mb, 0, none⟩)) rfl (by kernel_rfl) (by kernel_rfl) (by kernel_rfl) (fun _ _ _ h => h) (Or.inl ⟨by kernel_rfl, ?_⟩) (by assumption) ?_
      · intro W hSw
        try dsimp only at hSw
        go_simp
      try simp only [Act.put, List.setIfInBounds_toArray, List.set_cons_zero, List.set_cons_succ]
      refine wpAnyH_take (i := 18) (v := .slice (some ⟨pb, po, none⟩) n cap) rfl (by kernel_rfl) (by kernel_rfl) (by kernel_rfl) (fun _ _ _ h => h) (Or.inl ⟨by kernel_rfl, ?_⟩) (by assumption) ?_
      · intro W hSw
        try dsimp only at hSw
        go_simp
      try simp only [Act.put, List.setIfInBounds_toArray, List.set_cons_zero, List.set_cons_succ]
      refine wpAnyH_take (i := 19) (v := .pointer (some ⟨w.heap.size, 1, none⟩)) rfl (by kernel_rfl) (by kernel_rfl) (by kernel_rfl) (fun _ _ _ h => h) (Or.inl ⟨by kernel_rfl, ?_⟩) (by assumption) ?_
      · intro W hSw
        try dsimp only at hSw
        go_simp
      try simp only [Act.put, List.setIfInBounds_toArray, List.set_cons_zero, List.set_cons_succ]
      refine wpAnyH_take (i := 20) (v := .int .i64 v) rfl (by kernel_rfl) (by kernel_rfl) (by kernel_rfl) (fun _ _ _ h => h) (Or.inl ⟨by kernel_rfl, ?_⟩) (by assumption) ?_
      · intro W hSw
        try dsimp only at hSw
        go_simp
      try simp only [Act.put, List.setIfInBounds_toArray, List.set_cons_zero, List.set_cons_succ]
      refine wpAnyH_take (i := 21) (v := .pointer (some ⟨pb, po + v, none⟩)) rfl (by kernel_rfl) (by kernel_rfl) (by kernel_rfl) (fun _ _ _ h => h) (Or.inl ⟨by kernel_rfl, ?_⟩) (by assumption) ?_
      · intro W hSw
        try dsimp only at hSw
        go_simp
      try simp only [Act.put, List.setIfInBounds_toArray, List.set_cons_zero, List.set_cons_succ]
      refine wpAnyH_take (i := 22) (v := .complex .f64 rv iv) rfl (by kernel_rfl) (by kernel_rfl) (by kernel_rfl) (fun _ _ _ h => h) (Or.inl ⟨by kernel_rfl, ?_⟩) (by assumption) ?_
      · intro W hSw
        try dsimp only at hSw
        go_simp
      try simp only [Act.put, List.setIfInBounds_toArray, List.set_cons_zero, List.set_cons_succ]
      refine wpAnyH_ready (rs := [23]) (by kernel_rfl) (by simp) ?_
      refine AllReadyH.cons rfl (fun K hK => ?_) AllReadyH.nil
      go_simp
      refine (C103.out _ (by assumption)).mono ?_
      rintro e w7 ⟨rfl, hS7⟩
      refine hK.out _ _ hS7 (fun hHeld => ?_)
      clear hK K hHeld
      try simp only [Act.put, List.setIfInBounds_toArray, List.set_cons_zero, List.set_cons_succ]
      clear hS6
      refine wpAnyH_take (i := 24) (v := .bool true) rfl (by kernel_rfl) (by kernel_rfl) (by kernel_rfl) (fun _ _ _ h => h) (Or.inl ⟨by kernel_rfl, ?_⟩) (by assumption) ?_
      · intro W hSw
        try dsimp only at hSw
        go_simp
      try simp only [Act.put, List.setIfInBounds_toArray, List.set_cons_zero, List.set_cons_succ]
      clear C110 C103
      refine wpAnyH_ready (rs := [25]) (by kernel_rfl) (by simp) ?_
      refine AllReadyH.cons rfl (fun K hK => ?_) AllReadyH.nil
      go_simp
      refine hK.out _ _ (by assumption) (fun hHeld => ?_)
      clear hK K hHeld
      refine wpAnyH_done (by kernel_rfl) ?_ _
      go_wp2_with fail
      go_ret
      exact ⟨rfl, FIN.out _ hS7.2.2.2.2.2.2.2.2.2⟩
    | true =>
      have er : r = wg := hr
      subst er
      clear hr
      go_enter Tryz.func109, Tryz.ntmps109
      go_wp2_with fail
      rw [← hW1]
      clear hW1
      refine wp_region_held_drew (S := (fun W => (W.cell? ⟨w.heap.size, 0, none⟩ = some (.int .i64 u) ∧ W.cell? ⟨w.heap.size, 1, none⟩ = some (.int .i64 v) ∧ W.cell? ⟨bM, 0, none⟩ = some (.pointer (some ⟨mb, 0, none⟩)) ∧ W.cell? ⟨bA, 0, none⟩ = some (.complex .f64 ri ii) ∧ W.cell? ⟨bB, 0, none⟩ = some (.complex .f64 rj ij) ∧ W.cell? ⟨bH, 0, none⟩ = some (.func (.func 107) #[] #[.pointer (some ⟨bA, 0, none⟩), .pointer (some ⟨bB, 0, none⟩)]) ∧ W.cell? ⟨mb, 0, none⟩ = some (.slice (some ⟨pb, po, none⟩) n cap) ∧ W.cell? ⟨pb, po + u, none⟩ = some (.complex .f64 ru iu) ∧ W.cell? ⟨pb, po + v, none⟩ = some (.complex .f64 rv iv) ∧ Hid (Below W1.heap.size W1 W)))) (by kernel_rfl) START (fun hHeld => ?_)
      clear hHeld
      refine wpAnyH_take (i := 0) (v := .pointer (some ⟨mb, 0, none⟩)) rfl (by kernel_rfl) (by kernel_rfl) (by kernel_rfl) (fun _ _ _ h => h) (Or.inl ⟨by kernel_rfl, ?_⟩) (by assumption) ?_
      · intro W hSw
        try dsimp only at hSw
        go_simp
      try simp only [Act.put, List.setIfInBounds_toArray, List.set_cons_zero, List.set_cons_succ]
      refine wpAnyH_take (i := 1) (v := .agg #[.int .i64 u, .int .i64 v]) rfl (by kernel_rfl) (by kernel_rfl) (by kernel_rfl) (fun _ _ _ h => h) (Or.inl ⟨by kernel_rfl, ?_⟩) (by assumption) ?_
      · intro W hSw
        try dsimp only at hSw
        go_simp
      try simp only [Act.put, List.setIfInBounds_toArray, List.set_cons_zero, List.set_cons_succ]
      refine wpAnyH_ready (rs := [2]) (by kernel_rfl) (by simp) ?_
      refine AllReadyH.cons rfl (fun K hK => ?_) AllReadyH.nil
      go_simp
      refine (C110.out _ (by assumption)).mono ?_
      rintro e w6 ⟨rfl, hS6⟩
      refine hK.out _ _ hS6 (fun hHeld => ?_)
      clear hK K hHeld
      try simp only [Act.put, List.setIfInBounds_toArray, List.set_cons_zero, List.set_cons_succ]
      clear START
      refine wpAnyH_take (i := 3) (v := .bool false) rfl (by kernel_rfl) (by kernel_rfl) (by kernel_rfl) (fun _ _ _ h => h) (Or.inl ⟨by kernel_rfl, ?_⟩) (by assumption) ?_
      · intro W hSw
        try dsimp only at hSw
        go_simp
      try simp only [Act.put, List.setIfInBounds_toArray, List.set_cons_zero, List.set_cons_succ]
      refine wpAnyH_take (i := 4) (v := .bool false) rfl (by kernel_rfl) (by kernel_rfl) (by kernel_rfl) (fun _ _ _ h => h) (Or.inl ⟨by kernel_rfl, ?_⟩) (by assumption) ?_
      · intro W hSw
        try dsimp only at hSw
        go_simp
      try simp only [Act.put, List.setIfInBounds_toArray, List.set_cons_zero, List.set_cons_succ]
      refine wpAnyH_take (i := 5) (v := .complex .f64 ri ii) rfl (by kernel_rfl) (by kernel_rfl) (by kernel_rfl) (fun _ _ _ h => h) (Or.inl ⟨by kernel_rfl, ?_⟩) (by assumption) ?_
      · intro W hSw
        try dsimp only at hSw
        go_simp
      try simp only [Act.put, List.setIfInBounds_toArray, List.set_cons_zero, List.set_cons_succ]
      refine wpAnyH_take (i := 6) (v := .complex .f64 rj ij) rfl (by kernel_rfl) (by kernel_rfl) (by kernel_rfl) (fun _ _ _ h => h) (Or.inl ⟨by kernel_rfl, ?_⟩) (by assumption) ?_
      · intro W hSw
        try dsimp only at hSw
        go_simp
      try simp only [Act.put, List.setIfInBounds_toArray, List.set_cons_zero, List.set_cons_succ]
      refine wpAnyH_take (i := 7) (v := .pointer (some ⟨mb, 0, none⟩)) rfl (by kernel_rfl) (by kernel_rfl) (by kernel_rfl) (fun _ _ _ h => h) (Or.inl ⟨by kernel_rfl, ?_⟩) (by assumption) ?_
      · intro W hSw
        try dsimp only at hSw
        go_simp
      try simp only [Act.put, List.setIfInBounds_toArray, List.set_cons_zero, List.set_cons_succ]
      refine wpAnyH_take (i := 8) (v := .pointer (some ⟨mb, 0, none⟩)) rfl (by kernel_rfl) (by kernel_rfl) (by kernel_rfl) (fun _ _ _ h => h) (Or.inl ⟨by kernel_rfl, ?_⟩) (by assumption) ?_
      · intro W hSw
        try dsimp only at hSw
        go_simp
      try simp only [Act.put, List.setIfInBounds_toArray, List.set_cons_zero, List.set_cons_succ]
      refine wpAnyH_take (i := 9) (v := .pointer (some ⟨mb, 0, none⟩)) rfl (by kernel_rfl) (by kernel_rfl) (by kernel_rfl) (fun _ _ _ h => h) (Or.inl ⟨by kernel_rfl, ?_⟩) (by assumption) ?_
      · intro W hSw
        try dsimp only at hSw
        go_simp
      try simp only [Act.put, List.setIfInBounds_toArray, List.set_cons_zero, List.set_cons_succ]
      refine wpAnyH_take (i := 10) (v := .slice (some ⟨pb, po, none⟩) n cap) rfl (by kernel_rfl) (by kernel_rfl) (by kernel_rfl) (fun _ _ _ h => h) (Or.inl ⟨by kernel_rfl, ?_⟩) (by assumption) ?_
      · intro W hSw
        try dsimp only at hSw
        go_simp
      try simp only [Act.put, List.setIfInBounds_toArray, List.set_cons_zero, List.set_cons_succ]
      refine wpAnyH_take (i := 11) (v := .pointer (some ⟨w.heap.size, 0, none⟩)) rfl (by kernel_rfl) (by kernel_rfl) (by kernel_rfl) (fun _ _ _ h => h) (Or.inl ⟨by kernel_rfl, ?_⟩) (by assumption) ?_
      · intro W hSw
        try dsimp only at hSw
        go_simp
      try simp only [Act.put, List.setIfInBounds_toArray, List.set_cons_zero, List.set_cons_succ]
      refine wpAnyH_take (i := 12) (v := .int .i64 u) rfl (by kernel_rfl) (by kernel_rfl) (by kernel_rfl) (fun _ _ _ h => h) (Or.inl ⟨by kernel_rfl, ?_⟩) (by assumption) ?_
      · intro W hSw
        try dsimp only at hSw
        go_simp
      try simp only [Act.put, List.setIfInBounds_toArray, List.set_cons_zero, List.set_cons_succ]
      refine wpAnyH_take (i := 13) (v := .pointer (some ⟨pb, po + u, none⟩)) rfl (by kernel_rfl) (by kernel_rfl) (by kernel_rfl) (fun _ _ _ h => h) (Or.inl ⟨by kernel_rfl, ?_⟩) (by assumption) ?_
      · intro W hSw
        try dsimp only at hSw
        go_simp
      try simp only [Act.put, List.setIfInBounds_toArray, List.set_cons_zero, List.set_cons_succ]
      refine wpAnyH_take (i := 14) (v := .complex .f64 ru iu) rfl (by kernel_rfl) (by kernel_rfl) (by kernel_rfl) (fun _ _ _ h => h) (Or.inl ⟨by kernel_rfl, ?_⟩) (by assumption) ?_
      · intro W hSw
        try dsimp only at hSw
        go_simp
      try simp only [Act.put, List.setIfInBounds_toArray, List.set_cons_zero, List.set_cons_succ]
      refine wpAnyH_take (i := 15) (v := .pointer (some ⟨mb, 0, none⟩)) rfl (by kernel_rfl) (by kernel_rfl) (by kernel_rfl) (fun _ _ _ h => h) (Or.inl ⟨by kernel_rfl, ?_⟩) (by assumption) ?_
      · intro W hSw
        try dsimp only at hSw
        go_simp
      try simp only [Act.put, List.setIfInBounds_toArray, List.set_cons_zero, List.set_cons_succ]
      refine wpAnyH_take (i := 16) (v := .pointer (some ⟨mb, 0, none⟩)) rfl (by kernel_rfl) (by kernel_rfl) (by kernel_rfl) (fun _ _ _ h => h) (Or.inl ⟨by kernel_rfl, ?_⟩) (by assumption) ?_
      · intro W hSw
        try dsimp only at hSw
        go_simp
      try simp only [Act.put, List.setIfInBounds_toArray, List.set_cons_zero, List.set_cons_succ]
      refine wpAnyH_take (i := 17) (v := .pointer (some ⟨mb, 0, none⟩)) rfl (by kernel_rfl) (by kernel_rfl) (by kernel_rfl) (fun _ _ _ h => h) (Or.inl ⟨by kernel_rfl, ?_⟩) (by assumption) ?_
      · intro W hSw
        try dsimp only at hSw
        go_simp
      try simp only [Act.put, List.setIfInBounds_toArray, List.set_cons_zero, List.set_cons_succ]
      refine wpAnyH_take (i := 18) (v := .slice (some ⟨pb, po, none⟩) n cap) rfl (by kernel_rfl) (by kernel_rfl) (by kernel_rfl) (fun _ _ _ h => h) (Or.inl ⟨by kernel_rfl, ?_⟩) (by assumption) ?_
      · intro W hSw
        try dsimp only at hSw
        go_simp
      try simp only [Act.put, List.setIfInBounds_toArray, List.set_cons_zero, List.set_cons_succ]
      refine wpAnyH_take (i := 19) (v := .pointer (some ⟨w.heap.size, 1, none⟩)) rfl (by kernel_rfl) (by kernel_rfl) (by kernel_rfl) (fun _ _ _ h => h) (Or.inl ⟨by kernel_rfl, ?_⟩) (by assumption) ?_
      · intro W hSw
        try dsimp only at hSw
        go_simp
      try simp only [Act.put, List.setIfInBounds_toArray, List.set_cons_zero, List.set_cons_succ]
      refine wpAnyH_take (i := 20) (v := .int .i64 v) rfl (by kernel_rfl) (by kernel_rfl) (by kernel_rfl) (fun _ _ _ h => h) (Or.inl ⟨by kernel_rfl, ?_⟩) (by assumption) ?_
      · intro W hSw
        try dsimp only at hSw
        go_simp
      try simp only [Act.put, List.setIfInBounds_toArray, List.set_cons_zero, List.set_cons_succ]
      refine wpAnyH_take (i := 21) (v := .pointer (some ⟨pb, po + v, none⟩)) rfl (by kernel_rfl) (by kernel_rfl) (by kernel_rfl) (fun _ _ _ h => h) (Or.inl ⟨by kernel_rfl, ?_⟩) (by assumption) ?_
      · intro W hSw
        try dsimp only at hSw
        go_simp
      try simp only [Act.put, List.setIfInBounds_toArray, List.set_cons_zero, List.set_cons_succ]
      refine wpAnyH_take (i := 22) (v := .complex .f64 rv iv) rfl (by kernel_rfl) (by kernel_rfl) (by kernel_rfl) (fun _ _ _ h => h) (Or.inl ⟨by kernel_rfl, ?_⟩) (by assumption) ?_
      · intro W hSw
        try dsimp only at hSw
        go_simp
      try simp only [Act.put, List.setIfInBounds_toArray, List.set_cons_zero, List.set_cons_succ]
      refine wpAnyH_ready (rs := [23]) (by kernel_rfl) (by simp) ?_
      refine AllReadyH.cons rfl (fun K hK => ?_) AllReadyH.nil
      go_simp
      refine (C103.out _ (by assumption)).mono ?_
      rintro e w7 ⟨rfl, hS7⟩
      refine hK.out _ _ hS7 (fun hHeld => ?_)
      clear hK K hHeld
      try simp only [Act.put, List.setIfInBounds_toArray, List.set_cons_zero, List.set_cons_succ]
      clear hS6
      refine wpAnyH_take (i := 24) (v := .bool false) rfl (by kernel_rfl) (by kernel_rfl) (by kernel_rfl) (fun _ _ _ h => h) (Or.inl ⟨by kernel_rfl, ?_⟩) (by assumption) ?_
      · intro W hSw
        try dsimp only at hSw
        go_simp
      try simp only [Act.put, List.setIfInBounds_toArray, List.set_cons_zero, List.set_cons_succ]
      clear C110 C103
      refine wpAnyH_ready (rs := [25]) (by kernel_rfl) (by simp) ?_
      refine AllReadyH.cons rfl (fun K hK => ?_) AllReadyH.nil
      go_simp
      refine hK.out _ _ (by assumption) (fun hHeld => ?_)
      clear hK K hHeld
      refine wpAnyH_done (by kernel_rfl) ?_ _
      go_wp2_with fail
      refine (C111.out _ hS7).mono ?_
      rintro e w8 ⟨rfl, hS8⟩
      have HS8 := hid hS8
      have s5 := hS8.2.2.2.2.2.1
      clear hS8 hS7 C111
      go_wp2_with fail
      refine (C112.out _ HS8.out).mono ?_
      rintro e w9 ⟨rfl, he9⟩
      subst he9
      go_wp2_with fail
      go_ret
      exact ⟨rfl, FIN.out _ HS8.out.2.2.2.2.2.2.2.2.2⟩
end Go.Proofs.YtdbebbbceeopaaaGreat

set_option linter.unusedSimpArgs false
namespace Go.Proofs.YtdbebbbceeopaaaGreat
open Go.RowKit Go.Maps
open Geo (up bad Waits Spent Wg VolG Quad flipM Mesh Cor Bowl lift)

set_option maxRecDepth 100000 in
set_option maxHeartbeats 8000000 in
theorem turnLine_any (mb bm pb po n cap : Nat) (px py h : Nat → Int) (M0 : Nat → Nat → Option Nat) (lv : Value) (ls : List (Nat × Nat)) (ok : Nat → Nat → Bool) (KP : (Nat → Nat → Option Nat) → Prop) (first caps : Array Value) (w : World) (hn : n ≤ 40) (hM : MeshAt w mb bm 1600 pb po n cap px py M0 lv ls) (hm0 : Mesh px py n M0) (hc0 : Cor n M0) (hk0 : KP M0)
    (hbw : Bowl px py h) (hh : ∀ i, 0 ≤ h i) (hsy : ∀ u v, ok u v = ok v u)
    (hKP : ∀ M a b c d, Mesh px py n M → Quad px py M a b c d → ok a b = true → KP M → KP (flipM M a b c d))
    (hcl : ∀ (W : World) (M : Nat → Nat → Option Nat) (u v : Nat), MeshAt W mb bm 1600 pb po n cap px py M lv ls → Mesh px py n M → Below w.heap.size w W ∨ w.grownBy W (some bm) → u < n → v < n → Calls Tryz.prog 109 (first.push (.agg #[.int .i64 (u : Nat), .int .i64 (v : Nat)]) ++ caps) W fun e w' => e = .returned (.bool (bad px py ok h M u v)) ∧ Below W.heap.size W w') :
    Calls Tryz.prog 76 #[.pointer (some ⟨mb, 0, none⟩), .func (.func 109) first caps] w fun e w' => e = .returned (.tuple #[]) ∧ w.grownBy w' (some bm) ∧
      ∃ M, MeshAt w' mb bm 1600 pb po n cap px py M lv ls ∧ Mesh px py n M ∧ Cor n M ∧ KP M ∧ ∀ u v, bad px py ok h M u v = false := by
  obtain ⟨vf, hvf⟩ := vol_fn px py h n bm hn
  have VF := hid hvf
  have SD := hid (sides_any mb bm 1600 pb po n cap px py M0 lv ls w hM (by omega) (fun a b c e => ⟨(hm0.lts e).1, (hm0.lts e).2.1⟩) hn)
  have H1 := hid (World.block_lt_of_cell? w _ hM.c0)
  have H2 := hid hM.plc.lt
  have H3 := hid (own_lt2 hM.ln)
  have bl := hid hM.map.lt
  have HM0 := hid hM
  have CL := hid hcl
  have KPP := hid hKP
  clear hvf hM hcl hKP
  obtain ⟨hb, hhb⟩ : ∃ hb, hb = w.heap.size + 1 := ⟨_, rfl⟩
  have HHB := hid hhb
  rw [← hhb] at SD
  clear hhb
  go_enter Tryz.func76, Tryz.ntmps76
  go_wp2_with fail
  refine SD.out.mono ?_
  rintro e w0 ⟨rfl, hb0, l0, hp0, hl0, hin0, hln0⟩
  have HM0' : Hid (MeshAt w0 mb bm 1600 pb po n cap px py M0 lv ls) := hid (HM0.out.below hb0)
  have G0 : Hid (w.grownBy w0 (some bm)) := hid (grown_below _ hb0)
  have T0 : Hid (Ti px py h n ok KP M0 l0 []) := hid ⟨hm0, hc0, hk0, fun u v huv hbad => by
    obtain ⟨_, c, d, e1, _, _⟩ := Geo.bad_inv hbad
    exact hin0 u v huv (by rw [e1]; rfl), Spent.nil, by simp; omega, hln0⟩
  have HP0 := hid hp0
  clear hb0 hp0 hl0 hin0 hln0 SD
  go_wp2_with fail
  go_loopw [5, 7] (fun _ _ wr => ∃ (M : Nat → Nat → Option Nat) (l K : List (Nat × Nat)), Hid (MeshAt wr mb bm 1600 pb po n cap px py M lv ls) ∧ Hid (Ti px py h n ok KP M l K) ∧ Hid (Hp wr hb l) ∧ Hid (w.grownBy wr (some bm))) (fun _ _ wr => vf wr * 5 + lenW wr hb)
  case atStart => exact ⟨M0, l0, [], HM0', T0, HP0, G0⟩
  case round =>
    obtain ⟨M, l, K, HM, HT, HP, HG⟩ := hrel
    clear HM0' T0 HP0 G0
    have hlen : l.length ≤ 6400 := by have := HT.out.len; have := HT.out.spent.len hn; omega
    obtain ⟨v, c0, ho⟩ := HP.out.ex
    obtain ⟨a1, c1, hv⟩ := owns_len2 ho
    subst hv
    have HLN := hid (len_any a1 l.length c1 wr)
    clear ho
    by_cases hl : l.length = 0
    · have hle : l = [] := List.eq_nil_of_length_eq_zero hl
      have DONE : Hid (∀ u v, bad px py ok h M u v = false) := hid (Waits.done hsy HT.out.mesh (by rw [← hle]; exact HT.out.wait))
      rw [hl] at c0 HLN
      go_wp2_with fail
      refine HLN.out.mono ?_
      rintro e w1 ⟨rfl, rfl⟩
      go_wp2_with fail
      go_end0
      exact ⟨rfl, HG.out, M, HM.out, HT.out.mesh, HT.out.cor, HT.out.keep, DONE.out⟩
    · have hd : decide ((0 : Int) < (l.length : Int)) = true := by simp; omega
      have NX := hid (next_any hb l wr HP.out (by omega) (by omega))
      go_wp2_with fail
      refine HLN.out.mono ?_
      rintro e w1 ⟨rfl, rfl⟩
      go_wp2_with fail
      refine NX.out.mono ?_
      rintro e w2 ⟨⟨x, l1, rfl, hp2, hpm⟩, hf2⟩
      have B2 : Below w.heap.size w1 w2 := hf2.belowB HP.out (by have := HHB.out; omega) HG.out.size
      have hxl := HT.out.lt x (hpm.mem_iff.2 List.mem_cons_self)
      obtain ⟨W2, hW2⟩ : ∃ W2, W2 = w2.alloc (.cells #[.int .i64 (x.1 : Nat), .int .i64 (x.2 : Nat)] 110) := ⟨_, rfl⟩
      have B2' : Hid (Below w2.heap.size w2 W2) := hid (by rw [hW2]; exact (Below.refl _ _).alloc (Nat.le_refl _) _)
      have HM2 := hid ((HM.out.belowB B2 H1.out bl.out H2.out H3.out).below B2'.out)
      have HG2 := hid (gr_below (gr_below HG.out B2) (B2'.out.mono (Nat.le_trans HG.out.size B2.size)))
      have HP2 := hid (hp2.below B2'.out (Nat.le_refl _))
      have HPM := hid hpm
      have hl1 : l.length = l1.length + 1 := by rw [hpm.length_eq]; rfl
      have CALL := hid (CL.out W2 M x.1 x.2 HM2.out HT.out.mesh (.inr HG2.out) (by omega) hxl.2)
      have x0 : W2.cell? ⟨w2.heap.size, 0, none⟩ = some (.int .i64 (x.1 : Nat)) := by rw [hW2]; exact World.cell?_alloc_at _ _ _ _ rfl
      have x1 : W2.cell? ⟨w2.heap.size, 1, none⟩ = some (.int .i64 (x.2 : Nat)) := by rw [hW2]; exact World.cell?_alloc_at _ _ _ _ rfl
      have xlt : Hid (w2.heap.size < W2.heap.size) := hid (World.block_lt_of_cell? W2 _ x0)
      have XX : Hid (W2.cell? ⟨w2.heap.size, 0, none⟩ = some (.int .i64 (x.1 : Nat)) ∧ W2.cell? ⟨w2.heap.size, 1, none⟩ = some (.int .i64 (x.2 : Nat))) := hid ⟨x0, x1⟩
      rw [hW2] at x0 x1
      clear hp2 hf2 hpm B2 c0 NX HLN
      go_wp2_with fail
      rw [← hW2]
      clear hW2
      refine CALL.out.mono ?_
      rintro e w3 ⟨rfl, hb3⟩
      have HM3 := hid (HM2.out.below hb3)
      have HG3 := hid (gr_below HG2.out (hb3.mono HG2.out.size))
      have HP3 := hid (HP2.out.below hb3 (Nat.le_refl _))
      have XC : Hid (w3.cell? ⟨w2.heap.size, 0, none⟩ = some (.int .i64 (x.1 : Nat)) ∧ w3.cell? ⟨w2.heap.size, 1, none⟩ = some (.int .i64 (x.2 : Nat))) := hid ⟨(hb3.cell (p := ⟨w2.heap.size, 0, none⟩) xlt.out).trans XX.out.1, (hb3.cell (p := ⟨w2.heap.size, 1, none⟩) xlt.out).trans XX.out.2⟩
      have LW := hid (lenW_eq HP.out)
      have VW := hid (VF.out _ _ _ HM.out.map)
      clear hb3 CALL x0 x1 HM2 HG2 HP2 B2' XX
      obtain ⟨bb, hbb⟩ : ∃ bb, bb = bad px py ok h M x.1 x.2 := ⟨_, rfl⟩
      rw [← hbb]
      have HBB := hid hbb
      clear hbb
      cases bb
      · have T1 : Hid (Ti px py h n ok KP M l1 K) := hid (HT.out.drop HPM.out HBB.out.symm)
        go_wp2_with fail
        go_roundw
        case rel => exact ⟨M, l1, K, HM3, T1, HP3, HG3⟩
        case measure => rw [lenW_eq HP3.out, LW.out, VW.out, VF.out _ _ _ HM3.out.map]; omega
      · obtain ⟨hok, c, d, e1, e2, hw⟩ := Geo.bad_inv HBB.out.symm
        have lc := HT.out.mesh.lts e1
        have ld := HT.out.mesh.lts e2
        have hxx : x.1 < x.2 := by
          have := Geo.T_ne12 (HT.out.mesh.pos _ _ _ e1)
          omega
        have TO := hid (turnOver_any mb bm 1600 pb po n cap x.1 x.2 c d px py M lv ls w3 hn HM3.out (by omega) lc.1 lc.2.1 lc.2.2 ld.2.2 e1 e2)
        have q := HT.out.mesh.quadG hbw e1 e2 hw
        have FL := hid (turn_flip q)
        have VOL := hid (Geo.flip_VolG HT.out.mesh h q)
        have NN := hid (Geo.volG_nonneg (HT.out.mesh.flipQ q) hh)
        have MF := hid (HT.out.mesh.flipQ q)
        have TT := hid (fun l5 hp5 => HT.out.turn (l5 := l5) hbw KPP.out HPM.out hok e1 e2 hw hxx hp5)
        have HW := hid hw
        clear q e1 e2 hw hok
        have xc0 := XC.out.1
        have xc1 := XC.out.2
        generalize hx1 : x.1 = xa at *
        generalize hx2 : x.2 = xb at *
        go_wp2_with fail
        refine TO.out.mono ?_
        rintro e w4 ⟨rfl, hm4, hg4⟩
        rw [FL.out] at hm4
        have HM4 := hid (hm4.tight MF.out hn)
        have HG4 := hid (gr_trans HG3.out hg4)
        have HP4 := hid (HP3.out.grown hg4 (by have := HHB.out; have := bl.out; omega))
        clear hm4 hg4 xc0 xc1 TO HM3 HG3 HP3 XC
        go_wp2_with fail
        have ix0 := Tryz.ix0 (.int .i64 (xa : Nat)) (.int .i64 (d : Nat)) (.int .i64 (d : Nat)) (.int .i64 (xb : Nat)) (.int .i64 (xb : Nat)) (.int .i64 (c : Nat)) (.int .i64 (c : Nat)) (.int .i64 (xa : Nat))
        have ix1 := Tryz.ix1 (.int .i64 (xa : Nat)) (.int .i64 (d : Nat)) (.int .i64 (d : Nat)) (.int .i64 (xb : Nat)) (.int .i64 (xb : Nat)) (.int .i64 (c : Nat)) (.int .i64 (c : Nat)) (.int .i64 (xa : Nat))
        have ix2 := Tryz.ix2 (.int .i64 (xa : Nat)) (.int .i64 (d : Nat)) (.int .i64 (d : Nat)) (.int .i64 (xb : Nat)) (.int .i64 (xb : Nat)) (.int .i64 (c : Nat)) (.int .i64 (c : Nat)) (.int .i64 (xa : Nat))
        have ix3 := Tryz.ix3 (.int .i64 (xa : Nat)) (.int .i64 (d : Nat)) (.int .i64 (d : Nat)) (.int .i64 (xb : Nat)) (.int .i64 (xb : Nat)) (.int .i64 (c : Nat)) (.int .i64 (c : Nat)) (.int .i64 (xa : Nat))
        refine wp_loop_rounds 5 ?_
        have WS1 := hid (wait_step (a := xa) (b := d) HHB.out HM4.out HP4.out HG4.out H1.out H2.out H3.out bl.out (by omega))
        rw [rounds_succ]
        go_wp2_with fail
        refine WS1.out.mono ?_
        rintro e w5 ⟨rfl, ⟨l2, hpx, hpm1⟩, hmx, hgx⟩
        have HP5 := hid hpx
        have HM5 := hid hmx
        have HG5 := hid hgx
        have PM1 := hid hpm1
        have hl5 : l2.length = l1.length + 1 := by rw [hpm1.length_eq]; rfl
        clear hpx hmx hgx hpm1 WS1
        go_wp2_with fail
        have WS2 := hid (wait_step (a := d) (b := xb) HHB.out HM5.out HP5.out HG5.out H1.out H2.out H3.out bl.out (by omega))
        rw [rounds_succ]
        go_wp2_with fail
        refine WS2.out.mono ?_
        rintro e w6 ⟨rfl, ⟨l3, hpx, hpm2⟩, hmx, hgx⟩
        have HP6 := hid hpx
        have HM6 := hid hmx
        have HG6 := hid hgx
        have PM2 := hid hpm2
        have hl6 : l3.length = l2.length + 1 := by rw [hpm2.length_eq]; rfl
        clear hpx hmx hgx hpm2 WS2
        go_wp2_with fail
        have WS3 := hid (wait_step (a := xb) (b := c) HHB.out HM6.out HP6.out HG6.out H1.out H2.out H3.out bl.out (by omega))
        rw [rounds_succ]
        go_wp2_with fail
        refine WS3.out.mono ?_
        rintro e w7 ⟨rfl, ⟨l4, hpx, hpm3⟩, hmx, hgx⟩
        have HP7 := hid hpx
        have HM7 := hid hmx
        have HG7 := hid hgx
        have PM3 := hid hpm3
        have hl7 : l4.length = l3.length + 1 := by rw [hpm3.length_eq]; rfl
        clear hpx hmx hgx hpm3 WS3
        go_wp2_with fail
        have WS4 := hid (wait_step (a := c) (b := xa) HHB.out HM7.out HP7.out HG7.out H1.out H2.out H3.out bl.out (by omega))
        rw [rounds_succ]
        go_wp2_with fail
        refine WS4.out.mono ?_
        rintro e w8 ⟨rfl, ⟨l5, hpx, hpm4⟩, hmx, hgx⟩
        have HP8 := hid hpx
        have HM8 := hid hmx
        have HG8 := hid hgx
        have PM4 := hid hpm4
        have hl8 : l5.length = l4.length + 1 := by rw [hpm4.length_eq]; rfl
        clear hpx hmx hgx hpm4 WS4
        go_wp2_with fail
        rw [rounds_succ]
        go_wp2_with fail
        have T5 := hid (TT.out l5 (PM4.out.trans ((PM3.out.trans ((PM2.out.trans (PM1.out.cons _)).cons _)).cons _)))
        go_roundw
        case rel => exact ⟨_, l5, _, HM8, T5, HP8, HG8⟩
        case measure =>
          rw [lenW_eq HP8.out, LW.out, VW.out, VF.out _ _ _ HM8.out.map, VOL.out]
          have := HW.out
          have := NN.out
          rw [VOL.out] at this
          omega
end Go.Proofs.YtdbebbbceeopaaaGreat
