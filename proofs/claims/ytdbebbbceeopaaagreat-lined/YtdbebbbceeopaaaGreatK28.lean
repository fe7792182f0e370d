import Derived.Test.YtdbebbbceeopaaaGreatK27
set_option linter.unusedSimpArgs false
namespace Go.Proofs.YtdbebbbceeopaaaGreat
open Go.RowKit

def circI (ax ay bx bya cx cy dx dy : Int) : Int := sqI ax ay dx dy * tw dx dy bx bya cx cy + sqI bx bya dx dy * tw dx dy cx cy ax ay + sqI cx cy dx dy * tw dx dy ax ay bx bya

theorem circ_Wn (px py : Nat → Int) (a b c d : Nat) : circI (px a) (py a) (px b) (py b) (px c) (py c) (px d) (py d) = Geo.Wn px py a b c d := rfl

theorem mul_bd {a b A B : Int} (ha : -A ≤ a) (ha' : a ≤ A) (hb : -B ≤ b) (hb' : b ≤ B) : -(A * B) ≤ a * b ∧ a * b ≤ A * B := by
  have h1 := Int.mul_nonneg (show 0 ≤ A - a by omega) (show 0 ≤ B - b by omega)
  have h2 := Int.mul_nonneg (show 0 ≤ A - a by omega) (show 0 ≤ B + b by omega)
  have h3 := Int.mul_nonneg (show 0 ≤ A + a by omega) (show 0 ≤ B - b by omega)
  have h4 := Int.mul_nonneg (show 0 ≤ A + a by omega) (show 0 ≤ B + b by omega)
  have e1 : (A - a) * (B - b) = A * B - A * b - a * B + a * b := by grind
  have e2 : (A - a) * (B + b) = A * B + A * b - a * B - a * b := by grind
  have e3 : (A + a) * (B - b) = A * B - A * b + a * B - a * b := by grind
  have e4 : (A + a) * (B + b) = A * B + A * b + a * B + a * b := by grind
  omega

theorem sqI_bd {a b c d : Int} (h : Bd4 a b c d) : 0 ≤ sqI a b c d ∧ sqI a b c d ≤ 8000000 := by
  obtain ⟨h1, h2, h3, h4⟩ := h
  have m1 := mul_bd (a := a - c) (b := a - c) (A := 2000) (B := 2000) (by omega) (by omega) (by omega) (by omega)
  have m2 := mul_bd (a := b - d) (b := b - d) (A := 2000) (B := 2000) (by omega) (by omega) (by omega) (by omega)
  have n1 := Geo.sqd_nonneg (a - c) (b - d)
  unfold Geo.sq at n1
  unfold sqI
  omega

theorem tw_bd6 {a b c d e f : Int} (h : Bd6 a b c d e f) : -8000000 ≤ tw a b c d e f ∧ tw a b c d e f ≤ 8000000 := by
  obtain ⟨⟨h1, h2, h3, h4⟩, h5, h6⟩ := h
  have m1 := mul_bd (a := c - a) (b := f - b) (A := 2000) (B := 2000) (by omega) (by omega) (by omega) (by omega)
  have m2 := mul_bd (a := d - b) (b := e - a) (A := 2000) (B := 2000) (by omega) (by omega) (by omega) (by omega)
  unfold tw
  omega

/-- Eight numbers in bounds. -/
def Bd8 (a b c d e f g h : Int) : Prop := Bd4 a b c d ∧ Bd4 e f g h

set_option maxRecDepth 100000 in
set_option maxHeartbeats 2000000 in
theorem circle_any (ax ay bx bya cx cy dx dy : Int) (w : World) (h : Bd8 ax ay bx bya cx cy dx dy) :
    Calls Tryz.prog 32 #[.agg #[.int .i64 ax, .int .i64 ay], .agg #[.int .i64 bx, .int .i64 bya], .agg #[.int .i64 cx, .int .i64 cy], .agg #[.int .i64 dx, .int .i64 dy]] w fun e w' => e = .returned (.int .i64 (circI ax ay bx bya cx cy dx dy)) ∧ Below w.heap.size w w' := by
  obtain ⟨⟨A, A', B, B'⟩, ⟨C, C', D, D'⟩⟩ := h
  have f1 : Bd4 ax ay dx dy := ⟨A, A', D, D'⟩
  have f2 : Bd4 bx bya dx dy := ⟨B, B', D, D'⟩
  have f3 : Bd4 cx cy dx dy := ⟨C, C', D, D'⟩
  have g1 : Bd6 dx dy bx bya cx cy := ⟨⟨D, D', B, B'⟩, C, C'⟩
  have g2 : Bd6 dx dy cx cy ax ay := ⟨⟨D, D', C, C'⟩, A, A'⟩
  have g3 : Bd6 dx dy ax ay bx bya := ⟨⟨D, D', A, A'⟩, B, B'⟩
  clear A A' B B' C C' D D'
  have b1 := sqI_bd f1
  have b2 := sqI_bd f2
  have b3 := sqI_bd f3
  have t1 := tw_bd6 g1
  have t2 := tw_bd6 g2
  have t3 := tw_bd6 g3
  have m1 := mul_bd (a := sqI ax ay dx dy) (b := tw dx dy bx bya cx cy) (A := 8000000) (B := 8000000) (by omega) (by omega) (by omega) (by omega)
  have m2 := mul_bd (a := sqI bx bya dx dy) (b := tw dx dy cx cy ax ay) (A := 8000000) (B := 8000000) (by omega) (by omega) (by omega) (by omega)
  have m3 := mul_bd (a := sqI cx cy dx dy) (b := tw dx dy ax ay bx bya) (A := 8000000) (B := 8000000) (by omega) (by omega) (by omega) (by omega)
  have y1 : IntKind.i64.wrap (sqI ax ay dx dy * tw dx dy bx bya cx cy) = sqI ax ay dx dy * tw dx dy bx bya cx cy := by rw [IntKind.wrap_i64]; omega
  have y2 : IntKind.i64.wrap (sqI bx bya dx dy * tw dx dy cx cy ax ay) = sqI bx bya dx dy * tw dx dy cx cy ax ay := by rw [IntKind.wrap_i64]; omega
  have y3 : IntKind.i64.wrap (sqI cx cy dx dy * tw dx dy ax ay bx bya) = sqI cx cy dx dy * tw dx dy ax ay bx bya := by rw [IntKind.wrap_i64]; omega
  have y4 : IntKind.i64.wrap (sqI ax ay dx dy * tw dx dy bx bya cx cy + sqI bx bya dx dy * tw dx dy cx cy ax ay) = sqI ax ay dx dy * tw dx dy bx bya cx cy + sqI bx bya dx dy * tw dx dy cx cy ax ay := by rw [IntKind.wrap_i64]; omega
  have y5 : IntKind.i64.wrap (sqI ax ay dx dy * tw dx dy bx bya cx cy + sqI bx bya dx dy * tw dx dy cx cy ax ay + sqI cx cy dx dy * tw dx dy ax ay bx bya) = sqI ax ay dx dy * tw dx dy bx bya cx cy + sqI bx bya dx dy * tw dx dy cx cy ax ay + sqI cx cy dx dy * tw dx dy ax ay bx bya := by rw [IntKind.wrap_i64]; omega
  clear b1 b2 b3 t1 t2 t3 m1 m2 m3
  have SQ := hid square_4
  have TN := hid turn_6
  obtain ⟨W1, hW1⟩ : ∃ W1 : World, W1 = (((w.alloc (.cells #[.int .i64 ax, .int .i64 ay] 35)).alloc (.cells #[.int .i64 bx, .int .i64 bya] 35)).alloc (.cells #[.int .i64 cx, .int .i64 cy] 35)).alloc (.cells #[.int .i64 dx, .int .i64 dy] 35) := ⟨_, rfl⟩
  have B1 : Hid (Below w.heap.size w W1) := hid (by rw [hW1]; exact (((((Below.refl _ _).alloc (Nat.le_refl _) _).alloc (by simp) _).alloc (by simp <;> omega) _).alloc (by simp <;> omega) _))
  have hsz : W1.heap.size = w.heap.size + 1 + 1 + 1 + 1 := by rw [hW1]; simp
  have c0 : W1.cell? ⟨w.heap.size, 0, none⟩ = some (.int .i64 ax) ∧ W1.cell? ⟨w.heap.size, 1, none⟩ = some (.int .i64 ay) ∧ W1.cell? ⟨w.heap.size + 1, 0, none⟩ = some (.int .i64 bx) ∧ W1.cell? ⟨w.heap.size + 1, 1, none⟩ = some (.int .i64 bya) ∧ W1.cell? ⟨w.heap.size + 1 + 1, 0, none⟩ = some (.int .i64 cx) ∧ W1.cell? ⟨w.heap.size + 1 + 1, 1, none⟩ = some (.int .i64 cy) ∧ W1.cell? ⟨w.heap.size + 1 + 1 + 1, 0, none⟩ = some (.int .i64 dx) ∧ W1.cell? ⟨w.heap.size + 1 + 1 + 1, 1, none⟩ = some (.int .i64 dy) := by
    rw [hW1]
    refine ⟨?_, ?_, ?_, ?_, ?_, ?_, ?_, ?_⟩
    · rw [World.cell?_alloc_past _ _ _ (by simp <;> omega), World.cell?_alloc_past _ _ _ (by simp <;> omega), World.cell?_alloc_past _ _ _ (by simp), World.cell?_alloc_at _ _ _ _ (by simp)]; rfl
    · rw [World.cell?_alloc_past _ _ _ (by simp <;> omega), World.cell?_alloc_past _ _ _ (by simp <;> omega), World.cell?_alloc_past _ _ _ (by simp), World.cell?_alloc_at _ _ _ _ (by simp)]; rfl
    · rw [World.cell?_alloc_past _ _ _ (by simp <;> omega), World.cell?_alloc_past _ _ _ (by simp), World.cell?_alloc_at _ _ _ _ (by simp)]; rfl
    · rw [World.cell?_alloc_past _ _ _ (by simp <;> omega), World.cell?_alloc_past _ _ _ (by simp), World.cell?_alloc_at _ _ _ _ (by simp)]; rfl
    · rw [World.cell?_alloc_past _ _ _ (by simp), World.cell?_alloc_at _ _ _ _ (by simp)]; rfl
    · rw [World.cell?_alloc_past _ _ _ (by simp), World.cell?_alloc_at _ _ _ _ (by simp)]; rfl
    · rw [World.cell?_alloc_at _ _ _ _ (by simp)]; rfl
    · rw [World.cell?_alloc_at _ _ _ _ (by simp)]; rfl
  have KEEP : Hid (∀ W, Below W1.heap.size W1 W → W.cell? ⟨w.heap.size, 0, none⟩ = some (.int .i64 ax) ∧ W.cell? ⟨w.heap.size, 1, none⟩ = some (.int .i64 ay) ∧ W.cell? ⟨w.heap.size + 1, 0, none⟩ = some (.int .i64 bx) ∧ W.cell? ⟨w.heap.size + 1, 1, none⟩ = some (.int .i64 bya) ∧ W.cell? ⟨w.heap.size + 1 + 1, 0, none⟩ = some (.int .i64 cx) ∧ W.cell? ⟨w.heap.size + 1 + 1, 1, none⟩ = some (.int .i64 cy) ∧ W.cell? ⟨w.heap.size + 1 + 1 + 1, 0, none⟩ = some (.int .i64 dx) ∧ W.cell? ⟨w.heap.size + 1 + 1 + 1, 1, none⟩ = some (.int .i64 dy)) := hid fun W hW => by
    obtain ⟨k0, k1, k2, k3, k4, k5, k6, k7⟩ := c0
    exact ⟨(hW.cell (by show w.heap.size < _; omega)).trans k0, (hW.cell (by show w.heap.size < _; omega)).trans k1, (hW.cell (by show w.heap.size + 1 < _; omega)).trans k2, (hW.cell (by show w.heap.size + 1 < _; omega)).trans k3, (hW.cell (by show w.heap.size + 1 + 1 < _; omega)).trans k4, (hW.cell (by show w.heap.size + 1 + 1 < _; omega)).trans k5, (hW.cell (by show w.heap.size + 1 + 1 + 1 < _; omega)).trans k6, (hW.cell (by show w.heap.size + 1 + 1 + 1 < _; omega)).trans k7⟩
  have START := KEEP.out W1.drew (Below.refl _ _).drew
  clear c0 hsz
  unfold circI
  go_enter Tryz.func32, Tryz.ntmps32
  go_wp2_with fail
  rw [← hW1]
  clear hW1
  go_region_held3 (fun w' => w'.cell? ⟨w.heap.size, 0, none⟩ = some (.int .i64 ax) ∧ w'.cell? ⟨w.heap.size, 1, none⟩ = some (.int .i64 ay) ∧ w'.cell? ⟨w.heap.size + 1, 0, none⟩ = some (.int .i64 bx) ∧ w'.cell? ⟨w.heap.size + 1, 1, none⟩ = some (.int .i64 bya) ∧ w'.cell? ⟨w.heap.size + 1 + 1, 0, none⟩ = some (.int .i64 cx) ∧ w'.cell? ⟨w.heap.size + 1 + 1, 1, none⟩ = some (.int .i64 cy) ∧ w'.cell? ⟨w.heap.size + 1 + 1 + 1, 0, none⟩ = some (.int .i64 dx) ∧ w'.cell? ⟨w.heap.size + 1 + 1 + 1, 1, none⟩ = some (.int .i64 dy)) (assumption)
    (first | (go_at_call 17; refine (SQ.out _ _ _ _ _ (by assumption)).mono ?_; rintro e w2a ⟨rfl, hb6⟩; have HB6 : Hid (Below W1.heap.size W1 w2a) := hid ((Below.refl _ _).drew.trans hb6); have HK := KEEP.out w2a HB6.out; clear hb6) | (go_at_call 23; refine (TN.out _ _ _ _ _ _ _ (by assumption)).mono ?_; rintro e w2 ⟨rfl, hb6⟩; have HB7 : Hid (Below W1.heap.size W1 w2) := hid (HB6.out.trans (hb6.mono HB6.out.size)); have HK2 := KEEP.out w2 HB7.out; clear hb6))
  have START := KEEP.out w2.drew HB7.out.drew
  have HB2 := HB7
  clear HK HK2 HB6 HB7
  go_wp2_with fail
  go_region_held3 (fun w' => w'.cell? ⟨w.heap.size, 0, none⟩ = some (.int .i64 ax) ∧ w'.cell? ⟨w.heap.size, 1, none⟩ = some (.int .i64 ay) ∧ w'.cell? ⟨w.heap.size + 1, 0, none⟩ = some (.int .i64 bx) ∧ w'.cell? ⟨w.heap.size + 1, 1, none⟩ = some (.int .i64 bya) ∧ w'.cell? ⟨w.heap.size + 1 + 1, 0, none⟩ = some (.int .i64 cx) ∧ w'.cell? ⟨w.heap.size + 1 + 1, 1, none⟩ = some (.int .i64 cy) ∧ w'.cell? ⟨w.heap.size + 1 + 1 + 1, 0, none⟩ = some (.int .i64 dx) ∧ w'.cell? ⟨w.heap.size + 1 + 1 + 1, 1, none⟩ = some (.int .i64 dy)) (assumption)
    (first | (go_at_call 17; refine (SQ.out _ _ _ _ _ (by assumption)).mono ?_; rintro e w3a ⟨rfl, hb6⟩; have HB6 : Hid (Below W1.heap.size W1 w3a) := hid (HB2.out.drew.trans (hb6.mono HB2.out.size)); have HK := KEEP.out w3a HB6.out; clear hb6) | (go_at_call 23; refine (TN.out _ _ _ _ _ _ _ (by assumption)).mono ?_; rintro e w3 ⟨rfl, hb6⟩; have HB7 : Hid (Below W1.heap.size W1 w3) := hid (HB6.out.trans (hb6.mono HB6.out.size)); have HK2 := KEEP.out w3 HB7.out; clear hb6))
  have START := KEEP.out w3.drew HB7.out.drew
  have HB3 := HB7
  clear HK HK2 HB6 HB7 HB2
  go_wp2_with fail
  go_region_held3 (fun w' => w'.cell? ⟨w.heap.size, 0, none⟩ = some (.int .i64 ax) ∧ w'.cell? ⟨w.heap.size, 1, none⟩ = some (.int .i64 ay) ∧ w'.cell? ⟨w.heap.size + 1, 0, none⟩ = some (.int .i64 bx) ∧ w'.cell? ⟨w.heap.size + 1, 1, none⟩ = some (.int .i64 bya) ∧ w'.cell? ⟨w.heap.size + 1 + 1, 0, none⟩ = some (.int .i64 cx) ∧ w'.cell? ⟨w.heap.size + 1 + 1, 1, none⟩ = some (.int .i64 cy) ∧ w'.cell? ⟨w.heap.size + 1 + 1 + 1, 0, none⟩ = some (.int .i64 dx) ∧ w'.cell? ⟨w.heap.size + 1 + 1 + 1, 1, none⟩ = some (.int .i64 dy)) (assumption)
    (first | (go_at_call 17; refine (SQ.out _ _ _ _ _ (by assumption)).mono ?_; rintro e w4a ⟨rfl, hb6⟩; have HB6 : Hid (Below W1.heap.size W1 w4a) := hid (HB3.out.drew.trans (hb6.mono HB3.out.size)); have HK := KEEP.out w4a HB6.out; clear hb6) | (go_at_call 23; refine (TN.out _ _ _ _ _ _ _ (by assumption)).mono ?_; rintro e w4 ⟨rfl, hb6⟩; have HB7 : Hid (Below W1.heap.size W1 w4) := hid (HB6.out.trans (hb6.mono HB6.out.size)); have HK2 := KEEP.out w4 HB7.out; clear hb6))
  clear HK HK2 START
  go_wp2_with fail
  go_ret
  exact ⟨rfl, B1.out.trans (HB7.out.mono B1.out.size)⟩

/-- All fours whose least three are these, as far as the fourth goes. -/
def Fr (px py : Nat → Int) (i j k m : Nat) : Prop := ∀ r, r < m → Geo.Wn px py i j k r ≠ 0

set_option maxRecDepth 100000 in
set_option maxHeartbeats 4000000 in
theorem unique_any (px py : Nat → Int) (n g cap : Nat) (w : World) (hp : Pts w g 0 n px py) (hn : n ≤ 40) (hbd : Bds n px py) :
    Calls Tryz.prog 20 #[.slice (some ⟨g, 0, none⟩) n cap] w fun e w' => (∃ b : Bool, e = .returned (.bool b) ∧ (b = true → Geo.Free px py n)) ∧ Below w.heap.size w w' := by
  have HP := hid hp
  have HBD := hid hbd
  have CI := hid circle_any
  clear hp hbd
  go_enter Tryz.func20, Tryz.ntmps20
  go_wp2
  go_loopw [3] (fun i wr => ∃ k : Nat, k ≤ n ∧ i = .int .i64 k ∧ Hid (∀ i j k' m, i < k → j < i → k' < j → m < k' → Geo.Wn px py i j k' m ≠ 0) ∧ Hid (Below w.heap.size w wr)) (fun i _ => n - (intOf i).toNat)
  case atStart => exact ⟨0, Nat.zero_le _, rfl, hid (fun i j k m h => by omega), hid (Below.refl _ _)⟩
  case round =>
    obtain ⟨i, hi, rfl, F1, HB⟩ := hrel
    by_cases hin : i < n
    · have hin' : (i : Int) < n := by omega
      obtain ⟨W0, rfl⟩ : ∃ W0, W0 = wr := ⟨wr, rfl⟩
      go_wp2
      go_loopw [4] (fun j wr => ∃ k : Nat, k ≤ i ∧ j = .int .i64 k ∧ Hid (∀ j k' m, j < k → k' < j → m < k' → Geo.Wn px py i j k' m ≠ 0) ∧ Hid (Below w.heap.size w wr)) (fun j _ => i - (intOf j).toNat)
      case atStart => exact ⟨0, Nat.zero_le _, rfl, hid (fun j k m h => by omega), HB⟩
      case round =>
        clear HB
        obtain ⟨j, hj, rfl, F2, HB⟩ := hrel
        by_cases hji : j < i
        · have hji' : (j : Int) < i := by omega
          obtain ⟨W0, rfl⟩ : ∃ W0, W0 = wr := ⟨wr, rfl⟩
          go_wp2
          go_loopw [5] (fun k wr => ∃ k' : Nat, k' ≤ j ∧ k = .int .i64 k' ∧ Hid (∀ k m, k < k' → m < k → Geo.Wn px py i j k m ≠ 0) ∧ Hid (Below w.heap.size w wr)) (fun k _ => j - (intOf k).toNat)
          case atStart => exact ⟨0, Nat.zero_le _, rfl, hid (fun k m h => by omega), HB⟩
          case round =>
            clear HB
            obtain ⟨k, hk, rfl, F3, HB⟩ := hrel
            by_cases hkj : k < j
            · have hkj' : (k : Int) < j := by omega
              obtain ⟨W0, rfl⟩ : ∃ W0, W0 = wr := ⟨wr, rfl⟩
              go_wp2
              go_loopw [6] (fun m wr => ∃ m' : Nat, m' ≤ k ∧ m = .int .i64 m' ∧ Hid (Fr px py i j k m') ∧ Hid (Below w.heap.size w wr)) (fun m _ => k - (intOf m).toNat)
              case atStart => exact ⟨0, Nat.zero_le _, rfl, hid (fun r h => by omega), HB⟩
              case round =>
                clear HB
                obtain ⟨m, hm, rfl, F4, HB⟩ := hrel
                by_cases hmk : m < k
                · have hmk' : (m : Int) < k := by omega
                  have hjn : j < n := by omega
                  have hkn : k < n := by omega
                  have hmn : m < n := by omega
                  have hjn' : (j : Int) < n := by omega
                  have hkn' : (k : Int) < n := by omega
                  have hmn' : (m : Int) < n := by omega
                  have hpw := HP.out.below HB.out HP.out.lt
                  have cx : ∀ j, j < n → wr.cell? ⟨g, j * 2, none⟩ = some (.int .i64 (px j)) := fun j hj => by have := hpw.x j hj; rwa [Nat.zero_add] at this
                  have cy : ∀ j, j < n → wr.cell? ⟨g, j * 2 + 1, none⟩ = some (.int .i64 (py j)) := fun j hj => by have := hpw.y j hj; rwa [Nat.zero_add] at this
                  have gl := hpw.lt
                  have B8 : Bd8 (px i) (py i) (px j) (py j) (px k) (py k) (px m) (py m) := ⟨bd4 HBD.out hin hjn, bd4 HBD.out hkn hmn⟩
                  have KEEP : Hid (∀ W, Below wr.heap.size wr W → W.cell? ⟨g, i * 2, none⟩ = some (.int .i64 (px i)) ∧ W.cell? ⟨g, i * 2 + 1, none⟩ = some (.int .i64 (py i)) ∧ W.cell? ⟨g, j * 2, none⟩ = some (.int .i64 (px j)) ∧ W.cell? ⟨g, j * 2 + 1, none⟩ = some (.int .i64 (py j)) ∧ W.cell? ⟨g, k * 2, none⟩ = some (.int .i64 (px k)) ∧ W.cell? ⟨g, k * 2 + 1, none⟩ = some (.int .i64 (py k)) ∧ W.cell? ⟨g, m * 2, none⟩ = some (.int .i64 (px m)) ∧ W.cell? ⟨g, m * 2 + 1, none⟩ = some (.int .i64 (py m))) := hid fun W hW => ⟨(hW.cell (by exact gl)).trans (cx i hin), (hW.cell (by exact gl)).trans (cy i hin), (hW.cell (by exact gl)).trans (cx j hjn), (hW.cell (by exact gl)).trans (cy j hjn), (hW.cell (by exact gl)).trans (cx k hkn), (hW.cell (by exact gl)).trans (cy k hkn), (hW.cell (by exact gl)).trans (cx m hmn), (hW.cell (by exact gl)).trans (cy m hmn)⟩
                  have START := KEEP.out wr.drew (Below.refl _ _).drew
                  have q1 : (0 : Int) ≤ (i : Int) := by omega
                  have q2 : (0 : Int) ≤ (j : Int) := by omega
                  have q3 : (0 : Int) ≤ (k : Int) := by omega
                  have q4 : (0 : Int) ≤ (m : Int) := by omega
                  clear cx cy hpw
                  go_wp2_with fail
                  go_region_held3 (fun W => W.cell? ⟨g, i * 2, none⟩ = some (.int .i64 (px i)) ∧ W.cell? ⟨g, i * 2 + 1, none⟩ = some (.int .i64 (py i)) ∧ W.cell? ⟨g, j * 2, none⟩ = some (.int .i64 (px j)) ∧ W.cell? ⟨g, j * 2 + 1, none⟩ = some (.int .i64 (py j)) ∧ W.cell? ⟨g, k * 2, none⟩ = some (.int .i64 (px k)) ∧ W.cell? ⟨g, k * 2 + 1, none⟩ = some (.int .i64 (py k)) ∧ W.cell? ⟨g, m * 2, none⟩ = some (.int .i64 (px m)) ∧ W.cell? ⟨g, m * 2 + 1, none⟩ = some (.int .i64 (py m))) (assumption)
                    ((go_at_call 32; refine (CI.out _ _ _ _ _ _ _ _ _ (by assumption)).mono ?_; rintro e w6 ⟨rfl, hb6⟩; have HB6 : Hid (Below wr.heap.size wr w6) := hid ((Below.refl _ _).drew.trans hb6); have HK := KEEP.out w6 HB6.out; clear hb6))
                  clear HK START
                  have HBF := hid (HB.out.trans (HB6.out.mono HB.out.size))
                  have HW : Hid (circI (px i) (py i) (px j) (py j) (px k) (py k) (px m) (py m) = Geo.Wn px py i j k m) := hid (circ_Wn px py i j k m)
                  obtain ⟨cv, hcv⟩ : ∃ cv, cv = circI (px i) (py i) (px j) (py j) (px k) (py k) (px m) (py m) := ⟨_, rfl⟩
                  rw [← hcv] at HW ⊢
                  clear hcv HB6 KEEP HB
                  by_cases hz : cv = 0
                  · have dz : (cv == 0) = true := by simpa using hz
                    clear hz
                    go_wp2_with fail
                    go_ret
                    exact ⟨⟨false, rfl, fun h => by cases h⟩, HBF.out⟩
                  · have dz : (cv == 0) = false := by simpa using hz
                    have FF : Hid (Fr px py i j k (m + 1)) := hid fun r hr => by
                      rcases Nat.lt_or_ge r m with q | q
                      · exact F4.out r q
                      · have : r = m := by omega
                        subst this
                        rw [← HW.out]; exact hz
                    clear hz
                    go_wp2_with fail
                    go_roundw
                    case rel => exact ⟨m + 1, by omega, by go_num, FF, HBF⟩
                    case measure => simp [intOf]; omega
                · have hmm : m = k := by omega
                  subst hmm
                  go_wp2_with fail
                  go_roundw
                  case rel =>
                    refine ⟨m + 1, by omega, by go_num, hid (fun k m' h1 h2 => ?_), HB⟩
                    rcases Nat.lt_or_ge k m with q | q
                    · exact F3.out k m' q h2
                    · have : k = m := by omega
                      subst this; exact F4.out m' h2
                  case measure => simp [intOf]; omega
            · have hkk : k = j := by omega
              subst hkk
              go_wp2_with fail
              go_roundw
              case rel =>
                refine ⟨k + 1, by omega, by go_num, hid (fun j k' m h1 h2 h3 => ?_), HB⟩
                rcases Nat.lt_or_ge j k with q | q
                · exact F2.out j k' m q h2 h3
                · have : j = k := by omega
                  subst this; exact F3.out k' m h2 h3
              case measure => simp [intOf]; omega
        · have hjj : j = i := by omega
          subst hjj
          go_wp2_with fail
          go_roundw
          case rel =>
            refine ⟨j + 1, by omega, by go_num, hid (fun i' j' k m h1 h2 h3 h4 => ?_), HB⟩
            rcases Nat.lt_or_ge i' j with q | q
            · exact F1.out i' j' k m q h2 h3 h4
            · have : i' = j := by omega
              subst this; exact F2.out j' k m h2 h3 h4
          case measure => simp [intOf]; omega
    · have hii : i = n := by omega
      subst hii
      go_wp2_with fail
      go_ret
      exact ⟨⟨true, rfl, fun _ => Geo.free_of F1.out⟩, HB.out⟩
end Go.Proofs.YtdbebbbceeopaaaGreat

set_option linter.unusedSimpArgs false
namespace Go.Proofs.YtdbebbbceeopaaaGreat
open Go.RowKit
open Geo (rv rv_rv rv_lt)

theorem refI_mk {px py : Nat → Int} {n : Nat} (hb : Bds n px py) (hne : Geo.Inj px py n) (hw : ∃ i, i < n ∧ T px py 0 1 i ≠ 0) : refI px py n = 0 := by
  have hA : allB px py n = true := by
    rw [allB_iff]
    intro i hi
    rw [near_iff, near_iff]
    exact hb i hi
  have hT : twB px py n = false := by
    cases hc : twB px py n with
    | false => rfl
    | true =>
      obtain ⟨i, hi, hc⟩ := (twB_iff _ _ _).1 hc
      obtain ⟨j, hj, e⟩ := (twiceAt_iff _ _ _).1 hc
      have := hne i j hi (by omega) (by first | exact e.1 | exact e.1.symm) (by first | exact e.2 | exact e.2.symm)
      omega
  have hF : flatB px py (n - 2) = false := by
    obtain ⟨i, hi, h⟩ := hw
    have i0 : i ≠ 0 := by rintro rfl; exact h (Geo.T_one _ _)
    have i1 : i ≠ 1 := by rintro rfl; exact h (Geo.T_two _ _)
    obtain ⟨k, rfl⟩ : ∃ k, i = k + 2 := ⟨i - 2, by omega⟩
    exact flatB_false _ _ _ k (by omega) h
  simp [refI, hA, hT, hF]

/-- What Moved knows of its points. -/
structure Few (n : Nat) (px py : Nat → Int) : Prop where
  len : 3 ≤ n
  len' : n ≤ 12
  bd : ∀ i, i < n → (0 ≤ px i ∧ px i ≤ 407) ∧ (0 ≤ py i ∧ py i ≤ 407)
  inj : Geo.Inj px py n
  wide : T px py 0 1 2 ≠ 0

theorem Sett.few {n m : Nat} {px py : Nat → Int} (h : Sett n px py) (h3 : 3 ≤ m) (h12 : m ≤ 12) (hm : m ≤ n) : Few m px py :=
  ⟨h3, h12, fun i hi => h.bd i (by omega), fun i j hi hj e1 e2 => Classical.byContradiction fun k => h.ne i j (by omega) (by omega) k ⟨e1, e2⟩, h.wide⟩

theorem Few.bds {n : Nat} {px py : Nat → Int} (h : Few n px py) : Bds n px py := fun i hi => by have := h.bd i hi; omega
theorem Few.ref {n : Nat} {px py : Nat → Int} (h : Few n px py) : refI px py n = 0 := refI_mk h.bds h.inj ⟨2, by have := h.len; omega, h.wide⟩

theorem Few.bds_far {n : Nat} {px py : Nat → Int} (h : Few n px py) {x y : Int} (hx : -250 ≤ x ∧ x ≤ 249) (hy : -250 ≤ y ∧ y ≤ 249) : Bds n (fun i => px i + x) (fun i => py i + y) := fun i hi => by
  have := h.bd i hi
  dsimp only
  omega

theorem Few.ref_far {n : Nat} {px py : Nat → Int} (h : Few n px py) {x y : Int} (hx : -250 ≤ x ∧ x ≤ 249) (hy : -250 ≤ y ∧ y ≤ 249) : refI (fun i => px i + x) (fun i => py i + y) n = 0 :=
  refI_mk (h.bds_far hx hy) (fun i j hi hj e1 e2 => h.inj i j hi hj (by have : px i + x = px j + x := e1; omega) (by have : py i + y = py j + y := e2; omega)) ⟨2, by have := h.len; omega, by rw [Geo.T_shift]; exact h.wide⟩

theorem Few.bds_back {n : Nat} {px py : Nat → Int} (h : Few n px py) : Bds n (fun i => px (rv n i)) (fun i => py (rv n i)) := fun i hi => h.bds (rv n i) (rv_lt hi)

theorem Few.ref_back {n : Nat} {px py : Nat → Int} (h : Few n px py) : refI (fun i => px (rv n i)) (fun i => py (rv n i)) n = 0 := by
  have h3 := h.len
  refine refI_mk h.bds_back (fun i j hi hj e1 e2 => ?_) ?_
  · have := h.inj (rv n i) (rv n j) (rv_lt hi) (rv_lt hj) e1 e2
    rw [← rv_rv hi, this, rv_rv hj]
  · rcases Classical.em (∃ i, i < n ∧ T (fun i => px (rv n i)) (fun i => py (rv n i)) 0 1 i ≠ 0) with k | k
    · exact k
    · exfalso
      refine Geo.line_flat (px := px) (py := py) (all := List.range n) (b := rv n 0) (R := rv n 1) ?_ (fun p hp => ?_) ⟨0, by simp; omega, 1, by simp; omega, 2, by simp; omega, h.wide⟩
      · rintro ⟨e1, e2⟩
        have := h.inj (rv n 1) (rv n 0) (rv_lt (by omega)) (rv_lt (by omega)) (by omega) (by omega)
        unfold rv at this
        omega
      · rcases Classical.em (T px py (rv n 0) (rv n 1) p = 0) with q | q
        · exact q
        · exfalso
          have hpn : p < n := List.mem_range.1 hp
          refine k ⟨rv n p, rv_lt hpn, ?_⟩
          unfold T at q ⊢
          simp only [rv_rv hpn]
          exact q

/-- Points in their order, as pairs. -/
def prs (px py : Nat → Int) (k : Nat) : List (Int × Int) := (List.range k).map fun j => (px j, py j)

theorem prs_len (px py : Nat → Int) (k : Nat) : (prs px py k).length = k := by simp [prs]
theorem prs_snoc (px py : Nat → Int) (k : Nat) : prs px py (k + 1) = prs px py k ++ [(px k, py k)] := by simp [prs, List.range_succ]

theorem prs_pts {w : World} {b : Nat} {v : Value} {px py : Nat → Int} {k : Nat} (h : w.ownsRow b 35 2 v k (cellsP (prs px py k))) (hk : 0 < k) : ∃ g cp, v = .slice (some ⟨g, 0, none⟩) k cp ∧ k ≤ cp ∧ Pts w g 0 k px py := by
  have h' : w.ownsRow b 35 2 v (prs px py k).length (cellsP (prs px py k)) := by rw [prs_len]; exact h
  obtain ⟨g, cp, e, hgb, hgl, hcp, hc⟩ := shape33 h' (by rw [prs_len]; exact hk)
  rw [prs_len] at e hcp
  refine ⟨g, cp, e, hcp, hgl, fun i hi => ?_, fun i hi => ?_⟩
  · have := (hc i (by rw [prs_len]; exact hi)).1
    rw [Nat.zero_add, this]
    simp [prs]
  · have := (hc i (by rw [prs_len]; exact hi)).2
    rw [Nat.zero_add, this]
    simp [prs]

theorem sideB_true {A B C : Nat → Nat} {a b : Nat} : ∀ {m : Nat}, sideB A B C a b m = true → ∃ i, i < m ∧ hasB A B C i a b = true
  | 0, h => by cases h
  | m + 1, h => by
    unfold sideB at h
    rcases Bool.or_eq_true_iff.1 h with k | k
    · obtain ⟨i, hi, q⟩ := sideB_true k
      exact ⟨i, by omega, q⟩
    · exact ⟨m, by omega, k⟩

/-- Two points are corners of one triangle, if they are joined. -/
theorem side_joined {px py : Nat → Int} {n : Nat} {M : Nat → Nat → Option Nat} {d : Array T3} (hm : Geo.Mesh px py n M) (hT : Tris M d) {i k : Nat} (hne : i ≠ k) : sideB (dA d) (dB d) (dC d) i k d.size = true ↔ Joined M i k := by
  constructor
  · intro h
    obtain ⟨j, hj, q⟩ := sideB_true h
    have e := (hT.lists.tri j hj).1
    have e2 := hm.cyc _ _ _ e
    have e3 := hm.cyc _ _ _ e2
    unfold hasB at q
    simp only [Bool.and_eq_true, Bool.or_eq_true, beq_iff_eq] at q
    unfold Joined
    obtain ⟨q1, q2⟩ := q
    rcases q1 with (q1 | q1) | q1 <;> rcases q2 with (q2 | q2) | q2 <;> first
      | exact absurd (q1.symm.trans q2) hne
      | (left; rw [← q1, ← q2]; first | (rw [e]; simp; done) | (rw [e2]; simp; done) | (rw [e3]; simp; done))
      | (right; rw [← q1, ← q2]; first | (rw [e]; simp; done) | (rw [e2]; simp; done) | (rw [e3]; simp; done))
  · have key : ∀ a c, M a c ≠ none → ((a = i ∧ c = k) ∨ (a = k ∧ c = i)) → sideB (dA d) (dB d) (dC d) i k d.size = true := by
      intro a c hn hac
      cases e : M a c with
      | none => exact absurd e hn
      | some z =>
        obtain ⟨j, hj, q⟩ := hT.lists.has hm e
        refine sideB_of hj ?_
        unfold hasB
        rcases hac with ⟨rfl, rfl⟩ | ⟨rfl, rfl⟩ <;> rcases q with ⟨q1, q2, q3⟩ | ⟨q1, q2, q3⟩ | ⟨q1, q2, q3⟩ <;> simp [q1, q2, q3]
    rintro (h | h)
    · exact key i k h (.inl ⟨rfl, rfl⟩)
    · exact key k i h (.inr ⟨rfl, rfl⟩)

theorem bool_iff {a b : Bool} (h : a = true ↔ b = true) : a = b := by
  cases a <;> cases b <;> simp_all

end Go.Proofs.YtdbebbbceeopaaaGreat

set_option linter.unusedSimpArgs false
namespace Go.Proofs.YtdbebbbceeopaaaGreat
open Go.RowKit Go.Maps
open Geo (up bad Wg Mesh Cor Quad flipM Inj)

/-- A row of lines: two cells each. -/
def Lns (w : World) (a : Option Addr) (xs : List (Nat × Nat)) : Prop := xs = [] ∨ ∃ g o, a = some ⟨g, o, none⟩ ∧ g < w.heap.size ∧ ∀ i, (hi : i < xs.length) → w.cell? ⟨g, o + i * 2, none⟩ = some (.int .i64 (xs[i].1 : Nat)) ∧ w.cell? ⟨g, o + i * 2 + 1, none⟩ = some (.int .i64 (xs[i].2 : Nat))

theorem Lns.below {w w' : World} {a : Option Addr} {xs : List (Nat × Nat)} (h : Lns w a xs) (hb : Below w.heap.size w w') : Lns w' a xs := by
  rcases h with h | ⟨g, o, e, hg, hc⟩
  · exact .inl h
  · exact .inr ⟨g, o, e, Nat.lt_of_lt_of_le hg hb.size, fun i hi => ⟨(hb.cell (by exact hg)).trans (hc i hi).1, (hb.cell (by exact hg)).trans (hc i hi).2⟩⟩

set_option maxRecDepth 100000 in
set_option maxHeartbeats 8000000 in
theorem drawAll_any (mb bm pb po n cap lcap : Nat) (px py : Nat → Int) (M0 : Nat → Nat → Option Nat) (la : Option Addr) (xs : List (Nat × Nat)) (w : World) (hn : n ≤ 40) (hM : MeshAt w mb bm 1600 pb po n cap px py M0 (.slice none 0 0) []) (hm0 : Mesh px py n M0) (hc0 : Cor n M0) (hinj : Inj px py n) (hmp : mb ≠ pb)
    (hl : Lns w la xs) (hlen : xs.length ≤ 100) (hok : Lok px py n xs) :
    Calls Tryz.prog 42 #[.pointer (some ⟨mb, 0, none⟩), .slice la xs.length lcap] w fun e w' => e = .returned (.tuple #[]) ∧
      ∃ M lv ls, MeshAt w' mb bm 1600 pb po n cap px py M lv ls ∧ Dm w w' mb bm (.slice none 0 0) lv ∧ Mesh px py n M ∧ Cor n M ∧ Geo.Reach px py n M0 M ∧ ls.length ≤ 100 ∧ (∀ x ∈ ls, Joined M x.1 x.2) ∧ (∀ x ∈ xs, up x.1 x.2 ∈ ls) ∧ ∀ y ∈ ls, ∃ x ∈ xs, y = up x.1 x.2 := by
  obtain ⟨hb, hhb⟩ : ∃ hb, hb = w.heap.size + 1 := ⟨_, rfl⟩
  have HHB := hid hhb
  obtain ⟨W1, hW1⟩ : ∃ W1, W1 = (w.alloc (.cells #[] 110)).alloc (.cells #[.slice (some ⟨w.heap.size, 0, none⟩) 0 0] 107) := ⟨_, rfl⟩
  have B1 : Hid (Below w.heap.size w W1) := hid (by rw [hW1]; exact ((Below.refl _ _).alloc (Nat.le_refl _) _).alloc (by simp) _)
  have S1 : Hid (W1.heap.size = w.heap.size + 2) := hid (by rw [hW1]; simp)
  have G0 : Hid (W1.heap[w.heap.size]? = some (.cells #[] 110 (0, 0))) := hid (by
    rw [hW1]
    rw [Below.heap_alloc _ _ _ (by simp)]
    exact heap_new w (.cells #[] 110))
  have K1 : Hid (W1.heap[hb]? = some (.cells #[.slice (some ⟨w.heap.size, 0, none⟩) 0 0] 107 (0, 0))) := hid (by
    rw [hW1, HHB.out]
    have := heap_new (w.alloc (.cells #[] 110)) (.cells #[.slice (some ⟨w.heap.size, 0, none⟩) 0 0] 107)
    rw [size_new] at this
    exact this)
  have HP1 : Hid (Hp W1 hb []) := hid (Hp.of (heap_cell K1.out 0) ⟨rfl, .inr ⟨w.heap.size, 0, #[], rfl, by have := HHB.out; omega, G0.out, Nat.le_refl _, by unfold maxLen; omega, rfl, rfl⟩⟩ (heap_free K1.out 0) (by intro e; have h : w.heap.size = hb := Option.some.inj e; have := HHB.out; omega))
  have HM := hid hM
  have HL := hid hl
  have HOK := hid hok
  have m1 : mb < w.heap.size := World.block_lt_of_cell? w _ hM.c0
  have m2 : bm < w.heap.size := hM.map.lt
  have m3 : pb < w.heap.size := hM.plc.lt
  obtain ⟨k, hk⟩ : ∃ k, k = xs.length := ⟨_, rfl⟩
  have HK := hid hk
  rw [← hk] at hlen ⊢
  clear hM hl hok hk K1 G0
  go_enter Tryz.func42, Tryz.ntmps42
  go_wp2_with fail
  rw [← hW1, ← hhb]
  clear hW1 hhb
  go_loopw [11] (fun ix wr => ∃ (i : Nat) (l : List (Nat × Nat)), i ≤ k ∧ ix = .int .i64 i ∧ l.length = i ∧ Hid (Hp wr hb l) ∧ Hid (∀ y ∈ l, ∃ x ∈ xs, y = up x.1 x.2) ∧ Hid (∀ r, (hr : r < xs.length) → r < i → up xs[r].1 xs[r].2 ∈ l) ∧ Hid (Below w.heap.size w wr)) (fun ix _ => k - (intOf ix).toNat)
  case atStart => exact ⟨0, [], Nat.zero_le _, rfl, rfl, HP1, hid (fun y hy => by cases hy), hid (fun r _ hr => by omega), B1⟩
  case round =>
    obtain ⟨i, l, hi, rfl, hll, HP, HY, HX, HB⟩ := hrel
    clear HP1 B1
    by_cases hik : i < k
    · have hik' : (i : Int) < k := by omega
      have hix : i < xs.length := by rw [← HK.out]; exact hik
      obtain ⟨lg, lo, hla, hlg, hlc⟩ : ∃ lg lo, la = some ⟨lg, lo, none⟩ ∧ lg < w.heap.size ∧ (w.cell? ⟨lg, lo + i * 2, none⟩ = some (.int .i64 (xs[i].1 : Nat)) ∧ w.cell? ⟨lg, lo + i * 2 + 1, none⟩ = some (.int .i64 (xs[i].2 : Nat))) := by
        rcases HL.out with h | ⟨g, o, e, h1, h2⟩
        · rw [h] at hix; simp at hix
        · exact ⟨g, o, e, h1, h2 i hix⟩
      subst hla
      have xc := (HB.out.cell (p := ⟨lg, lo + i * 2, none⟩) hlg).trans hlc.1
      have yc := (HB.out.cell (p := ⟨lg, lo + i * 2 + 1, none⟩) hlg).trans hlc.2
      have HUP : Hid (∃ x ∈ xs, up xs[i].1 xs[i].2 = up x.1 x.2) := hid ⟨xs[i], List.getElem_mem hix, rfl⟩
      have HXI : Hid (∀ z, z = up xs[i].1 xs[i].2 → ∀ r, (hr : r < xs.length) → r < i + 1 → up xs[r].1 xs[r].2 ∈ z :: l) := hid (fun z hz r hr hri => by
        rcases Nat.lt_or_ge r i with q | q
        · exact List.mem_cons_of_mem _ (HX.out r hr q)
        · have : r = i := by omega
          subst this; rw [hz]; exact List.mem_cons_self)
      obtain ⟨u, hu⟩ : ∃ u, u = xs[i].1 := ⟨_, rfl⟩
      obtain ⟨v, hv⟩ : ∃ v, v = xs[i].2 := ⟨_, rfl⟩
      rw [← hu] at xc HUP HXI
      rw [← hv] at yc HUP HXI
      have HXJ := hid (HXI.out _ rfl)
      clear hu hv hlc HXI
      obtain ⟨W2, hW2⟩ : ∃ W2, W2 = wr.alloc (.cells #[.int .i64 (u : Nat), .int .i64 (v : Nat)] 54) := ⟨_, rfl⟩
      have B2 : Hid (Below wr.heap.size wr W2) := hid (by rw [hW2]; exact (Below.refl _ _).alloc (Nat.le_refl _) _)
      have HP2 := hid (HP.out.below B2.out (Nat.le_refl _))
      have WA := hid (wait_any hb u v l W2 HP2.out (by omega))
      have HB2 : Hid (Below w.heap.size w W2) := hid (HB.out.trans (B2.out.mono HB.out.size))
      have q1 : (0 : Int) ≤ (i : Int) := by omega
      go_wp2_with fail
      rw [← hW2]
      refine WA.out.mono ?_
      rintro e w3 ⟨rfl, ⟨l', hp3, hpm⟩, hf3⟩
      have HP3 := hid hp3
      have HB3 : Hid (Below w.heap.size w w3) := hid (HB2.out.trans (hf3.belowB HP2.out (by have := HHB.out; omega) HB2.out.size))
      have HY3 : Hid (∀ y ∈ l', ∃ x ∈ xs, y = up x.1 x.2) := hid (fun y hy => by
        rcases List.mem_cons.1 (hpm.mem_iff.1 hy) with rfl | hy
        · exact HUP.out
        · exact HY.out y hy)
      have HX3 : Hid (∀ r, (hr : r < xs.length) → r < i + 1 → up xs[r].1 xs[r].2 ∈ l') := hid (fun r hr hri => hpm.mem_iff.2 (HXJ.out r hr hri))
      have hl3 : l'.length = i + 1 := by rw [hpm.length_eq, List.length_cons, hll]
      clear hp3 hf3 hpm hW2 WA xc yc
      go_wp2_with fail
      go_roundw
      case rel => exact ⟨i + 1, l', by omega, by go_num, hl3, HP3, HY3, HX3, HB3⟩
      case measure => simp [intOf]; omega
    · have hii : k = i := by omega
      subst hii
      have HXX : Hid (∀ x ∈ xs, up x.1 x.2 ∈ l) := hid (fun x hx => by
        obtain ⟨r, hr, rfl⟩ := List.getElem_of_mem hx
        exact HX.out r hr (by rw [HK.out]; exact hr))
      have D0 : Hid (Dw w wr hb mb bm pb po n cap px py M0 M0 (.slice none 0 0) [] l) := hid ⟨HP.out, (HM.out.belowB HB.out m1 m2 m3 (fun g e => by cases e)), fun q e => (by cases e), ⟨HB.out.os, HB.out.tape, HB.out.output, HB.out.size, fun k hk _ _ _ => HB.out.block k hk, fun k hk e => e⟩, hm0, hc0, .refl, fun x hx => by cases hx⟩
      clear HX HP HB HM hm0 hc0
      go_wp2_with fail
      clear HL HK
      go_loopw [23] (fun _ wr => ∃ (M : Nat → Nat → Option Nat) (lv : Value) (ls l : List (Nat × Nat)), Hid (Dw w wr hb mb bm pb po n cap px py M0 M lv ls l) ∧ ls.length + l.length = k ∧ Hid (∀ y ∈ l, ∃ x ∈ xs, y = up x.1 x.2) ∧ Hid (∀ y ∈ ls, ∃ x ∈ xs, y = up x.1 x.2) ∧ Hid (∀ x ∈ xs, up x.1 x.2 ∈ ls ∨ up x.1 x.2 ∈ l)) (fun _ wr => lenW wr hb)
      case atStart => exact ⟨M0, _, [], l, D0, by simp [hll], HY, hid (fun y hy => by cases hy), hid (fun x hx => .inr (HXX.out x hx))⟩
      case round =>
        clear D0 HY HXX hll
        obtain ⟨M, lv, ls, l, HD, hlen2, HY, HZ, HE⟩ := hrel
        obtain ⟨v, c0, ho⟩ := HD.out.hp.ex
        obtain ⟨a1, c1, hv⟩ := owns_len2 ho
        subst hv
        have HLN := hid (len_any a1 l.length c1 wr)
        clear ho
        by_cases hl0 : l.length = 0
        · have hle : l = [] := List.eq_nil_of_length_eq_zero hl0
          rw [hl0] at c0 HLN
          have FIN : Hid (∀ x ∈ xs, up x.1 x.2 ∈ ls) := hid (fun x hx => by
            rcases HE.out x hx with h | h
            · exact h
            · rw [hle] at h; cases h)
          clear hle
          go_wp2_with fail
          refine HLN.out.mono ?_
          rintro e w1 ⟨rfl, rfl⟩
          go_wp2_with fail
          go_end0
          exact ⟨rfl, M, lv, ls, HD.out.me, HD.out.fr, HD.out.mesh, HD.out.cor, HD.out.re, by omega, HD.out.jo, FIN.out, HZ.out⟩
        · have hd : decide ((0 : Int) < (l.length : Int)) = true := by simp; omega
          have NX := hid (next_any hb l wr HD.out.hp (by omega) (by omega))
          go_wp2_with fail
          refine HLN.out.mono ?_
          rintro e w1 ⟨rfl, rfl⟩
          go_wp2_with fail
          refine NX.out.mono ?_
          rintro e w2 ⟨⟨x, l1, rfl, hp2, hpm⟩, hf2⟩
          have HD2 := hid (HD.out.next HHB.out m1 m2 m3 hp2 hf2)
          have LW : Hid (lenW w1 hb = l.length) := hid (lenW_eq HD.out.hp)
          have hl1 : l.length = l1.length + 1 := by rw [hpm.length_eq]; rfl
          obtain ⟨x0, hx0, ex0⟩ := HY.out x (hpm.mem_iff.2 List.mem_cons_self)
          have lx := HOK.out.lt x0 hx0
          have ux : x.1 < n ∧ x.2 < n ∧ x.1 ≠ x.2 := by
            rw [ex0]
            rcases up_is x0.1 x0.2 with h | h <;> rw [h] <;> dsimp only <;> omega
          have bx : ∀ p, p < n → betwB px py x.1 x.2 p = false := fun p hp => by rw [ex0, betwB_up]; exact HOK.out.betw x0 hx0 p hp
          have cx : ∀ y ∈ ls, crossB px py x.1 x.2 y.1 y.2 = false := fun y hy => by
            obtain ⟨y0, hy0, ey0⟩ := HZ.out y hy
            rw [ex0, ey0, crossB_up]
            exact HOK.out.cross x0 hx0 y0 hy0
          have nlp : lv.ownBlock ≠ some pb := fun e => by have := (HD.out.ap pb e).1; omega
          have DR := hid (draw_any mb bm pb po n cap x.1 x.2 px py M lv ls (fun M => Geo.Reach px py n M0 M ∧ ∀ y ∈ ls, Joined M y.1 y.2) w2 hn HD2.out.me (by omega) HD2.out.mesh HD2.out.cor ⟨HD2.out.re, HD2.out.jo⟩ ux.1 ux.2.1 hmp nlp
            (fun M a b c d hm q hx hk => ⟨.flip hk.1 hm q, fun y hy => joined_flip (hk.2 y hy) (fun e => by rw [← e.1, ← e.2, cx y hy] at hx; cases hx) (fun e => by rw [crossB_symm, ← e.1, ← e.2, cx y hy] at hx; cases hx)⟩))
          have HUX := hid ux
          have HBX := hid bx
          have HPM := hid hpm
          have HX0 := hid (⟨x0, hx0, ex0⟩ : ∃ x0 ∈ xs, x = up x0.1 x0.2)
          clear hp2 hpm hf2 c0 NX HLN ex0 hx0 lx ux bx cx nlp HD
          go_wp2_with fail
          refine DR.out.mono ?_
          rintro e w3 ⟨rfl, M', lv', hM3, hd3, hm3, hc3, hk3, hbad⟩
          have HJ := drawn hm3 hinj hc3 HUX.out.1 HUX.out.2.1 HUX.out.2.2 HBX.out hbad
          have HD3 := hid (HD2.out.draw HHB.out m1 m2 hM3 hd3 hm3 hc3 hk3.1 hk3.2 HJ)
          have LW3 : Hid (lenW w3 hb = l1.length) := hid (lenW_eq HD3.out.hp)
          clear hM3 hd3 hm3 hc3 hk3 hbad HJ DR HD2
          go_wp2_with fail
          go_roundw
          case rel =>
            refine ⟨M', lv', ls ++ [x], l1, HD3, by simp; omega, hid (fun y hy => HY.out y (HPM.out.mem_iff.2 (List.mem_cons_of_mem _ hy))), hid (fun y hy => ?_), hid (fun z hz => ?_)⟩
            · rcases List.mem_append.1 hy with h | h
              · exact HZ.out y h
              · simp at h; subst h; exact HX0.out
            · rcases HE.out z hz with h | h
              · exact .inl (List.mem_append_left _ h)
              · rcases List.mem_cons.1 (HPM.out.mem_iff.1 h) with h | h
                · exact .inl (List.mem_append_right _ (by rw [h]; simp))
                · exact .inr h
          case measure => rw [LW3.out, LW.out]; omega
end Go.Proofs.YtdbebbbceeopaaaGreat

set_option linter.unusedSimpArgs false
namespace Go.Proofs.YtdbebbbceeopaaaGreat
open Go.RowKit Go.Maps

/-- A row of lines as they come in: two numbers each. -/
def LnI (w : World) (a : Option Addr) (xs : List (Int × Int)) : Prop := xs = [] ∨ ∃ g o, a = some ⟨g, o, none⟩ ∧ g < w.heap.size ∧ ∀ i, (hi : i < xs.length) → w.cell? ⟨g, o + i * 2, none⟩ = some (.int .i64 xs[i].1) ∧ w.cell? ⟨g, o + i * 2 + 1, none⟩ = some (.int .i64 xs[i].2)

theorem LnI.below {w w' : World} {a : Option Addr} {xs : List (Int × Int)} (h : LnI w a xs) (hb : Below w.heap.size w w') : LnI w' a xs := by
  rcases h with h | ⟨g, o, e, hg, hc⟩
  · exact .inl h
  · exact .inr ⟨g, o, e, Nat.lt_of_lt_of_le hg hb.size, fun i hi => ⟨(hb.cell (by exact hg)).trans (hc i hi).1, (hb.cell (by exact hg)).trans (hc i hi).2⟩⟩

/-- Is a line one of two different points? -/
def Jn (n : Nat) (x : Int × Int) : Prop := (0 ≤ x.1 ∧ x.1 < n) ∧ (0 ≤ x.2 ∧ x.2 < n) ∧ x.1 ≠ x.2

/-- What allJoinTwo answers. -/
def JnR (n : Nat) (xs : List (Int × Int)) (e : Ending) : Prop := ∃ b : Bool, e = .returned (.bool b) ∧ (b = true ↔ ∀ x ∈ xs, Jn n x)

set_option maxRecDepth 100000 in
set_option maxHeartbeats 4000000 in
theorem allJoin_any (n cap lcap : Nat) (pa la : Option Addr) (xs : List (Int × Int)) (w : World) (hl : LnI w la xs) (hk : xs.length ≤ 1000000) :
    Calls Tryz.prog 69 #[.slice pa n cap, .slice la xs.length lcap] w fun e w' => JnR n xs e ∧ Below w.heap.size w w' := by
  have HL := hid hl
  obtain ⟨k, hkk⟩ : ∃ k, k = xs.length := ⟨_, rfl⟩
  have HK := hid hkk
  rw [← hkk] at hk ⊢
  clear hl hkk
  go_enter Tryz.func69, Tryz.ntmps69
  go_wp2_with fail
  go_loopw [9] (fun ix wr => ∃ i : Nat, i ≤ k ∧ ix = .int .i64 i ∧ Hid (∀ r, (hr : r < xs.length) → r < i → Jn n xs[r]) ∧ Hid (Below w.heap.size w wr)) (fun ix _ => k - (intOf ix).toNat)
  case atStart => exact ⟨0, Nat.zero_le _, rfl, hid (fun r _ h => by omega), hid (Below.refl _ _)⟩
  case round =>
    obtain ⟨i, hi, rfl, HJ, HB⟩ := hrel
    by_cases hik : i < k
    · have hik' : (i : Int) < k := by omega
      have hix : i < xs.length := by rw [← HK.out]; exact hik
      obtain ⟨lg, lo, hla, hlg, hlc⟩ : ∃ lg lo, la = some ⟨lg, lo, none⟩ ∧ lg < w.heap.size ∧ (w.cell? ⟨lg, lo + i * 2, none⟩ = some (.int .i64 xs[i].1) ∧ w.cell? ⟨lg, lo + i * 2 + 1, none⟩ = some (.int .i64 xs[i].2)) := by
        rcases HL.out with h | ⟨g, o, e, h1, h2⟩
        · rw [h] at hix; simp at hix
        · exact ⟨g, o, e, h1, h2 i hix⟩
      subst hla
      have xc := (HB.out.cell (p := ⟨lg, lo + i * 2, none⟩) hlg).trans hlc.1
      have yc := (HB.out.cell (p := ⟨lg, lo + i * 2 + 1, none⟩) hlg).trans hlc.2
      have HNO : Hid (¬ Jn n xs[i] → ¬ ∀ x ∈ xs, Jn n x) := hid (fun h h' => h (h' _ (List.getElem_mem hix)))
      have HYES : Hid (Jn n xs[i] → ∀ r, (hr : r < xs.length) → r < i + 1 → Jn n xs[r]) := hid (fun h r hr hri => by
        rcases Nat.lt_or_ge r i with q | q
        · exact HJ.out r hr q
        · have : r = i := by omega
          subst this; exact h)
      obtain ⟨a, ha⟩ : ∃ a, a = xs[i].1 := ⟨_, rfl⟩
      obtain ⟨b, hb⟩ : ∃ b, b = xs[i].2 := ⟨_, rfl⟩
      have hab : xs[i] = (a, b) := by rw [ha, hb]
      rw [← ha] at xc
      rw [← hb] at yc
      rw [hab] at HNO HYES
      clear ha hb hab hlc
      have q1 : (0 : Int) ≤ (i : Int) := by omega
      have HB2 : Hid (∀ o, Below w.heap.size w (wr.alloc o)) := hid (fun o => HB.out.alloc HB.out.size o)
      obtain ⟨mn, hmn⟩ : ∃ mn, min a b = mn := ⟨_, rfl⟩
      obtain ⟨mx, hmx⟩ : ∃ mx, max a b = mx := ⟨_, rfl⟩
      have HMN := hid (show mn ≤ a ∧ mn ≤ b ∧ (mn = a ∨ mn = b) by omega)
      have HMX := hid (show a ≤ mx ∧ b ≤ mx ∧ (mx = a ∨ mx = b) by omega)
      by_cases g1 : mn < 0
      · have NO := hid (HNO.out (fun h => by have := HMN.out; have := h.1; have := h.2.1; dsimp only at *; omega))
        clear HNO HYES
        go_wp2_with fail
        go_ret
        exact ⟨⟨false, rfl, ⟨fun h => (by cases h), fun h => absurd h NO.out⟩⟩, HB2.out _⟩
      · by_cases g2 : (n : Int) ≤ mx
        · have NO := hid (HNO.out (fun h => by have := HMX.out; have := h.1; have := h.2.1; dsimp only at *; omega))
          clear HNO HYES
          go_wp2_with fail
          go_ret
          exact ⟨⟨false, rfl, ⟨fun h => (by cases h), fun h => absurd h NO.out⟩⟩, HB2.out _⟩
        · by_cases g3 : a = b
          · have NO := hid (HNO.out (fun h => h.2.2 g3))
            have d3 : (a == b) = true := by simpa using g3
            clear HNO HYES g3
            go_wp2_with fail
            go_ret
            exact ⟨⟨false, rfl, ⟨fun h => (by cases h), fun h => absurd h NO.out⟩⟩, HB2.out _⟩
          · have YES := hid (HYES.out ⟨by have := HMN.out; have := HMX.out; dsimp only; omega, by have := HMN.out; have := HMX.out; dsimp only; omega, g3⟩)
            have d3 : (a == b) = false := by simpa using g3
            clear HNO HYES
            go_wp2_with fail
            go_roundw
            case rel => exact ⟨i + 1, by omega, by go_num, YES, hid (HB2.out _)⟩
            case measure => simp [intOf]; omega
    · have hii : k = i := by omega
      subst hii
      go_wp2_with fail
      go_ret
      exact ⟨⟨true, rfl, ⟨fun _ x hx => by
        obtain ⟨r, hr, rfl⟩ := List.getElem_of_mem hx
        exact HJ.out r hr (by rw [HK.out]; exact hr), fun _ => rfl⟩⟩, HB.out⟩
end Go.Proofs.YtdbebbbceeopaaaGreat

set_option linter.unusedSimpArgs false
namespace Go.Proofs.YtdbebbbceeopaaaGreat
open Go.RowKit Go.Maps
open Flt (Is)

/-- What IndexFunc answers: a number from 0 on, if there is one. -/
def IdxR (f : Nat → Bool) (n : Nat) (e : Ending) : Prop := ∃ r : Int, e = .returned (.int .i64 r) ∧ decide (0 ≤ r) = decide (∃ i, i < n ∧ f i = true)

def BolR (f : Nat → Bool) (n : Nat) (e : Ending) : Prop := e = .returned (.bool (decide (∃ i, i < n ∧ f i = true)))

set_option maxRecDepth 100000 in
set_option maxHeartbeats 2000000 in
theorem index126 (pb po n cap : Nat) (px py : Nat → Int) (f : Nat → Bool) (caps : Array Value) (w : World) (hn : n ≤ 1000) (hp : Plc w pb po n px py)
    (hcl : ∀ (W : World) (i r q : Nat), i < n → Below w.heap.size w W → w.cell? ⟨pb, po + i, none⟩ = some (.complex .f64 r q) → Calls Tryz.prog 99 (#[.complex .f64 r q] ++ caps) W fun e w' => e = .returned (.bool (f i)) ∧ Below W.heap.size W w') :
    Calls Tryz.prog 126 #[.slice (some ⟨pb, po, none⟩) n cap, .func (.func 99) #[] caps] w fun e w' => IdxR f n e ∧ Below w.heap.size w w' := by
  have HP := hid hp
  have CL := hid hcl
  clear hp hcl
  go_enter Tryz.func126, Tryz.ntmps126
  go_wp2_with fail
  go_loopw [8] (fun ix wr => ∃ i : Nat, i ≤ n ∧ ix = .int .i64 i ∧ Hid (∀ r, r < i → f r = false) ∧ Hid (Below w.heap.size w wr)) (fun ix _ => n - (intOf ix).toNat)
  case atStart => exact ⟨0, Nat.zero_le _, rfl, hid (fun r h => by omega), hid (Below.refl _ _)⟩
  case round =>
    obtain ⟨i, hi, rfl, HF, HB⟩ := hrel
    by_cases hin : i < n
    · have hin' : (i : Int) < n := by omega
      obtain ⟨r, q, c0, _, _⟩ := HP.out.cell i hin
      have c1 := (HB.out.cell (p := ⟨pb, po + i, none⟩) HP.out.lt).trans c0
      have C := hid (CL.out wr i r q hin HB.out c0)
      have q1 : (0 : Int) ≤ (i : Int) := by omega
      clear c0
      go_wp2_with fail
      refine C.out.mono ?_
      rintro e w1 ⟨rfl, hb1⟩
      have HB1 := hid (HB.out.trans (hb1.mono HB.out.size))
      clear hb1 C c1
      obtain ⟨b, hb⟩ : ∃ b, b = f i := ⟨_, rfl⟩
      rw [← hb]
      cases b with
      | true =>
        have HR : Hid (decide (0 ≤ (i : Int)) = decide (∃ i, i < n ∧ f i = true)) := hid (by rw [decide_eq_true (show (0 : Int) ≤ i by omega), decide_eq_true (⟨i, hin, hb.symm⟩ : ∃ i, i < n ∧ f i = true)])
        clear hb
        go_wp2_with fail
        go_ret
        exact ⟨⟨i, rfl, HR.out⟩, HB1.out⟩
      | false =>
        have HF1 : Hid (∀ r, r < i + 1 → f r = false) := hid (fun r hr => by
          rcases Nat.lt_or_ge r i with k | k
          · exact HF.out r k
          · have : r = i := by omega
            subst this; exact hb.symm)
        clear hb
        go_wp2_with fail
        go_roundw
        case rel => exact ⟨i + 1, by omega, by go_num, HF1, HB1⟩
        case measure => simp [intOf]; omega
    · have hii : n = i := by omega
      subst hii
      go_wp2_with fail
      go_ret
      exact ⟨⟨-1, rfl, by
        rw [decide_eq_false (by omega), decide_eq_false]
        rintro ⟨r, hr, h⟩
        rw [HF.out r hr] at h
        cases h⟩, HB.out⟩

set_option maxHeartbeats 1000000 in
theorem contains98 (pb po n cap : Nat) (px py : Nat → Int) (f : Nat → Bool) (caps : Array Value) (w : World) (hn : n ≤ 1000) (hp : Plc w pb po n px py)
    (hcl : ∀ (W : World) (i r q : Nat), i < n → Below w.heap.size w W → w.cell? ⟨pb, po + i, none⟩ = some (.complex .f64 r q) → Calls Tryz.prog 99 (#[.complex .f64 r q] ++ caps) W fun e w' => e = .returned (.bool (f i)) ∧ Below W.heap.size W w') :
    Calls Tryz.prog 98 #[.slice (some ⟨pb, po, none⟩) n cap, .func (.func 99) #[] caps] w fun e w' => BolR f n e ∧ Below w.heap.size w w' := by
  have C := hid (index126 pb po n cap px py f caps w hn hp hcl)
  clear hp hcl
  go_enter Tryz.func98, Tryz.ntmps98
  go_wp2_with fail
  refine C.out.mono ?_
  rintro e w1 ⟨⟨r, rfl, hr⟩, hb⟩
  have HB := hid hb
  obtain ⟨b, hbb⟩ : ∃ b, b = decide (∃ i, i < n ∧ f i = true) := ⟨_, rfl⟩
  have HBB := hid hbb
  rw [← hbb] at hr
  clear hb hbb
  go_wp2_with fail
  go_ret
  exact ⟨by unfold BolR; rw [← HBB.out]; rfl, HB.out⟩
set_option maxRecDepth 100000 in
set_option maxHeartbeats 2000000 in
theorem index127 (n cap : Nat) (la : Option Addr) (xs : List (Nat × Nat)) (f : Nat → Bool) (caps : Array Value) (w : World) (hn : n ≤ 1000) (hp : Lns w la xs) (hx : n ≤ xs.length)
    (hcl : ∀ (W : World) (i : Nat) (hi : i < xs.length), i < n → Below w.heap.size w W → Calls Tryz.prog 102 (#[.agg #[.int .i64 (xs[i].1 : Nat), .int .i64 (xs[i].2 : Nat)]] ++ caps) W fun e w' => e = .returned (.bool (f i)) ∧ Below W.heap.size W w') :
    Calls Tryz.prog 127 #[.slice la n cap, .func (.func 102) #[] caps] w fun e w' => IdxR f n e ∧ Below w.heap.size w w' := by
  have HP := hid hp
  have CL := hid hcl
  clear hp hcl
  go_enter Tryz.func127, Tryz.ntmps127
  go_wp2_with fail
  go_loopw [8] (fun ix wr => ∃ i : Nat, i ≤ n ∧ ix = .int .i64 i ∧ Hid (∀ r, r < i → f r = false) ∧ Hid (Below w.heap.size w wr)) (fun ix _ => n - (intOf ix).toNat)
  case atStart => exact ⟨0, Nat.zero_le _, rfl, hid (fun r h => by omega), hid (Below.refl _ _)⟩
  case round =>
    obtain ⟨i, hi, rfl, HF, HB⟩ := hrel
    by_cases hin : i < n
    · have hin' : (i : Int) < n := by omega
      have hix : i < xs.length := by omega
      obtain ⟨lg, lo, hla, hlg, hlc⟩ : ∃ lg lo, la = some ⟨lg, lo, none⟩ ∧ lg < w.heap.size ∧ (w.cell? ⟨lg, lo + i * 2, none⟩ = some (.int .i64 (xs[i].1 : Nat)) ∧ w.cell? ⟨lg, lo + i * 2 + 1, none⟩ = some (.int .i64 (xs[i].2 : Nat))) := by
        rcases HP.out with h | ⟨g, o, e, h1, h2⟩
        · rw [h] at hix; simp at hix
        · exact ⟨g, o, e, h1, h2 i hix⟩
      subst hla
      have c1 := (HB.out.cell (p := ⟨lg, lo + i * 2, none⟩) hlg).trans hlc.1
      have c2 := (HB.out.cell (p := ⟨lg, lo + i * 2 + 1, none⟩) hlg).trans hlc.2
      have C := hid (CL.out wr i hix hin HB.out)
      have q1 : (0 : Int) ≤ (i : Int) := by omega
      obtain ⟨u, hu⟩ : ∃ u, u = xs[i].1 := ⟨_, rfl⟩
      obtain ⟨v, hv⟩ : ∃ v, v = xs[i].2 := ⟨_, rfl⟩
      rw [← hu] at c1 C
      rw [← hv] at c2 C
      clear hlc hu hv
      go_wp2_with fail
      refine C.out.mono ?_
      rintro e w1 ⟨rfl, hb1⟩
      have HB1 := hid (HB.out.trans (hb1.mono HB.out.size))
      clear hb1 C c1 c2
      obtain ⟨b, hb⟩ : ∃ b, b = f i := ⟨_, rfl⟩
      rw [← hb]
      cases b with
      | true =>
        have HR : Hid (decide (0 ≤ (i : Int)) = decide (∃ i, i < n ∧ f i = true)) := hid (by rw [decide_eq_true (show (0 : Int) ≤ i by omega), decide_eq_true (⟨i, hin, hb.symm⟩ : ∃ i, i < n ∧ f i = true)])
        clear hb
        go_wp2_with fail
        go_ret
        exact ⟨⟨i, rfl, HR.out⟩, HB1.out⟩
      | false =>
        have HF1 : Hid (∀ r, r < i + 1 → f r = false) := hid (fun r hr => by
          rcases Nat.lt_or_ge r i with k | k
          · exact HF.out r k
          · have : r = i := by omega
            subst this; exact hb.symm)
        clear hb
        go_wp2_with fail
        go_roundw
        case rel => exact ⟨i + 1, by omega, by go_num, HF1, HB1⟩
        case measure => simp [intOf]; omega
    · have hii : n = i := by omega
      subst hii
      go_wp2_with fail
      go_ret
      exact ⟨⟨-1, rfl, by
        rw [decide_eq_false (by omega), decide_eq_false]
        rintro ⟨r, hr, h⟩
        rw [HF.out r hr] at h
        cases h⟩, HB.out⟩

set_option maxHeartbeats 1000000 in
theorem contains101 (n cap : Nat) (la : Option Addr) (xs : List (Nat × Nat)) (f : Nat → Bool) (caps : Array Value) (w : World) (hn : n ≤ 1000) (hp : Lns w la xs) (hx : n ≤ xs.length)
    (hcl : ∀ (W : World) (i : Nat) (hi : i < xs.length), i < n → Below w.heap.size w W → Calls Tryz.prog 102 (#[.agg #[.int .i64 (xs[i].1 : Nat), .int .i64 (xs[i].2 : Nat)]] ++ caps) W fun e w' => e = .returned (.bool (f i)) ∧ Below W.heap.size W w') :
    Calls Tryz.prog 101 #[.slice la n cap, .func (.func 102) #[] caps] w fun e w' => BolR f n e ∧ Below w.heap.size w w' := by
  have C := hid (index127 n cap la xs f caps w hn hp hx hcl)
  clear hp hcl
  go_enter Tryz.func101, Tryz.ntmps101
  go_wp2_with fail
  refine C.out.mono ?_
  rintro e w1 ⟨⟨r, rfl, hr⟩, hb⟩
  have HB := hid hb
  obtain ⟨b, hbb⟩ : ∃ b, b = decide (∃ i, i < n ∧ f i = true) := ⟨_, rfl⟩
  have HBB := hid hbb
  rw [← hbb] at hr
  clear hb hbb
  go_wp2_with fail
  go_ret
  exact ⟨by unfold BolR; rw [← HBB.out]; rfl, HB.out⟩
end Go.Proofs.YtdbebbbceeopaaaGreat

set_option linter.unusedSimpArgs false
namespace Go.Proofs.YtdbebbbceeopaaaGreat
open Go.RowKit Go.Maps
open Flt (Is)

set_option maxHeartbeats 1000000 in
theorem btw99 (ra ia rb ib rp ip bA bB : Nat) (px py : Nat → Int) (a b p : Nat) (hax : Is ra (px a)) (hay : Is ia (py a)) (hbx : Is rb (px b)) (hby : Is ib (py b)) (hpx : Is rp (px p)) (hpy : Is ip (py p))
    (A : (-1000 ≤ px a ∧ px a ≤ 1000) ∧ (-1000 ≤ py a ∧ py a ≤ 1000)) (B : (-1000 ≤ px b ∧ px b ≤ 1000) ∧ (-1000 ≤ py b ∧ py b ≤ 1000)) (P : (-1000 ≤ px p ∧ px p ≤ 1000) ∧ (-1000 ≤ py p ∧ py p ≤ 1000)) (w : World)
    (cA : w.cell? ⟨bA, 0, none⟩ = some (.complex .f64 ra ia)) (cB : w.cell? ⟨bB, 0, none⟩ = some (.complex .f64 rb ib)) :
    Calls Tryz.prog 99 #[.complex .f64 rp ip, .pointer (some ⟨bA, 0, none⟩), .pointer (some ⟨bB, 0, none⟩)] w fun e w' => e = .returned (.bool (betwB px py a b p)) ∧ Below w.heap.size w w' := by
  have C := hid (fun W => plBetween_any ra ia rb ib rp ip px py a b p hax hay hbx hby hpx hpy A B P W)
  clear hax hay hbx hby hpx hpy A B P
  go_enter Tryz.func99, Tryz.ntmps99
  go_wp2_with fail
  refine (C.out _).mono ?_
  rintro e w1 ⟨rfl, rfl⟩
  go_wp2_with fail
  go_ret
  exact ⟨rfl, Below.refl _ _⟩

set_option maxRecDepth 100000 in
set_option maxHeartbeats 2000000 in
theorem crs102 (ra ia rb ib bA bB bP pb po n cap u v : Nat) (px py : Nat → Int) (a b : Nat) (hax : Is ra (px a)) (hay : Is ia (py a)) (hbx : Is rb (px b)) (hby : Is ib (py b))
    (A : (-1000 ≤ px a ∧ px a ≤ 1000) ∧ (-1000 ≤ py a ∧ py a ≤ 1000)) (B : (-1000 ≤ px b ∧ px b ≤ 1000) ∧ (-1000 ≤ py b ∧ py b ≤ 1000)) (w : World) (hp : Plc w pb po n px py) (hu : u < n) (hv : v < n)
    (cA : w.cell? ⟨bA, 0, none⟩ = some (.complex .f64 ra ia)) (cB : w.cell? ⟨bB, 0, none⟩ = some (.complex .f64 rb ib)) (cP : w.cell? ⟨bP, 0, none⟩ = some (.slice (some ⟨pb, po, none⟩) n cap)) :
    Calls Tryz.prog 102 #[.agg #[.int .i64 u, .int .i64 v], .pointer (some ⟨bA, 0, none⟩), .pointer (some ⟨bB, 0, none⟩), .pointer (some ⟨bP, 0, none⟩)] w fun e w' => e = .returned (.bool (crossB px py a b u v)) ∧ Below w.heap.size w w' := by
  obtain ⟨W1, hW1⟩ : ∃ W1 : World, W1 = w.alloc (.cells #[.int .i64 u, .int .i64 v] 54) := ⟨_, rfl⟩
  have B1 : Hid (Below w.heap.size w W1) := hid (by rw [hW1]; exact (Below.refl _ _).alloc (Nat.le_refl _) _)
  obtain ⟨ru, iu, cu, au, au'⟩ := hp.cell u hu
  obtain ⟨rv, iv, cv, av, av'⟩ := hp.cell v hv
  have C := hid (fun W => cross_any ra ia rb ib ru iu rv iv px py a b u v hax hay hbx hby au au' av av' A B (hp.bd u hu) (hp.bd v hv) W)
  have x0 : W1.cell? ⟨w.heap.size, 0, none⟩ = some (.int .i64 u) := by rw [hW1]; exact World.cell?_alloc_at _ _ _ _ rfl
  have x1 : W1.cell? ⟨w.heap.size, 1, none⟩ = some (.int .i64 v) := by rw [hW1]; exact World.cell?_alloc_at _ _ _ _ rfl
  have yA : W1.cell? ⟨bA, 0, none⟩ = some (.complex .f64 ra ia) := by rw [hW1]; exact cell_new cA
  have yB : W1.cell? ⟨bB, 0, none⟩ = some (.complex .f64 rb ib) := by rw [hW1]; exact cell_new cB
  have yP : W1.cell? ⟨bP, 0, none⟩ = some (.slice (some ⟨pb, po, none⟩) n cap) := by rw [hW1]; exact cell_new cP
  have zu : W1.cell? ⟨pb, po + u, none⟩ = some (.complex .f64 ru iu) := by rw [hW1]; exact cell_new cu
  have zv : W1.cell? ⟨pb, po + v, none⟩ = some (.complex .f64 rv iv) := by rw [hW1]; exact cell_new cv
  have gu : (u : Int) < n := by omega
  have gv : (v : Int) < n := by omega
  have gu0 : (0 : Int) ≤ u := by omega
  have gv0 : (0 : Int) ≤ v := by omega
  have START : W1.drew.cell? ⟨w.heap.size, 0, none⟩ = some (.int .i64 u) ∧ W1.drew.cell? ⟨w.heap.size, 1, none⟩ = some (.int .i64 v) ∧ W1.drew.cell? ⟨bA, 0, none⟩ = some (.complex .f64 ra ia) ∧ W1.drew.cell? ⟨bB, 0, none⟩ = some (.complex .f64 rb ib) ∧ W1.drew.cell? ⟨bP, 0, none⟩ = some (.slice (some ⟨pb, po, none⟩) n cap) ∧ W1.drew.cell? ⟨pb, po + u, none⟩ = some (.complex .f64 ru iu) ∧ W1.drew.cell? ⟨pb, po + v, none⟩ = some (.complex .f64 rv iv) := ⟨x0, x1, yA, yB, yP, zu, zv⟩
  obtain ⟨cr, hcr⟩ : ∃ cr, cr = crossB px py a b u v := ⟨_, rfl⟩
  rw [← hcr] at C ⊢
  clear hcr hp cu cv au au' av av' hax hay hbx hby A B cA cB cP
  go_enter Tryz.func102, Tryz.ntmps102
  go_wp2_with fail
  rw [← hW1]
  clear hW1
  go_region_held3 (fun W => W.cell? ⟨w.heap.size, 0, none⟩ = some (.int .i64 u) ∧ W.cell? ⟨w.heap.size, 1, none⟩ = some (.int .i64 v) ∧ W.cell? ⟨bA, 0, none⟩ = some (.complex .f64 ra ia) ∧ W.cell? ⟨bB, 0, none⟩ = some (.complex .f64 rb ib) ∧ W.cell? ⟨bP, 0, none⟩ = some (.slice (some ⟨pb, po, none⟩) n cap) ∧ W.cell? ⟨pb, po + u, none⟩ = some (.complex .f64 ru iu) ∧ W.cell? ⟨pb, po + v, none⟩ = some (.complex .f64 rv iv)) (assumption)
    ((go_at_call 103; refine (C.out _).mono ?_; rintro e w9 ⟨rfl, he9⟩; subst he9))
  clear START
  go_wp2_with fail
  go_ret
  exact ⟨rfl, B1.out.drew⟩
end Go.Proofs.YtdbebbbceeopaaaGreat
