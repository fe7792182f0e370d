import Derived.Test.YtdbebbbceeopaaaGreatN24
set_option linter.unusedSimpArgs false
namespace Go.Proofs.YtdbebbbceeopaaaGreat
open Go.RowKit

def circI (ax ay bx bya cx cy dx dy : Int) : Int := sqI ax ay dx dy * tw dx dy bx bya cx cy + sqI bx bya dx dy * tw dx dy cx cy ax ay + sqI cx cy dx dy * tw dx dy ax ay bx bya

theorem circ_Wn (px py : Nat → Int) (a b c d : Nat) : circI (px a) (py a) (px b) (py b) (px c) (py c) (px d) (py d) = Geo.Wn px py a b c d := rfl

theorem mul_bd {a b A B : Int} (ha : -A ≤ a) (ha' : a ≤ A) (hb : -B ≤ b) (hb' : b ≤ B) : -(A * B) ≤ a * b ∧ a * b ≤ A * B := by
  have h1 := Int.mul_nonneg (show 0 ≤ A - a by omega) (show 0 ≤ B - b by omega)
  have h2 := Int.mul_nonneg (show 0 ≤ A - a by omega) (show 0 ≤ B + b by omega)
  have h3 := Int.mul_nonneg (show 0 ≤ A + a by omega) (show 0 ≤ B - b by omega)
  have h4 := Int.mul_nonneg (show 0 ≤ A + a by omega) (show 0 ≤ B + b by omega)
  have e1 : (A - a) * (B - b) = A * B - A * b - a * B + a * b := by grind
  have e2 : (A - a) * (B + b) = A * B + A * b - a * B - a * b := by grind
  have e3 : (A + a) * (B - b) = A * B - A * b + a * B - a * b := by grind
  have e4 : (A + a) * (B + b) = A * B + A * b + a * B + a * b := by grind
  omega

theorem sqI_bd {a b c d : Int} (h : Bd4 a b c d) : 0 ≤ sqI a b c d ∧ sqI a b c d ≤ 8000000 := by
  obtain ⟨h1, h2, h3, h4⟩ := h
  have m1 := mul_bd (a := a - c) (b := a - c) (A := 2000) (B := 2000) (by omega) (by omega) (by omega) (by omega)
  have m2 := mul_bd (a := b - d) (b := b - d) (A := 2000) (B := 2000) (by omega) (by omega) (by omega) (by omega)
  have n1 := Geo.sqd_nonneg (a - c) (b - d)
  unfold Geo.sq at n1
  unfold sqI
  omega

theorem tw_bd6 {a b c d e f : Int} (h : Bd6 a b c d e f) : -8000000 ≤ tw a b c d e f ∧ tw a b c d e f ≤ 8000000 := by
  obtain ⟨⟨h1, h2, h3, h4⟩, h5, h6⟩ := h
  have m1 := mul_bd (a := c - a) (b := f - b) (A := 2000) (B := 2000) (by omega) (by omega) (by omega) (by omega)
  have m2 := mul_bd (a := d - b) (b := e - a) (A := 2000) (B := 2000) (by omega) (by omega) (by omega) (by omega)
  unfold tw
  omega

/-- Eight numbers in bounds. -/
def Bd8 (a b c d e f g h : Int) : Prop := Bd4 a b c d ∧ Bd4 e f g h

set_option maxRecDepth 100000 in
set_option maxHeartbeats 2000000 in
theorem circle_any (ax ay bx bya cx cy dx dy : Int) (w : World) (h : Bd8 ax ay bx bya cx cy dx dy) :
    Calls Tryz.prog 32 #[.agg #[.int .i64 ax, .int .i64 ay], .agg #[.int .i64 bx, .int .i64 bya], .agg #[.int .i64 cx, .int .i64 cy], .agg #[.int .i64 dx, .int .i64 dy]] w fun e w' => e = .returned (.int .i64 (circI ax ay bx bya cx cy dx dy)) ∧ Below w.heap.size w w' := by
  obtain ⟨⟨A, A', B, B'⟩, ⟨C, C', D, D'⟩⟩ := h
  have f1 : Bd4 ax ay dx dy := ⟨A, A', D, D'⟩
  have f2 : Bd4 bx bya dx dy := ⟨B, B', D, D'⟩
  have f3 : Bd4 cx cy dx dy := ⟨C, C', D, D'⟩
  have g1 : Bd6 dx dy bx bya cx cy := ⟨⟨D, D', B, B'⟩, C, C'⟩
  have g2 : Bd6 dx dy cx cy ax ay := ⟨⟨D, D', C, C'⟩, A, A'⟩
  have g3 : Bd6 dx dy ax ay bx bya := ⟨⟨D, D', A, A'⟩, B, B'⟩
  clear A A' B B' C C' D D'
  have b1 := sqI_bd f1
  have b2 := sqI_bd f2
  have b3 := sqI_bd f3
  have t1 := tw_bd6 g1
  have t2 := tw_bd6 g2
  have t3 := tw_bd6 g3
  have m1 := mul_bd (a := sqI ax ay dx dy) (b := tw dx dy bx bya cx cy) (A := 8000000) (B := 8000000) (by omega) (by omega) (by omega) (by omega)
  have m2 := mul_bd (a := sqI bx bya dx dy) (b := tw dx dy cx cy ax ay) (A := 8000000) (B := 8000000) (by omega) (by omega) (by omega) (by omega)
  have m3 := mul_bd (a := sqI cx cy dx dy) (b := tw dx dy ax ay bx bya) (A := 8000000) (B := 8000000) (by omega) (by omega) (by omega) (by omega)
  have y1 : IntKind.i64.wrap (sqI ax ay dx dy * tw dx dy bx bya cx cy) = sqI ax ay dx dy * tw dx dy bx bya cx cy := by rw [IntKind.wrap_i64]; omega
  have y2 : IntKind.i64.wrap (sqI bx bya dx dy * tw dx dy cx cy ax ay) = sqI bx bya dx dy * tw dx dy cx cy ax ay := by rw [IntKind.wrap_i64]; omega
  have y3 : IntKind.i64.wrap (sqI cx cy dx dy * tw dx dy ax ay bx bya) = sqI cx cy dx dy * tw dx dy ax ay bx bya := by rw [IntKind.wrap_i64]; omega
  have y4 : IntKind.i64.wrap (sqI ax ay dx dy * tw dx dy bx bya cx cy + sqI bx bya dx dy * tw dx dy cx cy ax ay) = sqI ax ay dx dy * tw dx dy bx bya cx cy + sqI bx bya dx dy * tw dx dy cx cy ax ay := by rw [IntKind.wrap_i64]; omega
  have y5 : IntKind.i64.wrap (sqI ax ay dx dy * tw dx dy bx bya cx cy + sqI bx bya dx dy * tw dx dy cx cy ax ay + sqI cx cy dx dy * tw dx dy ax ay bx bya) = sqI ax ay dx dy * tw dx dy bx bya cx cy + sqI bx bya dx dy * tw dx dy cx cy ax ay + sqI cx cy dx dy * tw dx dy ax ay bx bya := by rw [IntKind.wrap_i64]; omega
  clear b1 b2 b3 t1 t2 t3 m1 m2 m3
  have SQ := hid square_4
  have TN := hid turn_6
  obtain ⟨W1, hW1⟩ : ∃ W1 : World, W1 = (((w.alloc (.cells #[.int .i64 ax, .int .i64 ay] 35)).alloc (.cells #[.int .i64 bx, .int .i64 bya] 35)).alloc (.cells #[.int .i64 cx, .int .i64 cy] 35)).alloc (.cells #[.int .i64 dx, .int .i64 dy] 35) := ⟨_, rfl⟩
  have B1 : Hid (Below w.heap.size w W1) := hid (by rw [hW1]; exact (((((Below.refl _ _).alloc (Nat.le_refl _) _).alloc (by simp) _).alloc (by simp <;> omega) _).alloc (by simp <;> omega) _))
  have hsz : W1.heap.size = w.heap.size + 1 + 1 + 1 + 1 := by rw [hW1]; simp
  have c0 : W1.cell? ⟨w.heap.size, 0, none⟩ = some (.int .i64 ax) ∧ W1.cell? ⟨w.heap.size, 1, none⟩ = some (.int .i64 ay) ∧ W1.cell? ⟨w.heap.size + 1, 0, none⟩ = some (.int .i64 bx) ∧ W1.cell? ⟨w.heap.size + 1, 1, none⟩ = some (.int .i64 bya) ∧ W1.cell? ⟨w.heap.size + 1 + 1, 0, none⟩ = some (.int .i64 cx) ∧ W1.cell? ⟨w.heap.size + 1 + 1, 1, none⟩ = some (.int .i64 cy) ∧ W1.cell? ⟨w.heap.size + 1 + 1 + 1, 0, none⟩ = some (.int .i64 dx) ∧ W1.cell? ⟨w.heap.size + 1 + 1 + 1, 1, none⟩ = some (.int .i64 dy) := by
    rw [hW1]
    refine ⟨?_, ?_, ?_, ?_, ?_, ?_, ?_, ?_⟩
    · rw [World.cell?_alloc_past _ _ _ (by simp <;> omega), World.cell?_alloc_past _ _ _ (by simp <;> omega), World.cell?_alloc_past _ _ _ (by simp), World.cell?_alloc_at _ _ _ _ (by simp)]; rfl
    · rw [World.cell?_alloc_past _ _ _ (by simp <;> omega), World.cell?_alloc_past _ _ _ (by simp <;> omega), World.cell?_alloc_past _ _ _ (by simp), World.cell?_alloc_at _ _ _ _ (by simp)]; rfl
    · rw [World.cell?_alloc_past _ _ _ (by simp <;> omega), World.cell?_alloc_past _ _ _ (by simp), World.cell?_alloc_at _ _ _ _ (by simp)]; rfl
    · rw [World.cell?_alloc_past _ _ _ (by simp <;> omega), World.cell?_alloc_past _ _ _ (by simp), World.cell?_alloc_at _ _ _ _ (by simp)]; rfl
    · rw [World.cell?_alloc_past _ _ _ (by simp), World.cell?_alloc_at _ _ _ _ (by simp)]; rfl
    · rw [World.cell?_alloc_past _ _ _ (by simp), World.cell?_alloc_at _ _ _ _ (by simp)]; rfl
    · rw [World.cell?_alloc_at _ _ _ _ (by simp)]; rfl
    · rw [World.cell?_alloc_at _ _ _ _ (by simp)]; rfl
  have KEEP : Hid (∀ W, Below W1.heap.size W1 W → W.cell? ⟨w.heap.size, 0, none⟩ = some (.int .i64 ax) ∧ W.cell? ⟨w.heap.size, 1, none⟩ = some (.int .i64 ay) ∧ W.cell? ⟨w.heap.size + 1, 0, none⟩ = some (.int .i64 bx) ∧ W.cell? ⟨w.heap.size + 1, 1, none⟩ = some (.int .i64 bya) ∧ W.cell? ⟨w.heap.size + 1 + 1, 0, none⟩ = some (.int .i64 cx) ∧ W.cell? ⟨w.heap.size + 1 + 1, 1, none⟩ = some (.int .i64 cy) ∧ W.cell? ⟨w.heap.size + 1 + 1 + 1, 0, none⟩ = some (.int .i64 dx) ∧ W.cell? ⟨w.heap.size + 1 + 1 + 1, 1, none⟩ = some (.int .i64 dy)) := hid fun W hW => by
    obtain ⟨k0, k1, k2, k3, k4, k5, k6, k7⟩ := c0
    exact ⟨(hW.cell (by show w.heap.size < _; omega)).trans k0, (hW.cell (by show w.heap.size < _; omega)).trans k1, (hW.cell (by show w.heap.size + 1 < _; omega)).trans k2, (hW.cell (by show w.heap.size + 1 < _; omega)).trans k3, (hW.cell (by show w.heap.size + 1 + 1 < _; omega)).trans k4, (hW.cell (by show w.heap.size + 1 + 1 < _; omega)).trans k5, (hW.cell (by show w.heap.size + 1 + 1 + 1 < _; omega)).trans k6, (hW.cell (by show w.heap.size + 1 + 1 + 1 < _; omega)).trans k7⟩
  have START := KEEP.out W1.drew (Below.refl _ _).drew
  clear c0 hsz
  unfold circI
  go_enter Tryz.func32, Tryz.ntmps32
  go_wp2_with fail
  rw [← hW1]
  clear hW1
  go_region_held3 (fun w' => w'.cell? ⟨w.heap.size, 0, none⟩ = some (.int .i64 ax) ∧ w'.cell? ⟨w.heap.size, 1, none⟩ = some (.int .i64 ay) ∧ w'.cell? ⟨w.heap.size + 1, 0, none⟩ = some (.int .i64 bx) ∧ w'.cell? ⟨w.heap.size + 1, 1, none⟩ = some (.int .i64 bya) ∧ w'.cell? ⟨w.heap.size + 1 + 1, 0, none⟩ = some (.int .i64 cx) ∧ w'.cell? ⟨w.heap.size + 1 + 1, 1, none⟩ = some (.int .i64 cy) ∧ w'.cell? ⟨w.heap.size + 1 + 1 + 1, 0, none⟩ = some (.int .i64 dx) ∧ w'.cell? ⟨w.heap.size + 1 + 1 + 1, 1, none⟩ = some (.int .i64 dy)) (assumption)
    (first | (go_at_call 17; refine (SQ.out _ _ _ _ _ (by assumption)).mono ?_; rintro e w2a ⟨rfl, hb6⟩; have HB6 : Hid (Below W1.heap.size W1 w2a) := hid ((Below.refl _ _).drew.trans hb6); have HK := KEEP.out w2a HB6.out; clear hb6) | (go_at_call 23; refine (TN.out _ _ _ _ _ _ _ (by assumption)).mono ?_; rintro e w2 ⟨rfl, hb6⟩; have HB7 : Hid (Below W1.heap.size W1 w2) := hid (HB6.out.trans (hb6.mono HB6.out.size)); have HK2 := KEEP.out w2 HB7.out; clear hb6))
  have START := KEEP.out w2.drew HB7.out.drew
  have HB2 := HB7
  clear HK HK2 HB6 HB7
  go_wp2_with fail
  go_region_held3 (fun w' => w'.cell? ⟨w.heap.size, 0, none⟩ = some (.int .i64 ax) ∧ w'.cell? ⟨w.heap.size, 1, none⟩ = some (.int .i64 ay) ∧ w'.cell? ⟨w.heap.size + 1, 0, none⟩ = some (.int .i64 bx) ∧ w'.cell? ⟨w.heap.size + 1, 1, none⟩ = some (.int .i64 bya) ∧ w'.cell? ⟨w.heap.size + 1 + 1, 0, none⟩ = some (.int .i64 cx) ∧ w'.cell? ⟨w.heap.size + 1 + 1, 1, none⟩ = some (.int .i64 cy) ∧ w'.cell? ⟨w.heap.size + 1 + 1 + 1, 0, none⟩ = some (.int .i64 dx) ∧ w'.cell? ⟨w.heap.size + 1 + 1 + 1, 1, none⟩ = some (.int .i64 dy)) (assumption)
    (first | (go_at_call 17; refine (SQ.out _ _ _ _ _ (by assumption)).mono ?_; rintro e w3a ⟨rfl, hb6⟩; have HB6 : Hid (Below W1.heap.size W1 w3a) := hid (HB2.out.drew.trans (hb6.mono HB2.out.size)); have HK := KEEP.out w3a HB6.out; clear hb6) | (go_at_call 23; refine (TN.out _ _ _ _ _ _ _ (by assumption)).mono ?_; rintro e w3 ⟨rfl, hb6⟩; have HB7 : Hid (Below W1.heap.size W1 w3) := hid (HB6.out.trans (hb6.mono HB6.out.size)); have HK2 := KEEP.out w3 HB7.out; clear hb6))
  have START := KEEP.out w3.drew HB7.out.drew
  have HB3 := HB7
  clear HK HK2 HB6 HB7 HB2
  go_wp2_with fail
  go_region_held3 (fun w' => w'.cell? ⟨w.heap.size, 0, none⟩ = some (.int .i64 ax) ∧ w'.cell? ⟨w.heap.size, 1, none⟩ = some (.int .i64 ay) ∧ w'.cell? ⟨w.heap.size + 1, 0, none⟩ = some (.int .i64 bx) ∧ w'.cell? ⟨w.heap.size + 1, 1, none⟩ = some (.int .i64 bya) ∧ w'.cell? ⟨w.heap.size + 1 + 1, 0, none⟩ = some (.int .i64 cx) ∧ w'.cell? ⟨w.heap.size + 1 + 1, 1, none⟩ = some (.int .i64 cy) ∧ w'.cell? ⟨w.heap.size + 1 + 1 + 1, 0, none⟩ = some (.int .i64 dx) ∧ w'.cell? ⟨w.heap.size + 1 + 1 + 1, 1, none⟩ = some (.int .i64 dy)) (assumption)
    (first | (go_at_call 17; refine (SQ.out _ _ _ _ _ (by assumption)).mono ?_; rintro e w4a ⟨rfl, hb6⟩; have HB6 : Hid (Below W1.heap.size W1 w4a) := hid (HB3.out.drew.trans (hb6.mono HB3.out.size)); have HK := KEEP.out w4a HB6.out; clear hb6) | (go_at_call 23; refine (TN.out _ _ _ _ _ _ _ (by assumption)).mono ?_; rintro e w4 ⟨rfl, hb6⟩; have HB7 : Hid (Below W1.heap.size W1 w4) := hid (HB6.out.trans (hb6.mono HB6.out.size)); have HK2 := KEEP.out w4 HB7.out; clear hb6))
  clear HK HK2 START
  go_wp2_with fail
  go_ret
  exact ⟨rfl, B1.out.trans (HB7.out.mono B1.out.size)⟩

/-- All fours whose least three are these, as far as the fourth goes. -/
def Fr (px py : Nat → Int) (i j k m : Nat) : Prop := ∀ r, r < m → Geo.Wn px py i j k r ≠ 0

set_option maxRecDepth 100000 in
set_option maxHeartbeats 4000000 in
theorem unique_any (px py : Nat → Int) (n g cap : Nat) (w : World) (hp : Pts w g 0 n px py) (hn : n ≤ 40) (hbd : Bds n px py) :
    Calls Tryz.prog 20 #[.slice (some ⟨g, 0, none⟩) n cap] w fun e w' => (∃ b : Bool, e = .returned (.bool b) ∧ (b = true → Geo.Free px py n)) ∧ Below w.heap.size w w' := by
  have HP := hid hp
  have HBD := hid hbd
  have CI := hid circle_any
  clear hp hbd
  go_enter Tryz.func20, Tryz.ntmps20
  go_wp2
  go_loopw [3] (fun i wr => ∃ k : Nat, k ≤ n ∧ i = .int .i64 k ∧ Hid (∀ i j k' m, i < k → j < i → k' < j → m < k' → Geo.Wn px py i j k' m ≠ 0) ∧ Hid (Below w.heap.size w wr)) (fun i _ => n - (intOf i).toNat)
  case atStart => exact ⟨0, Nat.zero_le _, rfl, hid (fun i j k m h => by omega), hid (Below.refl _ _)⟩
  case round =>
    obtain ⟨i, hi, rfl, F1, HB⟩ := hrel
    by_cases hin : i < n
    · have hin' : (i : Int) < n := by omega
      obtain ⟨W0, rfl⟩ : ∃ W0, W0 = wr := ⟨wr, rfl⟩
      go_wp2
      go_loopw [4] (fun j wr => ∃ k : Nat, k ≤ i ∧ j = .int .i64 k ∧ Hid (∀ j k' m, j < k → k' < j → m < k' → Geo.Wn px py i j k' m ≠ 0) ∧ Hid (Below w.heap.size w wr)) (fun j _ => i - (intOf j).toNat)
      case atStart => exact ⟨0, Nat.zero_le _, rfl, hid (fun j k m h => by omega), HB⟩
      case round =>
        clear HB
        obtain ⟨j, hj, rfl, F2, HB⟩ := hrel
        by_cases hji : j < i
        · have hji' : (j : Int) < i := by omega
          obtain ⟨W0, rfl⟩ : ∃ W0, W0 = wr := ⟨wr, rfl⟩
          go_wp2
          go_loopw [5] (fun k wr => ∃ k' : Nat, k' ≤ j ∧ k = .int .i64 k' ∧ Hid (∀ k m, k < k' → m < k → Geo.Wn px py i j k m ≠ 0) ∧ Hid (Below w.heap.size w wr)) (fun k _ => j - (intOf k).toNat)
          case atStart => exact ⟨0, Nat.zero_le _, rfl, hid (fun k m h => by omega), HB⟩
          case round =>
            clear HB
            obtain ⟨k, hk, rfl, F3, HB⟩ := hrel
            by_cases hkj : k < j
            · have hkj' : (k : Int) < j := by omega
              obtain ⟨W0, rfl⟩ : ∃ W0, W0 = wr := ⟨wr, rfl⟩
              go_wp2
              go_loopw [6] (fun m wr => ∃ m' : Nat, m' ≤ k ∧ m = .int .i64 m' ∧ Hid (Fr px py i j k m') ∧ Hid (Below w.heap.size w wr)) (fun m _ => k - (intOf m).toNat)
              case atStart => exact ⟨0, Nat.zero_le _, rfl, hid (fun r h => by omega), HB⟩
              case round =>
                clear HB
                obtain ⟨m, hm, rfl, F4, HB⟩ := hrel
                by_cases hmk : m < k
                · have hmk' : (m : Int) < k := by omega
                  have hjn : j < n := by omega
                  have hkn : k < n := by omega
                  have hmn : m < n := by omega
                  have hjn' : (j : Int) < n := by omega
                  have hkn' : (k : Int) < n := by omega
                  have hmn' : (m : Int) < n := by omega
                  have hpw := HP.out.below HB.out HP.out.lt
                  have cx : ∀ j, j < n → wr.cell? ⟨g, j * 2, none⟩ = some (.int .i64 (px j)) := fun j hj => by have := hpw.x j hj; rwa [Nat.zero_add] at this
                  have cy : ∀ j, j < n → wr.cell? ⟨g, j * 2 + 1, none⟩ = some (.int .i64 (py j)) := fun j hj => by have := hpw.y j hj; rwa [Nat.zero_add] at this
                  have gl := hpw.lt
                  have B8 : Bd8 (px i) (py i) (px j) (py j) (px k) (py k) (px m) (py m) := ⟨bd4 HBD.out hin hjn, bd4 HBD.out hkn hmn⟩
                  have KEEP : Hid (∀ W, Below wr.heap.size wr W → W.cell? ⟨g, i * 2, none⟩ = some (.int .i64 (px i)) ∧ W.cell? ⟨g, i * 2 + 1, none⟩ = some (.int .i64 (py i)) ∧ W.cell? ⟨g, j * 2, none⟩ = some (.int .i64 (px j)) ∧ W.cell? ⟨g, j * 2 + 1, none⟩ = some (.int .i64 (py j)) ∧ W.cell? ⟨g, k * 2, none⟩ = some (.int .i64 (px k)) ∧ W.cell? ⟨g, k * 2 + 1, none⟩ = some (.int .i64 (py k)) ∧ W.cell? ⟨g, m * 2, none⟩ = some (.int .i64 (px m)) ∧ W.cell? ⟨g, m * 2 + 1, none⟩ = some (.int .i64 (py m))) := hid fun W hW => ⟨(hW.cell (by exact gl)).trans (cx i hin), (hW.cell (by exact gl)).trans (cy i hin), (hW.cell (by exact gl)).trans (cx j hjn), (hW.cell (by exact gl)).trans (cy j hjn), (hW.cell (by exact gl)).trans (cx k hkn), (hW.cell (by exact gl)).trans (cy k hkn), (hW.cell (by exact gl)).trans (cx m hmn), (hW.cell (by exact gl)).trans (cy m hmn)⟩
                  have START := KEEP.out wr.drew (Below.refl _ _).drew
                  have q1 : (0 : Int) ≤ (i : Int) := by omega
                  have q2 : (0 : Int) ≤ (j : Int) := by omega
                  have q3 : (0 : Int) ≤ (k : Int) := by omega
                  have q4 : (0 : Int) ≤ (m : Int) := by omega
                  clear cx cy hpw
                  go_wp2_with fail
                  go_region_held3 (fun W => W.cell? ⟨g, i * 2, none⟩ = some (.int .i64 (px i)) ∧ W.cell? ⟨g, i * 2 + 1, none⟩ = some (.int .i64 (py i)) ∧ W.cell? ⟨g, j * 2, none⟩ = some (.int .i64 (px j)) ∧ W.cell? ⟨g, j * 2 + 1, none⟩ = some (.int .i64 (py j)) ∧ W.cell? ⟨g, k * 2, none⟩ = some (.int .i64 (px k)) ∧ W.cell? ⟨g, k * 2 + 1, none⟩ = some (.int .i64 (py k)) ∧ W.cell? ⟨g, m * 2, none⟩ = some (.int .i64 (px m)) ∧ W.cell? ⟨g, m * 2 + 1, none⟩ = some (.int .i64 (py m))) (assumption)
                    ((go_at_call 32; refine (CI.out _ _ _ _ _ _ _ _ _ (by assumption)).mono ?_; rintro e w6 ⟨rfl, hb6⟩; have HB6 : Hid (Below wr.heap.size wr w6) := hid ((Below.refl _ _).drew.trans hb6); have HK := KEEP.out w6 HB6.out; clear hb6))
                  clear HK START
                  have HBF := hid (HB.out.trans (HB6.out.mono HB.out.size))
                  have HW : Hid (circI (px i) (py i) (px j) (py j) (px k) (py k) (px m) (py m) = Geo.Wn px py i j k m) := hid (circ_Wn px py i j k m)
                  obtain ⟨cv, hcv⟩ : ∃ cv, cv = circI (px i) (py i) (px j) (py j) (px k) (py k) (px m) (py m) := ⟨_, rfl⟩
                  rw [← hcv] at HW ⊢
                  clear hcv HB6 KEEP HB
                  by_cases hz : cv = 0
                  · have dz : (cv == 0) = true := by simpa using hz
                    clear hz
                    go_wp2_with fail
                    go_ret
                    exact ⟨⟨false, rfl, fun h => by cases h⟩, HBF.out⟩
                  · have dz : (cv == 0) = false := by simpa using hz
                    have FF : Hid (Fr px py i j k (m + 1)) := hid fun r hr => by
                      rcases Nat.lt_or_ge r m with q | q
                      · exact F4.out r q
                      · have : r = m := by omega
                        subst this
                        rw [← HW.out]; exact hz
                    clear hz
                    go_wp2_with fail
                    go_roundw
                    case rel => exact ⟨m + 1, by omega, by go_num, FF, HBF⟩
                    case measure => simp [intOf]; omega
                · have hmm : m = k := by omega
                  subst hmm
                  go_wp2_with fail
                  go_roundw
                  case rel =>
                    refine ⟨m + 1, by omega, by go_num, hid (fun k m' h1 h2 => ?_), HB⟩
                    rcases Nat.lt_or_ge k m with q | q
                    · exact F3.out k m' q h2
                    · have : k = m := by omega
                      subst this; exact F4.out m' h2
                  case measure => simp [intOf]; omega
            · have hkk : k = j := by omega
              subst hkk
              go_wp2_with fail
              go_roundw
              case rel =>
                refine ⟨k + 1, by omega, by go_num, hid (fun j k' m h1 h2 h3 => ?_), HB⟩
                rcases Nat.lt_or_ge j k with q | q
                · exact F2.out j k' m q h2 h3
                · have : j = k := by omega
                  subst this; exact F3.out k' m h2 h3
              case measure => simp [intOf]; omega
        · have hjj : j = i := by omega
          subst hjj
          go_wp2_with fail
          go_roundw
          case rel =>
            refine ⟨j + 1, by omega, by go_num, hid (fun i' j' k m h1 h2 h3 h4 => ?_), HB⟩
            rcases Nat.lt_or_ge i' j with q | q
            · exact F1.out i' j' k m q h2 h3 h4
            · have : i' = j := by omega
              subst this; exact F2.out j' k m h2 h3 h4
          case measure => simp [intOf]; omega
    · have hii : i = n := by omega
      subst hii
      go_wp2_with fail
      go_ret
      exact ⟨⟨true, rfl, fun _ => Geo.free_of F1.out⟩, HB.out⟩
end Go.Proofs.YtdbebbbceeopaaaGreat

set_option linter.unusedSimpArgs false
namespace Go.Proofs.YtdbebbbceeopaaaGreat
open Go.RowKit
open Geo (rv rv_rv rv_lt)

theorem refI_mk {px py : Nat → Int} {n : Nat} (hb : Bds n px py) (hne : Geo.Inj px py n) (hw : ∃ i, i < n ∧ T px py 0 1 i ≠ 0) : refI px py n = 0 := by
  have hA : allB px py n = true := by
    rw [allB_iff]
    intro i hi
    rw [near_iff, near_iff]
    exact hb i hi
  have hT : twB px py n = false := by
    cases hc : twB px py n with
    | false => rfl
    | true =>
      obtain ⟨i, hi, hc⟩ := (twB_iff _ _ _).1 hc
      obtain ⟨j, hj, e⟩ := (twiceAt_iff _ _ _).1 hc
      have := hne i j hi (by omega) (by first | exact e.1 | exact e.1.symm) (by first | exact e.2 | exact e.2.symm)
      omega
  have hF : flatB px py (n - 2) = false := by
    obtain ⟨i, hi, h⟩ := hw
    have i0 : i ≠ 0 := by rintro rfl; exact h (Geo.T_one _ _)
    have i1 : i ≠ 1 := by rintro rfl; exact h (Geo.T_two _ _)
    obtain ⟨k, rfl⟩ : ∃ k, i = k + 2 := ⟨i - 2, by omega⟩
    exact flatB_false _ _ _ k (by omega) h
  simp [refI, hA, hT, hF]

/-- What Moved knows of its points. -/
structure Few (n : Nat) (px py : Nat → Int) : Prop where
  len : 3 ≤ n
  len' : n ≤ 12
  bd : ∀ i, i < n → (0 ≤ px i ∧ px i ≤ 407) ∧ (0 ≤ py i ∧ py i ≤ 407)
  inj : Geo.Inj px py n
  wide : T px py 0 1 2 ≠ 0

theorem Sett.few {n m : Nat} {px py : Nat → Int} (h : Sett n px py) (h3 : 3 ≤ m) (h12 : m ≤ 12) (hm : m ≤ n) : Few m px py :=
  ⟨h3, h12, fun i hi => h.bd i (by omega), fun i j hi hj e1 e2 => Classical.byContradiction fun k => h.ne i j (by omega) (by omega) k ⟨e1, e2⟩, h.wide⟩

theorem Few.bds {n : Nat} {px py : Nat → Int} (h : Few n px py) : Bds n px py := fun i hi => by have := h.bd i hi; omega
theorem Few.ref {n : Nat} {px py : Nat → Int} (h : Few n px py) : refI px py n = 0 := refI_mk h.bds h.inj ⟨2, by have := h.len; omega, h.wide⟩

theorem Few.bds_far {n : Nat} {px py : Nat → Int} (h : Few n px py) {x y : Int} (hx : -250 ≤ x ∧ x ≤ 249) (hy : -250 ≤ y ∧ y ≤ 249) : Bds n (fun i => px i + x) (fun i => py i + y) := fun i hi => by
  have := h.bd i hi
  dsimp only
  omega

theorem Few.ref_far {n : Nat} {px py : Nat → Int} (h : Few n px py) {x y : Int} (hx : -250 ≤ x ∧ x ≤ 249) (hy : -250 ≤ y ∧ y ≤ 249) : refI (fun i => px i + x) (fun i => py i + y) n = 0 :=
  refI_mk (h.bds_far hx hy) (fun i j hi hj e1 e2 => h.inj i j hi hj (by have : px i + x = px j + x := e1; omega) (by have : py i + y = py j + y := e2; omega)) ⟨2, by have := h.len; omega, by rw [Geo.T_shift]; exact h.wide⟩

theorem Few.bds_back {n : Nat} {px py : Nat → Int} (h : Few n px py) : Bds n (fun i => px (rv n i)) (fun i => py (rv n i)) := fun i hi => h.bds (rv n i) (rv_lt hi)

theorem Few.ref_back {n : Nat} {px py : Nat → Int} (h : Few n px py) : refI (fun i => px (rv n i)) (fun i => py (rv n i)) n = 0 := by
  have h3 := h.len
  refine refI_mk h.bds_back (fun i j hi hj e1 e2 => ?_) ?_
  · have := h.inj (rv n i) (rv n j) (rv_lt hi) (rv_lt hj) e1 e2
    rw [← rv_rv hi, this, rv_rv hj]
  · rcases Classical.em (∃ i, i < n ∧ T (fun i => px (rv n i)) (fun i => py (rv n i)) 0 1 i ≠ 0) with k | k
    · exact k
    · exfalso
      refine Geo.line_flat (px := px) (py := py) (all := List.range n) (b := rv n 0) (R := rv n 1) ?_ (fun p hp => ?_) ⟨0, by simp; omega, 1, by simp; omega, 2, by simp; omega, h.wide⟩
      · rintro ⟨e1, e2⟩
        have := h.inj (rv n 1) (rv n 0) (rv_lt (by omega)) (rv_lt (by omega)) (by omega) (by omega)
        unfold rv at this
        omega
      · rcases Classical.em (T px py (rv n 0) (rv n 1) p = 0) with q | q
        · exact q
        · exfalso
          have hpn : p < n := List.mem_range.1 hp
          refine k ⟨rv n p, rv_lt hpn, ?_⟩
          unfold T at q ⊢
          simp only [rv_rv hpn]
          exact q

/-- Points in their order, as pairs. -/
def prs (px py : Nat → Int) (k : Nat) : List (Int × Int) := (List.range k).map fun j => (px j, py j)

theorem prs_len (px py : Nat → Int) (k : Nat) : (prs px py k).length = k := by simp [prs]
theorem prs_snoc (px py : Nat → Int) (k : Nat) : prs px py (k + 1) = prs px py k ++ [(px k, py k)] := by simp [prs, List.range_succ]

theorem prs_pts {w : World} {b : Nat} {v : Value} {px py : Nat → Int} {k : Nat} (h : w.ownsRow b 35 2 v k (cellsP (prs px py k))) (hk : 0 < k) : ∃ g cp, v = .slice (some ⟨g, 0, none⟩) k cp ∧ k ≤ cp ∧ Pts w g 0 k px py := by
  have h' : w.ownsRow b 35 2 v (prs px py k).length (cellsP (prs px py k)) := by rw [prs_len]; exact h
  obtain ⟨g, cp, e, hgb, hgl, hcp, hc⟩ := shape33 h' (by rw [prs_len]; exact hk)
  rw [prs_len] at e hcp
  refine ⟨g, cp, e, hcp, hgl, fun i hi => ?_, fun i hi => ?_⟩
  · have := (hc i (by rw [prs_len]; exact hi)).1
    rw [Nat.zero_add, this]
    simp [prs]
  · have := (hc i (by rw [prs_len]; exact hi)).2
    rw [Nat.zero_add, this]
    simp [prs]

theorem sideB_true {A B C : Nat → Nat} {a b : Nat} : ∀ {m : Nat}, sideB A B C a b m = true → ∃ i, i < m ∧ hasB A B C i a b = true
  | 0, h => by cases h
  | m + 1, h => by
    unfold sideB at h
    rcases Bool.or_eq_true_iff.1 h with k | k
    · obtain ⟨i, hi, q⟩ := sideB_true k
      exact ⟨i, by omega, q⟩
    · exact ⟨m, by omega, k⟩

/-- Two points are corners of one triangle, if they are joined. -/
theorem side_joined {px py : Nat → Int} {n : Nat} {M : Nat → Nat → Option Nat} {d : Array T3} (hm : Geo.Mesh px py n M) (hT : Tris M d) {i k : Nat} (hne : i ≠ k) : sideB (dA d) (dB d) (dC d) i k d.size = true ↔ Joined M i k := by
  constructor
  · intro h
    obtain ⟨j, hj, q⟩ := sideB_true h
    have e := (hT.lists.tri j hj).1
    have e2 := hm.cyc _ _ _ e
    have e3 := hm.cyc _ _ _ e2
    unfold hasB at q
    simp only [Bool.and_eq_true, Bool.or_eq_true, beq_iff_eq] at q
    unfold Joined
    obtain ⟨q1, q2⟩ := q
    rcases q1 with (q1 | q1) | q1 <;> rcases q2 with (q2 | q2) | q2 <;> first
      | exact absurd (q1.symm.trans q2) hne
      | (left; rw [← q1, ← q2]; first | (rw [e]; simp; done) | (rw [e2]; simp; done) | (rw [e3]; simp; done))
      | (right; rw [← q1, ← q2]; first | (rw [e]; simp; done) | (rw [e2]; simp; done) | (rw [e3]; simp; done))
  · have key : ∀ a c, M a c ≠ none → ((a = i ∧ c = k) ∨ (a = k ∧ c = i)) → sideB (dA d) (dB d) (dC d) i k d.size = true := by
      intro a c hn hac
      cases e : M a c with
      | none => exact absurd e hn
      | some z =>
        obtain ⟨j, hj, q⟩ := hT.lists.has hm e
        refine sideB_of hj ?_
        unfold hasB
        rcases hac with ⟨rfl, rfl⟩ | ⟨rfl, rfl⟩ <;> rcases q with ⟨q1, q2, q3⟩ | ⟨q1, q2, q3⟩ | ⟨q1, q2, q3⟩ <;> simp [q1, q2, q3]
    rintro (h | h)
    · exact key i k h (.inl ⟨rfl, rfl⟩)
    · exact key k i h (.inr ⟨rfl, rfl⟩)

theorem bool_iff {a b : Bool} (h : a = true ↔ b = true) : a = b := by
  cases a <;> cases b <;> simp_all

end Go.Proofs.YtdbebbbceeopaaaGreat
