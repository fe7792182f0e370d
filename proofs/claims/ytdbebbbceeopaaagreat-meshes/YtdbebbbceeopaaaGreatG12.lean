import Derived.Test.YtdbebbbceeopaaaGreatG3
import Derived.Test.YtdbebbbceeopaaaGreatG11
import Derived.Laws.FloatArith
import Derived.Deep.QuietTactic
set_option linter.unusedSimpArgs false
namespace Go.Proofs.YtdbebbbceeopaaaGreat
open Go.RowKit
open Flt (Is)

set_option maxHeartbeats 400000 in
/-- plane.square, of a way. -/
theorem square_any (u1 u2 : Nat) (ux uy : Int) (hu1 : Is u1 ux) (hu2 : Is u2 uy) (A : -2000 ≤ ux ∧ ux ≤ 2000) (A' : -2000 ≤ uy ∧ uy ≤ 2000) :
    ∃ r, Is r (Geo.sq ux uy) ∧ ∀ w : World, Calls Tryz.prog 135 #[.complex .f64 u1 u2] w fun e w' => e = .returned (.float .f64 r) ∧ w' = w := by
  have hn := hu2.neg
  have b1' := bnd_mul (a := ux) (b := ux) (A := 2000) (B := 2000) (by omega) (by omega) (by omega) (by omega)
  have b2' := bnd_mul (a := -uy) (b := uy) (A := 2000) (B := 2000) (by omega) (by omega) (by omega) (by omega)
  have b3' := bnd_mul (a := ux) (b := uy) (A := 2000) (B := 2000) (by omega) (by omega) (by omega) (by omega)
  have b4' := bnd_mul (a := -uy) (b := ux) (A := 2000) (B := 2000) (by omega) (by omega) (by omega) (by omega)
  obtain ⟨p1, ep1, hp1⟩ := hu1.mul hu1 (by omega) (by omega)
  obtain ⟨p2, ep2, hp2⟩ := hn.mul hu2 (by omega) (by omega)
  obtain ⟨p3, ep3, hp3⟩ := hu1.mul hu2 (by omega) (by omega)
  obtain ⟨p4, ep4, hp4⟩ := hn.mul hu1 (by omega) (by omega)
  obtain ⟨s1, es1, hs1⟩ := hp1.sub hp2 (by omega) (by omega)
  obtain ⟨s2, es2, _⟩ := hp3.add hp4 (by omega) (by omega)
  refine ⟨s1, ?_, ?_⟩
  · have e : Geo.sq ux uy = ux * ux - -uy * uy := by
      unfold Geo.sq; rw [Int.neg_mul]; omega
    rw [e]; exact hs1
  · intro w
    have k3 : cMulBits u1 (Op.negFloat .f64 u2) u1 u2 = some (s1, s2) := by simp [cMulBits, ep1, ep2, ep3, ep4, es1, es2]
    have o3 := fun t w => run_complex_mul (P := Tryz.prog) w t u1 (Op.negFloat .f64 u2) u1 u2 s1 s2 k3
    generalize hnu : Op.negFloat .f64 u2 = nu at *
    clear A A' hu1 hu2 hn b1' b2' b3' b4' ep1 ep2 ep3 ep4 hp1 hp2 hp3 hp4 es1 es2 hs1 k3
    have cj := conj_any u1 u2
    rw [hnu] at cj
    clear hnu
    go_enter Tryz.func135, Tryz.ntmps135
    go_wp2_with (go_at_call 97; refine (cj _).mono ?_; rintro e w' ⟨rfl, rfl⟩)
    go_ret
    exact ⟨rfl, rfl⟩

theorem sq_bd {x y : Int} (h1 : -2000 ≤ x ∧ x ≤ 2000) (h2 : -2000 ≤ y ∧ y ≤ 2000) : 0 ≤ Geo.sq x y ∧ Geo.sq x y ≤ 8000000 := by
  have := Geo.sq_nonneg' x y
  have a := bnd_mul (a := x) (b := x) (A := 2000) (B := 2000) h1.1 h1.2 h1.1 h1.2
  have b := bnd_mul (a := y) (b := y) (A := 2000) (B := 2000) h2.1 h2.2 h2.1 h2.2
  unfold Geo.sq at *
  omega

theorem prod_bd {s c : Int} (h1 : 0 ≤ s ∧ s ≤ 8000000) (h2 : -8000000 ≤ c ∧ c ≤ 8000000) : -64000000000000 ≤ s * c ∧ s * c ≤ 64000000000000 := by
  have := bnd_mul (a := s) (b := c) (A := 8000000) (B := 8000000) (by omega) h1.2 h2.1 h2.2
  omega

theorem tw_bd8 {ax ay bx bya cx cy : Int} (A : -1000 ≤ ax ∧ ax ≤ 1000) (A' : -1000 ≤ ay ∧ ay ≤ 1000) (B : -1000 ≤ bx ∧ bx ≤ 1000) (B' : -1000 ≤ bya ∧ bya ≤ 1000) (C : -1000 ≤ cx ∧ cx ≤ 1000) (C' : -1000 ≤ cy ∧ cy ≤ 1000) :
    -8000000 ≤ tw ax ay bx bya cx cy ∧ tw ax ay bx bya cx cy ≤ 8000000 := by
  have := tw_bd A A' B B' C C'
  unfold tw
  omega

theorem prod_bd8 {s c : Int} (h1 : -8000000 ≤ s ∧ s ≤ 8000000) (h2 : -8000000 ≤ c ∧ c ≤ 8000000) : -64000000000000 ≤ s * c ∧ s * c ≤ 64000000000000 := by
  have := bnd_mul (a := s) (b := c) (A := 8000000) (B := 8000000) (by omega) h1.2 h2.1 h2.2
  omega

/-- The sum that tells whether d lies below, of places and their heights. -/
def blV (ax ay bx bya cx cy dx dy ha hb hc hd : Int) : Int := (ha - hd) * tw dx dy bx bya cx cy + (hb - hd) * tw dx dy cx cy ax ay + (hc - hd) * tw dx dy ax ay bx bya

set_option maxRecDepth 100000 in
set_option maxHeartbeats 4000000 in
/-- plane.Below, of places that stand for points in bounds, with a height as plane.Within has it. -/
theorem below_any134 (a1 a2 b1 b2 c1 c2 d1 d2 ra rb rc rd : Nat) (ax ay bx bya cx cy dx dy ha hb hc hd : Int) (hax : Is a1 ax) (hay : Is a2 ay) (hbx : Is b1 bx) (hby : Is b2 bya) (hcx : Is c1 cx) (hcy : Is c2 cy) (hdx : Is d1 dx) (hdy : Is d2 dy)
    (A : -1000 ≤ ax ∧ ax ≤ 1000) (A' : -1000 ≤ ay ∧ ay ≤ 1000) (B : -1000 ≤ bx ∧ bx ≤ 1000) (B' : -1000 ≤ bya ∧ bya ≤ 1000) (C : -1000 ≤ cx ∧ cx ≤ 1000) (C' : -1000 ≤ cy ∧ cy ≤ 1000) (D : -1000 ≤ dx ∧ dx ≤ 1000) (D' : -1000 ≤ dy ∧ dy ≤ 1000)
    (ia : Is ra ha) (ib : Is rb hb) (ic : Is rc hc) (id : Is rd hd) (BA : 0 ≤ ha ∧ ha ≤ 8000000) (BB : 0 ≤ hb ∧ hb ≤ 8000000) (BC : 0 ≤ hc ∧ hc ≤ 8000000) (BD : 0 ≤ hd ∧ hd ≤ 8000000) (caps : Array Value) (w : World)
    (Ka : Calls Tryz.prog 134 (#[.complex .f64 a1 a2] ++ caps) w fun e w' => e = .returned (.float .f64 ra) ∧ w' = w)
    (Kb : Calls Tryz.prog 134 (#[.complex .f64 b1 b2] ++ caps) w fun e w' => e = .returned (.float .f64 rb) ∧ w' = w)
    (Kc : Calls Tryz.prog 134 (#[.complex .f64 c1 c2] ++ caps) w fun e w' => e = .returned (.float .f64 rc) ∧ w' = w)
    (Kd : Calls Tryz.prog 134 (#[.complex .f64 d1 d2] ++ caps) w fun e w' => e = .returned (.float .f64 rd) ∧ w' = w) :
    Calls Tryz.prog 112 #[.complex .f64 a1 a2, .complex .f64 b1 b2, .complex .f64 c1 c2, .complex .f64 d1 d2, .func (.func 134) #[] caps] w fun e w' =>
      e = .returned (.bool (decide (0 < blV ax ay bx bya cx cy dx dy ha hb hc hd))) ∧ w' = w := by
  obtain ⟨ca, hca, La⟩ := turn_any d1 d2 b1 b2 c1 c2 _ _ _ _ _ _ hdx hdy hbx hby hcx hcy D D' B B' C C'
  obtain ⟨cb, hcb, Lb⟩ := turn_any d1 d2 c1 c2 a1 a2 _ _ _ _ _ _ hdx hdy hcx hcy hax hay D D' C C' A A'
  obtain ⟨cc, hcc, Lc⟩ := turn_any d1 d2 a1 a2 b1 b2 _ _ _ _ _ _ hdx hdy hax hay hbx hby D D' A A' B B'
  obtain ⟨sa, ea, hsa⟩ := ia.sub id (by omega) (by omega)
  obtain ⟨sb, eb, hsb⟩ := ib.sub id (by omega) (by omega)
  obtain ⟨sc, ec, hsc⟩ := ic.sub id (by omega) (by omega)
  have m1 := prod_bd8 (s := ha - hd) (by omega) (tw_bd8 D D' B B' C C')
  have m2 := prod_bd8 (s := hb - hd) (by omega) (tw_bd8 D D' C C' A A')
  have m3 := prod_bd8 (s := hc - hd) (by omega) (tw_bd8 D D' A A' B B')
  obtain ⟨x1, ex1, hx1⟩ := hsa.mul hca (by omega) (by omega)
  obtain ⟨x2, ex2, hx2⟩ := hsb.mul hcb (by omega) (by omega)
  obtain ⟨x3, ex3, hx3⟩ := hsc.mul hcc (by omega) (by omega)
  obtain ⟨y1, ey1, hy1⟩ := hx1.add hx2 (by omega) (by omega)
  obtain ⟨y2, ey2, hy2⟩ := hy1.add hx3 (by omega) (by omega)
  have g := gtr_zero hy2
  have s1 := fun t w => run_float_arith (P := Tryz.prog) w .sub t .f64 ra rd sa ea
  have s2 := fun t w => run_float_arith (P := Tryz.prog) w .sub t .f64 rb rd sb eb
  have s3 := fun t w => run_float_arith (P := Tryz.prog) w .sub t .f64 rc rd sc ec
  have f1 := fun t w => run_float_arith (P := Tryz.prog) w .mul t .f64 sa ca x1 ex1
  have f2 := fun t w => run_float_arith (P := Tryz.prog) w .mul t .f64 sb cb x2 ex2
  have f3 := fun t w => run_float_arith (P := Tryz.prog) w .mul t .f64 sc cc x3 ex3
  have f4 := fun t w => run_float_arith (P := Tryz.prog) w .add t .f64 x1 x2 y1 ey1
  have f5 := fun t w => run_float_arith (P := Tryz.prog) w .add t .f64 y1 x3 y2 ey2
  obtain ⟨d, hd'⟩ : ∃ d, d = decide (0 < blV ax ay bx bya cx cy dx dy ha hb hc hd) := ⟨_, rfl⟩
  have g' : (FloatKind.f64.format.order y2 0 == some Ordering.gt) = d := by rw [hd']; exact g
  rw [← hd']
  have HKa := hid Ka
  have HKb := hid Kb
  have HKc := hid Kc
  have HKd := hid Kd
  have HLa := hid La
  have HLb := hid Lb
  have HLc := hid Lc
  clear hd' g hax hay hbx hby hcx hcy hdx hdy A A' B B' C C' D D' ea eb ec hsa hsb hsc hca hcb hcc m1 m2 m3 ex1 ex2 ex3 ey1 ey2 hx1 hx2 hx3 hy1 hy2 Ka Kb Kc Kd La Lb Lc ia ib ic id BA BB BC BD
  go_enter Tryz.func112, Tryz.ntmps112
  go_wp2_with fail
  refine (HKd.out).mono ?_
  rintro e w' ⟨rfl, rfl⟩
  go_wp2_with fail
  refine (HKa.out).mono ?_
  rintro e w' ⟨rfl, rfl⟩
  go_wp2_with fail
  refine (HLa.out _).mono ?_
  rintro e w' ⟨rfl, rfl⟩
  go_wp2_with fail
  refine (HKb.out).mono ?_
  rintro e w' ⟨rfl, rfl⟩
  go_wp2_with fail
  refine (HLb.out _).mono ?_
  rintro e w' ⟨rfl, rfl⟩
  go_wp2_with fail
  refine (HKc.out).mono ?_
  rintro e w' ⟨rfl, rfl⟩
  go_wp2_with fail
  refine (HLc.out _).mono ?_
  rintro e w' ⟨rfl, rfl⟩
  go_wp2_with fail
  go_ret
  exact ⟨rfl, rfl⟩

set_option maxHeartbeats 400000 in
/-- The height that plane.Within has. -/
theorem height_any (p1 p2 d1 d2 bk : Nat) (x y dx dy : Int) (h1 : Is p1 x) (h2 : Is p2 y) (h3 : Is d1 dx) (h4 : Is d2 dy) (A : -1000 ≤ x ∧ x ≤ 1000) (A' : -1000 ≤ y ∧ y ≤ 1000) (D : -1000 ≤ dx ∧ dx ≤ 1000) (D' : -1000 ≤ dy ∧ dy ≤ 1000) :
    ∃ r, Is r (Geo.sq (x - dx) (y - dy)) ∧ ∀ w : World, w.cell? ⟨bk, 0, none⟩ = some (.complex .f64 d1 d2) → Calls Tryz.prog 134 #[.complex .f64 p1 p2, .pointer (some ⟨bk, 0, none⟩)] w fun e w' => e = .returned (.float .f64 r) ∧ w' = w := by
  obtain ⟨u1, e1, i1⟩ := h1.sub h3 (by omega) (by omega)
  obtain ⟨u2, e2, i2⟩ := h2.sub h4 (by omega) (by omega)
  have k1 : cSumBits .sub .f64 p1 p2 d1 d2 = some (u1, u2) := by simp [cSumBits, e1, e2]
  have o1 := fun t w => run_complex_sum (P := Tryz.prog) w .sub (Or.inr rfl) t .f64 p1 p2 d1 d2 u1 u2 k1
  obtain ⟨r, hr, K⟩ := square_any u1 u2 _ _ i1 i2 (by omega) (by omega)
  refine ⟨r, hr, fun w hc => ?_⟩
  have HK := hid K
  clear K hr k1 e1 e2 i1 i2 h1 h2 h3 h4 A A' D D'
  go_enter Tryz.func134, Tryz.ntmps134
  go_wp2_with fail
  refine (HK.out _).mono ?_
  rintro e w' ⟨rfl, rfl⟩
  go_wp2_with fail
  go_ret
  exact ⟨rfl, rfl⟩

theorem wn_bl (ax ay bx bya cx cy dx dy : Int) : blV ax ay bx bya cx cy dx dy (Geo.sq (ax - dx) (ay - dy)) (Geo.sq (bx - dx) (bya - dy)) (Geo.sq (cx - dx) (cy - dy)) (Geo.sq (dx - dx) (dy - dy)) = Geo.sq (ax - dx) (ay - dy) * tw dx dy bx bya cx cy + Geo.sq (bx - dx) (bya - dy) * tw dx dy cx cy ax ay + Geo.sq (cx - dx) (cy - dy) * tw dx dy ax ay bx bya := by
  have : Geo.sq (dx - dx) (dy - dy) = 0 := by unfold Geo.sq; rw [Int.sub_self, Int.sub_self]; rfl
  unfold blV
  rw [this]
  simp

set_option maxRecDepth 100000 in
set_option maxHeartbeats 4000000 in
/-- plane.Within, of places that stand for points in bounds. -/
theorem within_any (a1 a2 b1 b2 c1 c2 d1 d2 : Nat) (px py : Nat → Int) (a b c d : Nat) (hax : Is a1 (px a)) (hay : Is a2 (py a)) (hbx : Is b1 (px b)) (hby : Is b2 (py b)) (hcx : Is c1 (px c)) (hcy : Is c2 (py c)) (hdx : Is d1 (px d)) (hdy : Is d2 (py d))
    (A : (-1000 ≤ px a ∧ px a ≤ 1000) ∧ (-1000 ≤ py a ∧ py a ≤ 1000)) (B : (-1000 ≤ px b ∧ px b ≤ 1000) ∧ (-1000 ≤ py b ∧ py b ≤ 1000)) (C : (-1000 ≤ px c ∧ px c ≤ 1000) ∧ (-1000 ≤ py c ∧ py c ≤ 1000)) (D : (-1000 ≤ px d ∧ px d ≤ 1000) ∧ (-1000 ≤ py d ∧ py d ≤ 1000)) (w : World) :
    Calls Tryz.prog 117 #[.complex .f64 a1 a2, .complex .f64 b1 b2, .complex .f64 c1 c2, .complex .f64 d1 d2] w fun e w' =>
      e = .returned (.bool (decide (0 < Geo.Wn px py a b c d))) ∧ Below w.heap.size w w' := by
  obtain ⟨ra, ia, Ka⟩ := height_any a1 a2 d1 d2 w.heap.size _ _ _ _ hax hay hdx hdy A.1 A.2 D.1 D.2
  obtain ⟨rb, ib, Kb⟩ := height_any b1 b2 d1 d2 w.heap.size _ _ _ _ hbx hby hdx hdy B.1 B.2 D.1 D.2
  obtain ⟨rc, ic, Kc⟩ := height_any c1 c2 d1 d2 w.heap.size _ _ _ _ hcx hcy hdx hdy C.1 C.2 D.1 D.2
  obtain ⟨rd, id, Kd⟩ := height_any d1 d2 d1 d2 w.heap.size _ _ _ _ hdx hdy hdx hdy D.1 D.2 D.1 D.2
  have cell : (w.alloc (.cells #[.complex .f64 d1 d2] 94)).cell? ⟨w.heap.size, 0, none⟩ = some (.complex .f64 d1 d2) := World.cell?_alloc_at _ _ _ _ rfl
  have K := hid (below_any134 a1 a2 b1 b2 c1 c2 d1 d2 ra rb rc rd _ _ _ _ _ _ _ _ _ _ _ _ hax hay hbx hby hcx hcy hdx hdy A.1 A.2 B.1 B.2 C.1 C.2 D.1 D.2 ia ib ic id (sq_bd (by omega) (by omega)) (sq_bd (by omega) (by omega)) (sq_bd (by omega) (by omega)) (sq_bd (by omega) (by omega)) #[.pointer (some ⟨w.heap.size, 0, none⟩)] (w.alloc (.cells #[.complex .f64 d1 d2] 94)) (Ka _ cell) (Kb _ cell) (Kc _ cell) (Kd _ cell))
  have e : blV (px a) (py a) (px b) (py b) (px c) (py c) (px d) (py d) (Geo.sq (px a - px d) (py a - py d)) (Geo.sq (px b - px d) (py b - py d)) (Geo.sq (px c - px d) (py c - py d)) (Geo.sq (px d - px d) (py d - py d)) = Geo.Wn px py a b c d := wn_bl _ _ _ _ _ _ _ _
  rw [e] at K
  generalize decide (0 < Geo.Wn px py a b c d) = r at *
  clear Ka Kb Kc Kd hax hay hbx hby hcx hcy hdx hdy A B C D ia ib ic id e
  go_enter Tryz.func117, Tryz.ntmps117
  go_wp2_with fail
  refine (K.out).mono ?_
  rintro e w' ⟨rfl, rfl⟩
  go_wp2_with fail
  go_ret
  exact ⟨rfl, (Below.refl _ _).alloc (Nat.le_refl _) _⟩
end Go.Proofs.YtdbebbbceeopaaaGreat
