import Derived.Test.YtdbebbbceeopaaaGreatG14
import Derived.Test.YtdbebbbceeopaaaGreatG3
set_option linter.unusedSimpArgs false
namespace Go.Proofs.YtdbebbbceeopaaaGreat
open Go.RowKit

def thirdZ (z : List Int) (k : Nat) (a b : Int) : Int := thirdI (z.getD (k * 3) 0) (z.getD (k * 3 + 1) 0) (z.getD (k * 3 + 2) 0) a b

/-- How many triangles have a side this way round, and the third corner of the last. -/
def acr (z : List Int) (a b : Int) : Nat → Int × Int
  | 0 => (0, -1)
  | k + 1 => if 0 ≤ thirdZ z k a b then ((acr z a b k).1 + 1, thirdZ z k a b) else acr z a b k

theorem acr_bd (z : List Int) (a b : Int) (k : Nat) : 0 ≤ (acr z a b k).1 ∧ (acr z a b k).1 ≤ k := by
  induction k with
  | zero => simp [acr]
  | succ k ih =>
    unfold acr
    split
    · dsimp only; omega
    · omega

set_option maxRecDepth 100000 in
set_option maxHeartbeats 2000000 in
theorem across_any (m mcap : Nat) (pt : Option Addr) (z : List Int) (a b : Int) (w : World) (hm : m ≤ 8796093021952) (ht : 0 < m → ∃ g o, pt = some ⟨g, o, none⟩ ∧ Trs w g o m z) :
    Calls Tryz.prog 89 #[.slice pt m mcap, .int .i64 a, .int .i64 b] w fun e w' => e = .returned (.tuple #[.int .i64 (acr z a b m).1, .int .i64 (acr z a b m).2]) ∧ Below w.heap.size w w' := by
  have HT := hid ht
  clear ht
  go_enter Tryz.func89, Tryz.ntmps89
  go_wp2
  go_loopw [8, 9, 10] (fun n c i wr => ∃ k : Nat, k ≤ m ∧ i = .int .i64 k ∧ n = .int .i64 (acr z a b k).1 ∧ c = .int .i64 (acr z a b k).2 ∧ Hid (Below w.heap.size w wr)) (fun _ _ i _ => m - (intOf i).toNat)
  case atStart => exact ⟨0, Nat.zero_le _, rfl, rfl, rfl, hid (Below.refl _ _)⟩
  case round =>
    obtain ⟨k, hk, rfl, rfl, rfl, HB⟩ := hrel
    by_cases hlt : k < m
    · have hlt' : (k : Int) < m := by omega
      obtain ⟨g, o, rfl, hT⟩ := HT.out (by omega)
      obtain ⟨t0, t1, t2⟩ := (hT.below HB.out).2 k hlt
      have bd := acr_bd z a b k
      have K := hid (third_any (z.getD (k * 3) 0) (z.getD (k * 3 + 1) 0) (z.getD (k * 3 + 2) 0) a b)
      have A1 : Hid (0 ≤ thirdZ z k a b → acr z a b (k + 1) = ((acr z a b k).1 + 1, thirdZ z k a b)) := hid (fun h => by rw [acr, if_pos h])
      have A2 : Hid (¬ 0 ≤ thirdZ z k a b → acr z a b (k + 1) = acr z a b k) := hid (fun h => by rw [acr, if_neg h])
      rw [show thirdI (z.getD (k * 3) 0) (z.getD (k * 3 + 1) 0) (z.getD (k * 3 + 2) 0) a b = thirdZ z k a b from rfl] at K
      generalize thirdZ z k a b = x at *
      generalize z.getD (k * 3) 0 = ta at *
      generalize z.getD (k * 3 + 1) 0 = tb at *
      generalize z.getD (k * 3 + 2) 0 = tc at *
      obtain ⟨n0, hn0⟩ : ∃ n0, (acr z a b k).1 = n0 := ⟨_, rfl⟩
      obtain ⟨c0, hc0⟩ : ∃ c0, (acr z a b k).2 = c0 := ⟨_, rfl⟩
      have N0 := hid hn0
      have C0 := hid hc0
      rw [hn0] at bd ⊢
      rw [hc0]
      clear hn0 hc0 hT HT
      go_wp2_with fail
      refine (K.out _).mono ?_
      rintro e W2 ⟨rfl, hb⟩
      have HB2 := bstep HB hb
      clear hb t0 t1 t2
      by_cases hx : 0 ≤ x
      · have e1 : Hid (acr z a b (k + 1) = (n0 + 1, x)) := hid (by rw [A1.out hx, N0.out])
        go_wp2_with fail
        go_roundw
        case rel => exact ⟨k + 1, by omega, by go_num, by rw [e1.out], by rw [e1.out], HB2⟩
        case measure => simp [intOf]; omega
      · have e1 : Hid (acr z a b (k + 1) = acr z a b k) := hid (A2.out (by omega))
        go_wp2_with fail
        go_roundw
        case rel => exact ⟨k + 1, by omega, by go_num, by rw [e1.out, N0.out], by rw [e1.out, C0.out], HB2⟩
        case measure => simp [intOf]; omega
    · have hkm : k = m := by omega
      subst hkm
      go_wp2
      go_ret2
      exact ⟨rfl, HB.out⟩

/-- Within, as the document has it. -/
def wnR (ax ay bx bya cx cy dx dy : Int) : Int :=
  (ax - dx) * ((bya - dy) * ((cx - dx) * (cx - dx) + (cy - dy) * (cy - dy)) - ((bx - dx) * (bx - dx) + (bya - dy) * (bya - dy)) * (cy - dy)) -
    (ay - dy) * ((bx - dx) * ((cx - dx) * (cx - dx) + (cy - dy) * (cy - dy)) - ((bx - dx) * (bx - dx) + (bya - dy) * (bya - dy)) * (cx - dx)) +
    ((ax - dx) * (ax - dx) + (ay - dy) * (ay - dy)) * ((bx - dx) * (cy - dy) - (bya - dy) * (cx - dx))

theorem sqr_bd {u v : Int} (h1 : -2000 ≤ u ∧ u ≤ 2000) (h2 : -2000 ≤ v ∧ v ≤ 2000) : -4000000 ≤ u * v ∧ u * v ≤ 4000000 := by
  have := bnd_mul (a := u) (b := v) (A := 2000) (B := 2000) h1.1 h1.2 h2.1 h2.2
  omega

theorem wide_bd {u v : Int} (h1 : -2000 ≤ u ∧ u ≤ 2000) (h2 : -8000000 ≤ v ∧ v ≤ 8000000) : -16000000000 ≤ u * v ∧ u * v ≤ 16000000000 := by
  have := bnd_mul (a := u) (b := v) (A := 2000) (B := 8000000) h1.1 h1.2 h2.1 h2.2
  omega

theorem wider_bd {u v : Int} (h1 : -2000 ≤ u ∧ u ≤ 2000) (h2 : -32000000000 ≤ v ∧ v ≤ 32000000000) : -64000000000000 ≤ u * v ∧ u * v ≤ 64000000000000 := by
  have := bnd_mul (a := u) (b := v) (A := 2000) (B := 32000000000) h1.1 h1.2 h2.1 h2.2
  omega

theorem both_bd {u v : Int} (h1 : -8000000 ≤ u ∧ u ≤ 8000000) (h2 : -8000000 ≤ v ∧ v ≤ 8000000) : -64000000000000 ≤ u * v ∧ u * v ≤ 64000000000000 := by
  have := bnd_mul (a := u) (b := v) (A := 8000000) (B := 8000000) h1.1 h1.2 h2.1 h2.2
  omega

set_option maxRecDepth 100000 in
set_option maxHeartbeats 4000000 in
theorem rwithin_any (ax ay bx bya cx cy dx dy : Int) (A : -1000 ≤ ax ∧ ax ≤ 1000) (A' : -1000 ≤ ay ∧ ay ≤ 1000) (B : -1000 ≤ bx ∧ bx ≤ 1000) (B' : -1000 ≤ bya ∧ bya ≤ 1000) (C : -1000 ≤ cx ∧ cx ≤ 1000) (C' : -1000 ≤ cy ∧ cy ≤ 1000) (D : -1000 ≤ dx ∧ dx ≤ 1000) (D' : -1000 ≤ dy ∧ dy ≤ 1000) (w : World) :
    Calls Tryz.prog 87 #[.agg #[.int .i64 ax, .int .i64 ay], .agg #[.int .i64 bx, .int .i64 bya], .agg #[.int .i64 cx, .int .i64 cy], .agg #[.int .i64 dx, .int .i64 dy]] w fun e w' => e = .returned (.int .i64 (wnR ax ay bx bya cx cy dx dy)) ∧ Below w.heap.size w w' := by
  unfold wnR
  have a1 : -2000 ≤ ax - dx ∧ ax - dx ≤ 2000 := by omega
  have a2 : -2000 ≤ ay - dy ∧ ay - dy ≤ 2000 := by omega
  have b1 : -2000 ≤ bx - dx ∧ bx - dx ≤ 2000 := by omega
  have b2 : -2000 ≤ bya - dy ∧ bya - dy ≤ 2000 := by omega
  have c1 : -2000 ≤ cx - dx ∧ cx - dx ≤ 2000 := by omega
  have c2 : -2000 ≤ cy - dy ∧ cy - dy ≤ 2000 := by omega
  have s1 := sqr_bd a1 a1
  have s2 := sqr_bd a2 a2
  have s3 := sqr_bd b1 b1
  have s4 := sqr_bd b2 b2
  have s5 := sqr_bd c1 c1
  have s6 := sqr_bd c2 c2
  have s7 := sqr_bd b1 c2
  have s8 := sqr_bd b2 c1
  have za : -8000000 ≤ (ax - dx) * (ax - dx) + (ay - dy) * (ay - dy) ∧ (ax - dx) * (ax - dx) + (ay - dy) * (ay - dy) ≤ 8000000 := by omega
  have zb : -8000000 ≤ (bx - dx) * (bx - dx) + (bya - dy) * (bya - dy) ∧ (bx - dx) * (bx - dx) + (bya - dy) * (bya - dy) ≤ 8000000 := by omega
  have zc : -8000000 ≤ (cx - dx) * (cx - dx) + (cy - dy) * (cy - dy) ∧ (cx - dx) * (cx - dx) + (cy - dy) * (cy - dy) ≤ 8000000 := by omega
  have m1 := wide_bd b2 zc
  have m2 := wide_bd c2 zb
  have m3 := wide_bd b1 zc
  have m4 := wide_bd c1 zb
  rw [Int.mul_comm (cy - dy)] at m2
  rw [Int.mul_comm (cx - dx) (_ + _)] at m4
  have x1 := wider_bd a1 (v := (bya - dy) * ((cx - dx) * (cx - dx) + (cy - dy) * (cy - dy)) - ((bx - dx) * (bx - dx) + (bya - dy) * (bya - dy)) * (cy - dy)) (by omega)
  have x2 := wider_bd a2 (v := (bx - dx) * ((cx - dx) * (cx - dx) + (cy - dy) * (cy - dy)) - ((bx - dx) * (bx - dx) + (bya - dy) * (bya - dy)) * (cx - dx)) (by omega)
  have x3 := both_bd za (v := (bx - dx) * (cy - dy) - (bya - dy) * (cx - dx)) (by omega)
  obtain ⟨s1, s1'⟩ := s1
  obtain ⟨s2, s2'⟩ := s2
  obtain ⟨s3, s3'⟩ := s3
  obtain ⟨s4, s4'⟩ := s4
  obtain ⟨s5, s5'⟩ := s5
  obtain ⟨s6, s6'⟩ := s6
  obtain ⟨s7, s7'⟩ := s7
  obtain ⟨s8, s8'⟩ := s8
  obtain ⟨m1, m1'⟩ := m1
  obtain ⟨m2, m2'⟩ := m2
  obtain ⟨m3, m3'⟩ := m3
  obtain ⟨m4, m4'⟩ := m4
  obtain ⟨x1, x1'⟩ := x1
  obtain ⟨x2, x2'⟩ := x2
  obtain ⟨x3, x3'⟩ := x3
  clear za zb zc
  go_enter Tryz.func87, Tryz.ntmps87
  go_wp2
  go_ret
  refine ⟨rfl, ?_⟩
  exact ((((Below.refl _ _).alloc (Nat.le_refl _) _).alloc (by simp) _).alloc (by simp; omega) _).alloc (by simp; omega) _
end Go.Proofs.YtdbebbbceeopaaaGreat

set_option linter.unusedSimpArgs false
namespace Go.Proofs.YtdbebbbceeopaaaGreat
open Go.RowKit

/-- The triangles of a list are of points that there are. -/
structure Row3 (n m : Nat) (z : List Int) (A B C : Nat → Nat) : Prop where
  a : ∀ i, i < m → A i < n ∧ B i < n ∧ C i < n
  z : ∀ i, i < m → z.getD (i * 3) 0 = A i ∧ z.getD (i * 3 + 1) 0 = B i ∧ z.getD (i * 3 + 2) 0 = C i

set_option maxRecDepth 100000 in
set_option maxHeartbeats 4000000 in
theorem rround_any (px py : Nat → Int) (n qb qo cap g o m mcap : Nat) (z : List Int) (A B C : Nat → Nat) (w : World) (hp : Pts w qb qo n px py) (ht : Trs w g o m z) (hn : n ≤ 40) (hm : m ≤ 2000) (hbd : Bds n px py) (hr : Row3 n m z A B C)
    (hw : ∀ i, i < m → ∀ k, k < n → wnR (px (A i)) (py (A i)) (px (B i)) (py (B i)) (px (C i)) (py (C i)) (px k) (py k) ≤ 0) :
    Calls Tryz.prog 50 #[.slice (some ⟨qb, qo, none⟩) n cap, .slice (some ⟨g, o, none⟩) m mcap] w fun e w' => e = .returned (.bool true) ∧ Below w.heap.size w w' := by
  have HP := hid hp
  have HT := hid ht
  have HBD := hid hbd
  have HR := hid hr
  have HW := hid hw
  clear hp ht hbd hr hw
  go_enter Tryz.func50, Tryz.ntmps50
  go_wp2
  go_loopw [5] (fun i wr => ∃ k : Nat, k ≤ m ∧ i = .int .i64 k ∧ Hid (Below w.heap.size w wr)) (fun i _ => m - (intOf i).toNat)
  case atStart => exact ⟨0, Nat.zero_le _, rfl, hid (Below.refl _ _)⟩
  case round =>
    obtain ⟨i, hi, rfl, HB⟩ := hrel
    by_cases hlt : i < m
    · have hlt' : (i : Int) < m := by omega
      obtain ⟨W0, rfl⟩ : ∃ W0, W0 = wr := ⟨wr, rfl⟩
      go_wp2
      go_loopw [6] (fun kk wr => ∃ k : Nat, k ≤ n ∧ kk = .int .i64 k ∧ Hid (Below w.heap.size w wr)) (fun kk _ => n - (intOf kk).toNat)
      case atStart => exact ⟨0, Nat.zero_le _, rfl, HB⟩
      case round =>
        clear HB
        obtain ⟨k, hk, rfl, HB⟩ := hrel
        by_cases hlk : k < n
        · have hlk' : (k : Int) < n := by omega
          have hl := HR.out.a i hlt
          obtain ⟨z0, z1, z2⟩ := HR.out.z i hlt
          obtain ⟨t0, t1, t2⟩ := (HT.out.below HB.out).2 i hlt
          rw [z0] at t0
          rw [z1] at t1
          rw [z2] at t2
          have hpw := HP.out.below HB.out HP.out.lt
          have xa := hpw.x (A i) hl.1
          have ya := hpw.y (A i) hl.1
          have xb := hpw.x (B i) hl.2.1
          have yb := hpw.y (B i) hl.2.1
          have xc := hpw.x (C i) hl.2.2
          have yc := hpw.y (C i) hl.2.2
          have xk := hpw.x k hlk
          have yk := hpw.y k hlk
          have K1 := hid (rwithin_any (px (A i)) (py (A i)) (px (B i)) (py (B i)) (px (C i)) (py (C i)) (px k) (py k) (HBD.out _ hl.1).1 (HBD.out _ hl.1).2 (HBD.out _ hl.2.1).1 (HBD.out _ hl.2.1).2 (HBD.out _ hl.2.2).1 (HBD.out _ hl.2.2).2 (HBD.out _ hlk).1 (HBD.out _ hlk).2)
          have hv := HW.out i hlt k hlk
          generalize wnR (px (A i)) (py (A i)) (px (B i)) (py (B i)) (px (C i)) (py (C i)) (px k) (py k) = wv at *
          have hv' : ¬ 0 < wv := by omega
          have gl := hpw.lt
          have gt := (HT.out.below HB.out).1
          generalize A i = a at *
          generalize B i = b at *
          generalize C i = c at *
          have a' : (a : Int) < n := by omega
          have b' : (b : Int) < n := by omega
          have c' : (c : Int) < n := by omega
          have q0 : (0 : Int) ≤ (k : Int) := by omega
          have q1 : (0 : Int) ≤ (a : Int) := by omega
          have q2 : (0 : Int) ≤ (b : Int) := by omega
          have q3 : (0 : Int) ≤ (c : Int) := by omega
          have q4 : (0 : Int) ≤ (i : Int) := by omega
          clear hpw z0 z1 z2 hv
          go_wp2
          go_region_held3 (fun w' => w'.cell? ⟨g, o + i * 3, none⟩ = some (.int .i64 a) ∧ w'.cell? ⟨g, o + i * 3 + 1, none⟩ = some (.int .i64 b) ∧ w'.cell? ⟨g, o + i * 3 + 2, none⟩ = some (.int .i64 c) ∧ w'.cell? ⟨qb, qo + a * 2, none⟩ = some (.int .i64 (px a)) ∧ w'.cell? ⟨qb, qo + a * 2 + 1, none⟩ = some (.int .i64 (py a)) ∧ w'.cell? ⟨qb, qo + b * 2, none⟩ = some (.int .i64 (px b)) ∧ w'.cell? ⟨qb, qo + b * 2 + 1, none⟩ = some (.int .i64 (py b)) ∧ w'.cell? ⟨qb, qo + c * 2, none⟩ = some (.int .i64 (px c)) ∧ w'.cell? ⟨qb, qo + c * 2 + 1, none⟩ = some (.int .i64 (py c)) ∧ w'.cell? ⟨qb, qo + k * 2, none⟩ = some (.int .i64 (px k)) ∧ w'.cell? ⟨qb, qo + k * 2 + 1, none⟩ = some (.int .i64 (py k))) (go_keep)
            ((go_at_call 87; refine (K1.out _).mono ?_; rintro e w6 ⟨rfl, hb6⟩; have u1 := (hb6.cell (p := ⟨qb, qo + a * 2, none⟩) gl).trans xa; have u2 := (hb6.cell (p := ⟨qb, qo + a * 2 + 1, none⟩) gl).trans ya; have u3 := (hb6.cell (p := ⟨qb, qo + b * 2, none⟩) gl).trans xb; have u4 := (hb6.cell (p := ⟨qb, qo + b * 2 + 1, none⟩) gl).trans yb; have u5 := (hb6.cell (p := ⟨qb, qo + c * 2, none⟩) gl).trans xc; have u6 := (hb6.cell (p := ⟨qb, qo + c * 2 + 1, none⟩) gl).trans yc; have u7 := (hb6.cell (p := ⟨qb, qo + k * 2, none⟩) gl).trans xk; have u8 := (hb6.cell (p := ⟨qb, qo + k * 2 + 1, none⟩) gl).trans yk; have v0 := (hb6.cell (p := ⟨g, o + i * 3, none⟩) gt).trans t0; have v1 := (hb6.cell (p := ⟨g, o + i * 3 + 1, none⟩) gt).trans t1; have v2 := (hb6.cell (p := ⟨g, o + i * 3 + 2, none⟩) gt).trans t2; have HB6 := hid hb6; clear hb6))
          clear u1 u2 u3 u4 u5 u6 u7 u8 v0 v1 v2 xa ya xb yb xc yc xk yk t0 t1 t2
          go_wp2
          go_roundw
          case rel => exact ⟨k + 1, by omega, by go_num, hid (HB.out.drew.trans (HB6.out.mono HB.out.size))⟩
          case measure => simp [intOf]; omega
        · have hkn : k = n := by omega
          subst hkn
          go_wp2
          go_roundw
          case rel => exact ⟨i + 1, by omega, by go_num, HB⟩
          case measure => simp [intOf]; omega
    · have hkm : i = m := by omega
      subst hkm
      go_wp2
      go_ret
      exact ⟨rfl, HB.out⟩
end Go.Proofs.YtdbebbbceeopaaaGreat

set_option linter.unusedSimpArgs false
namespace Go.Proofs.YtdbebbbceeopaaaGreat
open Go.RowKit

/-- The area of a fan, twice: of the first k of its triangles. -/
def fanI (px py : Nat → Int) (h : List Nat) : Nat → Int
  | 0 => 0
  | k + 1 => fanI px py h k + T px py (h.getD 0 0) (h.getD (k + 1) 0) (h.getD (k + 2) 0)

theorem T_bd {px py : Nat → Int} {n : Nat} (hbd : Bds n px py) {a b c : Nat} (ha : a < n) (hb : b < n) (hc : c < n) : -8000000 ≤ T px py a b c ∧ T px py a b c ≤ 8000000 := by
  have := tw_bd (hbd a ha).1 (hbd a ha).2 (hbd b hb).1 (hbd b hb).2 (hbd c hc).1 (hbd c hc).2
  unfold T tw
  omega

theorem fan_bd {px py : Nat → Int} {n : Nat} (hbd : Bds n px py) {h : List Nat} (hl : ∀ y ∈ h, y < n) : ∀ k, k + 2 ≤ h.length → -8000000 * (k : Int) ≤ fanI px py h k ∧ fanI px py h k ≤ 8000000 * (k : Int)
  | 0, _ => by simp [fanI]
  | k + 1, hk => by
    have ih := fan_bd hbd hl k (by omega)
    have g : ∀ j, j < h.length → h.getD j 0 < n := fun j hj => by
      rw [List.getD_eq_getElem?_getD, List.getElem?_eq_getElem hj]
      exact hl _ (List.getElem_mem hj)
    have := T_bd hbd (g 0 (by omega)) (g (k + 1) (by omega)) (g (k + 2) (by omega))
    rw [fanI]
    push_cast
    omega

set_option maxRecDepth 100000 in
set_option maxHeartbeats 4000000 in
theorem area_any (px py : Nat → Int) (n qb qo cap : Nat) (w : World) (hp : Pts w qb qo n px py) (h3 : 3 ≤ n) (hn : n ≤ 40) (hbd : Bds n px py) (h0 : refI px py n = 0) (hs : List Nat) (H : Geo.IsHull px py n hs)
    (hne : ∀ i j, i < n → j < n → i ≠ j → ¬ (px i = px j ∧ py i = py j)) (hl : ∀ y ∈ hs, y < n) (hlen : hs.length ≤ 40) (hl3 : 3 ≤ hs.length) :
    Calls Tryz.prog 121 #[.slice (some ⟨qb, qo, none⟩) n cap] w fun e w' => e = .returned (.int .i64 (fanI px py hs (hs.length - 2))) ∧ Below w.heap.size w w' := by
  have HH := hid (refHull_any px py n qb qo cap w hp h3 hn h0 hs H hne)
  have HP := hid hp
  have HBD := hid hbd
  clear hp hbd hne H h0
  obtain ⟨m, hm⟩ : ∃ m, hs.length = m + 2 := ⟨hs.length - 2, by omega⟩
  rw [show hs.length - 2 = m by omega]
  have HM := hid hm
  clear hm
  go_enter Tryz.func121, Tryz.ntmps121
  go_wp2_with fail
  refine HH.out.mono ?_
  rintro e W2 ⟨u, rfl, bel, own⟩
  obtain ⟨gh, ch, rfl, _, hgh, _, _, hc⟩ := row_of_owns own (by omega)
  have BEL := hid bel
  have HC : Hid (∀ j, j < hs.length → W2.cell? ⟨gh, j, none⟩ = some (.int .i64 (hs.getD j 0 : Nat))) := hid fun j hj => by
    rw [hc j hj, List.getD_eq_getElem?_getD, List.getElem?_eq_getElem hj]; rfl
  have HL : Hid (∀ j, j < hs.length → hs.getD j 0 < n) := hid fun j hj => by
    rw [List.getD_eq_getElem?_getD, List.getElem?_eq_getElem hj]
    exact hl _ (List.getElem_mem hj)
  have HF := hid (fun k hk => fan_bd HBD.out hl k hk)
  clear own hc bel hl HH
  rw [HM.out] at HC HL HF hlen hl3 ⊢
  go_wp2_with fail
  go_loopw [5, 6] (fun s i wr => ∃ k j : Nat, k ≤ m ∧ j = k + 1 ∧ i = .int .i64 j ∧ s = .int .i64 (fanI px py hs k) ∧ Hid (Below W2.heap.size W2 wr)) (fun _ i _ => m + 1 - (intOf i).toNat)
  case atStart => exact ⟨0, 1, Nat.zero_le _, rfl, rfl, rfl, hid (Below.refl _ _)⟩
  case round =>
    obtain ⟨k, j, hk, hj, rfl, rfl, HB⟩ := hrel
    have w1 : IntKind.i64.wrap ((j : Int) + 1) = (j : Int) + 1 := by rw [IntKind.wrap_i64]; omega
    by_cases hlt : k < m
    · have hlt' : (j : Int) + 1 < (m : Int) + 2 := by omega
      have d0 : wr.cell? ⟨gh, 0, none⟩ = some (.int .i64 (hs.getD 0 0 : Nat)) := (HB.out.cell hgh).trans (HC.out 0 (by omega))
      have d1 : wr.cell? ⟨gh, j, none⟩ = some (.int .i64 (hs.getD (k + 1) 0 : Nat)) := by rw [hj]; exact (HB.out.cell hgh).trans (HC.out (k + 1) (by omega))
      have d2 : wr.cell? ⟨gh, j + 1, none⟩ = some (.int .i64 (hs.getD (k + 2) 0 : Nat)) := by rw [hj]; exact (HB.out.cell hgh).trans (HC.out (k + 2) (by omega))
      have l0 := HL.out 0 (by omega)
      have l1 := HL.out (k + 1) (by omega)
      have l2 := HL.out (k + 2) (by omega)
      have bd := HF.out k (by omega)
      have FN : Hid (fanI px py hs (k + 1) = fanI px py hs k + T px py (hs.getD 0 0) (hs.getD (k + 1) 0) (hs.getD (k + 2) 0)) := hid rfl
      generalize hs.getD 0 0 = a at *
      generalize hs.getD (k + 1) 0 = b at *
      generalize hs.getD (k + 2) 0 = c at *
      have hpw := (HP.out.below BEL.out HP.out.lt).below HB.out (HP.out.below BEL.out HP.out.lt).lt
      have xa := hpw.x a l0
      have ya := hpw.y a l0
      have xb := hpw.x b l1
      have yb := hpw.y b l1
      have xc := hpw.x c l2
      have yc := hpw.y c l2
      have gl := hpw.lt
      have K1 := hid (rturn_at HBD.out a b c l0 l1 l2)
      have tb := T_bd HBD.out l0 l1 l2
      generalize T px py a b c = t at *
      generalize fanI px py hs k = f at *
      have gt : gh < wr.heap.size := Nat.lt_of_lt_of_le hgh HB.out.size
      have a' : (a : Int) < n := by omega
      have b' : (b : Int) < n := by omega
      have c' : (c : Int) < n := by omega
      have z0 : (0 : Int) ≤ (a : Int) := by omega
      have z1 : (0 : Int) ≤ (b : Int) := by omega
      have z2 : (0 : Int) ≤ (c : Int) := by omega
      have z3 : (0 : Int) ≤ (j : Int) := by omega
      have z4 : (0 : Int) ≤ (j : Int) + 1 := by omega
      have z5 : (j : Int) < (m : Int) + 2 := by omega
      have z6 : (0 : Int) < (m : Int) + 2 := by omega
      have z7 : 0 < m + 2 := by omega
      have wf : IntKind.i64.wrap (f + t) = f + t := by rw [IntKind.wrap_i64]; omega
      have HJ := hid hj
      have hjm : j < m + 1 := by omega
      clear hpw hj
      go_wp2
      go_region_held3 (fun w' => w'.cell? ⟨gh, 0, none⟩ = some (.int .i64 a) ∧ w'.cell? ⟨gh, j, none⟩ = some (.int .i64 b) ∧ w'.cell? ⟨gh, j + 1, none⟩ = some (.int .i64 c) ∧ w'.cell? ⟨qb, qo + a * 2, none⟩ = some (.int .i64 (px a)) ∧ w'.cell? ⟨qb, qo + a * 2 + 1, none⟩ = some (.int .i64 (py a)) ∧ w'.cell? ⟨qb, qo + b * 2, none⟩ = some (.int .i64 (px b)) ∧ w'.cell? ⟨qb, qo + b * 2 + 1, none⟩ = some (.int .i64 (py b)) ∧ w'.cell? ⟨qb, qo + c * 2, none⟩ = some (.int .i64 (px c)) ∧ w'.cell? ⟨qb, qo + c * 2 + 1, none⟩ = some (.int .i64 (py c))) (go_keep)
        ((go_at_call 86; refine (K1.out _).mono ?_; rintro e w6 ⟨rfl, hb6⟩; have u1 := (hb6.cell (p := ⟨qb, qo + a * 2, none⟩) gl).trans xa; have u2 := (hb6.cell (p := ⟨qb, qo + a * 2 + 1, none⟩) gl).trans ya; have u3 := (hb6.cell (p := ⟨qb, qo + b * 2, none⟩) gl).trans xb; have u4 := (hb6.cell (p := ⟨qb, qo + b * 2 + 1, none⟩) gl).trans yb; have u5 := (hb6.cell (p := ⟨qb, qo + c * 2, none⟩) gl).trans xc; have u6 := (hb6.cell (p := ⟨qb, qo + c * 2 + 1, none⟩) gl).trans yc; have v0 := (hb6.cell (p := ⟨gh, 0, none⟩) gt).trans d0; have v1 := (hb6.cell (p := ⟨gh, j, none⟩) gt).trans d1; have v2 := (hb6.cell (p := ⟨gh, j + 1, none⟩) gt).trans d2; have HB6 := hid hb6; clear hb6))
      clear u1 u2 u3 u4 u5 u6 v0 v1 v2 xa ya xb yb xc yc d0 d1 d2
      go_wp2
      go_roundw
      case rel => exact ⟨k + 1, j + 1, by omega, by rw [HJ.out], by go_num, by rw [FN.out], hid (HB.out.drew.trans (HB6.out.mono HB.out.size))⟩
      case measure => simp [intOf]; omega
    · have hkm : k = m := by omega
      subst hkm
      go_wp2
      go_ret
      exact ⟨rfl, BEL.out.trans (HB.out.mono BEL.out.size)⟩
end Go.Proofs.YtdbebbbceeopaaaGreat

set_option linter.unusedSimpArgs false
namespace Go.Proofs.YtdbebbbceeopaaaGreat
open Go.RowKit

theorem Tryz.info4 : (Tryz.prog.info? 4).map (fun i => (i.zero, i.size, i.bytes)) = some (some (.bool false), 1, 1) := by kernel_rfl

/-- A row of yes and no. -/
def bl (f : Nat → Bool) (n : Nat) : List Value := (List.range n).map fun j => .bool (f j)

theorem bl_set (f : Nat → Bool) (n k : Nat) : (bl f n).set k (.bool true) = bl (fun j => f j || j == k) n := by
  apply List.ext_getElem?
  intro j
  by_cases hj : j < n
  · by_cases e : j = k
    · subst e; simp [bl, hj]
    · have e' : ¬ k = j := fun h => e h.symm
      simp [bl, hj, List.getElem?_set, e', e]
  · simp [bl, hj, List.getElem?_set]

theorem bl_zero (n : Nat) : (madeCells (Value.bool false).cells (n * 1)).toList = bl (fun _ => false) n := by
  apply List.ext_getElem?
  intro j
  simp [bl, madeCells, Value.cells, Nat.mod_one]

/-- Which points are corners of the first k triangles. -/
def cf (A B C : Nat → Nat) : Nat → Nat → Bool
  | 0, _ => false
  | k + 1, p => ((cf A B C k p || p == A k) || p == B k) || p == C k

/-- The area of the first k triangles, twice. -/
def su (px py : Nat → Int) (A B C : Nat → Nat) : Nat → Int
  | 0 => 0
  | k + 1 => su px py A B C k + T px py (A k) (B k) (C k)

/-- What triangles must be to fill. -/
structure FillOk (px py : Nat → Int) (n m : Nat) (z : List Int) (A B C : Nat → Nat) (ar : Int) : Prop where
  row : Row3 n m z A B C
  ord : ∀ i, i < m → A i < B i ∧ A i < C i ∧ B i ≠ C i
  pos : ∀ i, i < m → 0 < T px py (A i) (B i) (C i)
  srt : ∀ i, i + 1 < m → A i < A (i + 1) ∨ (A i = A (i + 1) ∧ (B i < B (i + 1) ∨ (B i = B (i + 1) ∧ C i < C (i + 1))))
  cor : ∀ p, p < n → cf A B C m p = true
  one : ∀ i k, i < n → k < n → (acr z i k m).1 ≤ 1
  bor : ∀ i k : Nat, i < n → k < n → (acr z i k m).1 = 1 → (acr z k i m).1 = 0 → bordB px py i k n = true
  sum : su px py A B C m = ar

theorem su_bd {px py : Nat → Int} {n m : Nat} (hbd : Bds n px py) {A B C : Nat → Nat} (ha : ∀ i, i < m → A i < n ∧ B i < n ∧ C i < n) : ∀ k, k ≤ m → -8000000 * (k : Int) ≤ su px py A B C k ∧ su px py A B C k ≤ 8000000 * (k : Int)
  | 0, _ => by simp [su]
  | k + 1, hk => by
    have ih := su_bd hbd ha k (by omega)
    have l := ha k (by omega)
    have := T_bd hbd l.1 l.2.1 l.2.2
    rw [su]
    push_cast
    omega

set_option maxRecDepth 100000 in
set_option maxHeartbeats 8000000 in
theorem fills_any (px py : Nat → Int) (n qb qo cap g o m mcap : Nat) (z : List Int) (A B C : Nat → Nat) (ar : Int) (w : World) (hp : Pts w qb qo n px py) (ht : Trs w g o m z) (hn : n ≤ 40) (hm : m ≤ 2000) (hbd : Bds n px py)
    (hf : FillOk px py n m z A B C ar) (har : ∀ W, Below w.heap.size w W → Calls Tryz.prog 121 #[.slice (some ⟨qb, qo, none⟩) n cap] W fun e w' => e = .returned (.int .i64 ar) ∧ Below W.heap.size W w') :
    Calls Tryz.prog 84 #[.slice (some ⟨qb, qo, none⟩) n cap, .slice (some ⟨g, o, none⟩) m mcap] w fun e w' => e = .returned (.bool true) ∧ Below w.heap.size w w' := by
  have HP := hid hp
  have HT := hid ht
  have HBD := hid hbd
  have HF := hid hf
  have HAR := hid har
  obtain ⟨i0, hi, hz0, hz1, hz2⟩ := info_parts Tryz.info4
  clear hp ht hbd hf har
  go_enter Tryz.func84, Tryz.ntmps84
  go_wp2_with (at_make; refine wpList_make_full _ rfl (.tmp 18) (.tmp 18) 152 rfl w.heap.size 4 i0 (.bool false) 1 Tryz.underlying152 hi hz0 hz1 .i64 .i64 _ _ n rfl rfl rfl rfl (by rw [hz2]; omega) (by unfold maxLen; omega) (Nat.le_refl _) ?_; intro w2 hown hgrow)
  have hown1 : w2.ownsRow w.heap.size 4 1 (.slice (some ⟨w.heap.size, 0, none⟩) n n) n (bl (fun _ => false) n) := by
    rw [← bl_zero]; simpa using hown
  have hb2 : Below w.heap.size w w2 := (Below.refl _ _).grown hgrow (Nat.le_refl _) (fun k hk => by cases hk)
  clear hown hgrow
  have H1 := hid hown1
  have H2 := hid hb2
  clear hown1 hb2 hi hz0 hz1 hz2 i0
  go_loopw [5, 7] (fun s i wr => ∃ k : Nat, k ≤ m ∧ i = .int .i64 k ∧ s = .int .i64 (su px py A B C k) ∧ Hid (wr.ownsRow w.heap.size 4 1 (.slice (some ⟨w.heap.size, 0, none⟩) n n) n (bl (cf A B C k) n)) ∧ Hid (Below w.heap.size w wr)) (fun _ i _ => m - (intOf i).toNat)
  case atStart => exact ⟨0, Nat.zero_le _, rfl, rfl, H1, H2⟩
  case round =>
    clear H1 H2
    obtain ⟨i, hi, rfl, rfl, HO, HB⟩ := hrel
    by_cases hlt : i < m
    · have hlt' : (i : Int) < m := by omega
      have hl := HF.out.row.a i hlt
      obtain ⟨z0, z1, z2⟩ := HF.out.row.z i hlt
      obtain ⟨t0, t1, t2⟩ := (HT.out.below HB.out).2 i hlt
      rw [z0] at t0
      rw [z1] at t1
      rw [z2] at t2
      have ho := HF.out.ord i hlt
      have hpos := HF.out.pos i hlt
      have hsu := su_bd HBD.out (fun i hi => HF.out.row.a i hi) i (by omega)
      have hpw := HP.out.below HB.out HP.out.lt
      have K1 := hid (rturn_at HBD.out (A i) (B i) (C i) hl.1 hl.2.1 hl.2.2)
      have tb := T_bd HBD.out hl.1 hl.2.1 hl.2.2
      have SN : Hid (su px py A B C (i + 1) = su px py A B C i + T px py (A i) (B i) (C i)) := hid rfl
      have CN : Hid (cf A B C (i + 1) = fun p => ((cf A B C i p || p == A i) || p == B i) || p == C i) := hid rfl
      generalize T px py (A i) (B i) (C i) = t at *
      generalize su px py A B C i = s0 at *
      generalize hA : A i = a at *
      generalize hB : B i = b at *
      generalize hC : C i = c at *
      have EA := hid hA
      have EB := hid hB
      have EC := hid hC
      have xa := cell_new (o := .cells #[.int .i64 a, .int .i64 b, .int .i64 c] 46) (hpw.x a hl.1)
      have ya := cell_new (o := .cells #[.int .i64 a, .int .i64 b, .int .i64 c] 46) (hpw.y a hl.1)
      have xb := cell_new (o := .cells #[.int .i64 a, .int .i64 b, .int .i64 c] 46) (hpw.x b hl.2.1)
      have yb := cell_new (o := .cells #[.int .i64 a, .int .i64 b, .int .i64 c] 46) (hpw.y b hl.2.1)
      have xc := cell_new (o := .cells #[.int .i64 a, .int .i64 b, .int .i64 c] 46) (hpw.x c hl.2.2)
      have yc := cell_new (o := .cells #[.int .i64 a, .int .i64 b, .int .i64 c] 46) (hpw.y c hl.2.2)
      have c1 : ¬ (a : Int) < 0 := by omega
      have c2 : ¬ (b : Int) ≤ a := by omega
      have c3 : ¬ (c : Int) ≤ a := by omega
      have c4 : ¬ (n : Int) ≤ b := by omega
      have c5 : ¬ (n : Int) ≤ c := by omega
      have c6 : ((b : Int) == (c : Int)) = false := by rw [beq_eq_false_iff_ne]; omega
      have c7 : ¬ t ≤ 0 := by omega
      have a' : (a : Int) < n := by omega
      have b' : (b : Int) < n := by omega
      have c' : (c : Int) < n := by omega
      have q1 : (0 : Int) ≤ (a : Int) := by omega
      have q2 : (0 : Int) ≤ (b : Int) := by omega
      have q3 : (0 : Int) ≤ (c : Int) := by omega
      clear hpw z0 z1 z2 hA hB hC
      go_wp2_with fail
      obtain ⟨W1, hW1⟩ : ∃ W1 : World, W1 = wr.alloc (.cells #[.int .i64 a, .int .i64 b, .int .i64 c] 46) := ⟨_, rfl⟩
      rw [← hW1] at xa ya xb yb xc yc ⊢
      have C1 : Hid (Cel W1 [(wr.heap.size, 0, a), (wr.heap.size, 1, b), (wr.heap.size, 2, c)]) := hid (by
        rw [hW1]
        exact Cel.cons (World.cell?_alloc_at _ _ _ _ rfl) (Cel.cons (World.cell?_alloc_at _ _ _ _ rfl) (Cel.cons (World.cell?_alloc_at _ _ _ _ rfl) (fun q hq => by cases hq))))
      have B1 : Hid (Below w.heap.size w W1) := hid (by rw [hW1]; exact HB.out.alloc HB.out.size _)
      have O1 : Hid (W1.ownsRow w.heap.size 4 1 (.slice (some ⟨w.heap.size, 0, none⟩) n n) n (bl (cf A B C i) n)) := hid (by rw [hW1]; exact HO.out.alloc _)
      have X0 : W1.cell? ⟨wr.heap.size, 0, none⟩ = some (.int .i64 a) := C1.out.get 0 _ rfl
      have X1 : W1.cell? ⟨wr.heap.size, 1, none⟩ = some (.int .i64 b) := C1.out.get 1 _ rfl
      have X2 : W1.cell? ⟨wr.heap.size, 2, none⟩ = some (.int .i64 c) := C1.out.get 2 _ rfl
      have gl : qb < W1.heap.size := World.block_lt_of_cell? W1 _ xa
      have gx : wr.heap.size < W1.heap.size := World.block_lt_of_cell? W1 _ X0
      have XW : w.heap.size < wr.heap.size := by
        rcases HO.out.2 with ⟨h', _⟩ | ⟨g', cap', cur, h', _, hg, _⟩
        · cases h'
        · simp only [Value.slice.injEq, Option.some.injEq, Addr.mk.injEq, and_true, true_and] at h'
          obtain ⟨rfl, rfl⟩ := h'
          exact (Array.getElem?_eq_some_iff.1 hg).1
      clear hW1 t0 t1 t2
      go_region_held3 (fun w' => w'.cell? ⟨wr.heap.size, 0, none⟩ = some (.int .i64 a) ∧ w'.cell? ⟨wr.heap.size, 1, none⟩ = some (.int .i64 b) ∧ w'.cell? ⟨wr.heap.size, 2, none⟩ = some (.int .i64 c) ∧ w'.cell? ⟨qb, qo + a * 2, none⟩ = some (.int .i64 (px a)) ∧ w'.cell? ⟨qb, qo + a * 2 + 1, none⟩ = some (.int .i64 (py a)) ∧ w'.cell? ⟨qb, qo + b * 2, none⟩ = some (.int .i64 (px b)) ∧ w'.cell? ⟨qb, qo + b * 2 + 1, none⟩ = some (.int .i64 (py b)) ∧ w'.cell? ⟨qb, qo + c * 2, none⟩ = some (.int .i64 (px c)) ∧ w'.cell? ⟨qb, qo + c * 2 + 1, none⟩ = some (.int .i64 (py c))) (go_keep)
        ((go_at_call 86; refine (K1.out _).mono ?_; rintro e w6 ⟨rfl, hb6⟩; have u1 := (hb6.cell (p := ⟨qb, qo + a * 2, none⟩) gl).trans xa; have u2 := (hb6.cell (p := ⟨qb, qo + a * 2 + 1, none⟩) gl).trans ya; have u3 := (hb6.cell (p := ⟨qb, qo + b * 2, none⟩) gl).trans xb; have u4 := (hb6.cell (p := ⟨qb, qo + b * 2 + 1, none⟩) gl).trans yb; have u5 := (hb6.cell (p := ⟨qb, qo + c * 2, none⟩) gl).trans xc; have u6 := (hb6.cell (p := ⟨qb, qo + c * 2 + 1, none⟩) gl).trans yc; have v0 := (hb6.cell (p := ⟨wr.heap.size, 0, none⟩) gx).trans X0; have v1 := (hb6.cell (p := ⟨wr.heap.size, 1, none⟩) gx).trans X1; have v2 := (hb6.cell (p := ⟨wr.heap.size, 2, none⟩) gx).trans X2; have HB6 := hid hb6; clear hb6))
      clear u1 u2 u3 u4 u5 u6 xa ya xb yb xc yc X0 X1 X2
      have B16 : Hid (Below W1.heap.size W1 w6) := hid ((Below.refl _ _).drew.trans HB6.out)
      have B6 := bstep B1 B16.out
      have o6 := owns_below O1.out B16.out
      have gb : ∀ (f : Nat → Bool) (j : Nat), j < n → (bl f n)[j]? = some (.bool (f j)) := fun f j hj => by simp [bl, hj]
      have cl6 := o6.cellAt a (by omega)
      rw [gb _ a hl.1] at cl6
      have fr6 := o6.frozenAt a
      have o7 := (o6.stored a (.bool true)).1
      rw [bl_set] at o7
      have cl7 := o7.cellAt b (by omega)
      rw [gb _ b hl.2.1] at cl7
      have fr7 := o7.frozenAt b
      have o8 := (o7.stored b (.bool true)).1
      rw [bl_set] at o8
      have cl8 := o8.cellAt c (by omega)
      rw [gb _ c hl.2.2] at cl8
      have fr8 := o8.frozenAt c
      have o9 := (o8.stored c (.bool true)).1
      rw [bl_set] at o9
      have B9 : Hid (Below w.heap.size w (((w6.setCell ⟨w.heap.size, a, none⟩ (.bool true)).setCell ⟨w.heap.size, b, none⟩ (.bool true)).setCell ⟨w.heap.size, c, none⟩ (.bool true))) := hid (((B6.out.setCell (Nat.le_refl _) _).setCell (Nat.le_refl _) _).setCell (Nat.le_refl _) _)
      have O9' : Hid ((((w6.setCell ⟨w.heap.size, a, none⟩ (.bool true)).setCell ⟨w.heap.size, b, none⟩ (.bool true)).setCell ⟨w.heap.size, c, none⟩ (.bool true)).ownsRow w.heap.size 4 1 (.slice (some ⟨w.heap.size, 0, none⟩) n n) n (bl (cf A B C (i + 1)) n)) := hid (by rw [CN.out]; exact o9)
      have far : ∀ (W : World) (j k : Nat) (v : Value), (W.setCell ⟨w.heap.size, j, none⟩ v).cell? ⟨wr.heap.size, k, none⟩ = W.cell? ⟨wr.heap.size, k, none⟩ := fun W j k v => World.cell?_setCell_far W _ _ v (by show w.heap.size ≠ wr.heap.size; omega)
      have v1' := (far w6 a 1 (.bool true)).trans v1
      have v2' := (far _ b 2 (.bool true)).trans ((far w6 a 2 (.bool true)).trans v2)
      have y0 := (far _ c 0 (.bool true)).trans ((far _ b 0 (.bool true)).trans ((far w6 a 0 (.bool true)).trans v0))
      have y1 := (far _ c 1 (.bool true)).trans ((far _ b 1 (.bool true)).trans ((far w6 a 1 (.bool true)).trans v1))
      have y2 := (far _ c 2 (.bool true)).trans ((far _ b 2 (.bool true)).trans ((far w6 a 2 (.bool true)).trans v2))
      have wf : IntKind.i64.wrap (s0 + t) = s0 + t := by rw [IntKind.wrap_i64]; omega
      clear o6 o7 o8 o9 gb far hpos ho hsu tb c1 c2 c3 c4 c5 c6 gl gx XW
      generalize cf A B C i a = e6 at *
      generalize (cf A B C i b || b == a) = e7 at *
      generalize ((cf A B C i c || c == a) || c == b) = e8 at *
      go_wp2_with fail
      obtain ⟨W9, hW9⟩ : ∃ W9 : World, W9 = ((w6.setCell ⟨w.heap.size, a, none⟩ (.bool true)).setCell ⟨w.heap.size, b, none⟩ (.bool true)).setCell ⟨w.heap.size, c, none⟩ (.bool true) := ⟨_, rfl⟩
      rw [← hW9] at y0 y1 y2 B9 O9' ⊢
      have TT := hid (((HT.out.below B9.out).2))
      clear hW9 cl6 cl7 cl8 fr6 fr7 fr8 v0 v1 v2 v1' v2' B6 B16 HB6 O1 C1 B1 HO HB K1 wf c7 a' b' c' q1 q2 q3
      rcases Nat.eq_zero_or_pos i with hi0 | hi0
      · subst hi0
        go_region
        go_wp2_with fail
        go_roundw
        case rel => exact ⟨1, by omega, by go_num, by rw [SN.out], O9', hid B9.out.drew⟩
        case measure => simp [intOf]; omega
      · obtain ⟨j, hj⟩ : ∃ j, i = j + 1 := ⟨i - 1, by omega⟩
        have EA' : Hid (A (j + 1) = a) := hid (by rw [← hj]; exact EA.out)
        have EB' : Hid (B (j + 1) = b) := hid (by rw [← hj]; exact EB.out)
        have EC' : Hid (C (j + 1) = c) := hid (by rw [← hj]; exact EC.out)
        obtain ⟨s0', s1', s2'⟩ := TT.out j (by omega)
        obtain ⟨zz0, zz1, zz2⟩ := HF.out.row.z j (by omega)
        have srt := HF.out.srt j (by omega)
        rw [zz0] at s0'
        rw [zz1] at s1'
        rw [zz2] at s2'
        rw [EA'.out, EB'.out, EC'.out] at srt
        clear EA' EB' EC' EA EB EC
        generalize A j = a0 at *
        generalize B j = b0 at *
        generalize C j = c0 at *
        have jm : (j : Int) < m := by omega
        have j0 : decide ((0 : Int) < (i : Int)) = true := by simp; omega
        have j0' : decide (0 < i) = true := by simp; omega
        have jp : (0 : Int) ≤ (j : Int) := by omega
        have ws : IntKind.i64.wrap ((i : Int) - 1) = (j : Int) := by rw [IntKind.wrap_i64]; omega
        clear zz0 zz1 zz2 hj
        rcases srt with k1 | ⟨k1, k2 | ⟨k2, k3⟩⟩
        · have g1 : decide ((a : Int) < a0) = false := by simp; omega
          have g2 : ((a0 : Int) == (a : Int)) = false := by rw [beq_eq_false_iff_ne]; omega
          clear k1
          generalize ((a : Nat) : Int) = ia at *
          generalize ((b : Nat) : Int) = ib at *
          generalize ((c : Nat) : Int) = ic at *
          generalize ((a0 : Nat) : Int) = ia0 at *
          generalize ((b0 : Nat) : Int) = ib0 at *
          generalize ((c0 : Nat) : Int) = ic0 at *
          go_quiet (fail)
          go_wp2_with fail
          go_roundw
          case rel => exact ⟨i + 1, by omega, by go_num, by rw [SN.out], O9', hid (below_drewN B9.out _)⟩
          case measure => simp [intOf]; omega
        · have g1 : decide ((a : Int) < a0) = false := by simp; omega
          have g2 : ((a0 : Int) == (a : Int)) = true := by rw [beq_iff_eq]; omega
          have g3 : decide ((b : Int) < b0) = false := by simp; omega
          have g4 : ((b0 : Int) == (b : Int)) = false := by rw [beq_eq_false_iff_ne]; omega
          clear k1 k2
          generalize ((a : Nat) : Int) = ia at *
          generalize ((b : Nat) : Int) = ib at *
          generalize ((c : Nat) : Int) = ic at *
          generalize ((a0 : Nat) : Int) = ia0 at *
          generalize ((b0 : Nat) : Int) = ib0 at *
          generalize ((c0 : Nat) : Int) = ic0 at *
          go_quiet (fail)
          go_wp2_with fail
          go_roundw
          case rel => exact ⟨i + 1, by omega, by go_num, by rw [SN.out], O9', hid (below_drewN B9.out _)⟩
          case measure => simp [intOf]; omega
        · have g1 : decide ((a : Int) < a0) = false := by simp; omega
          have g2 : ((a0 : Int) == (a : Int)) = true := by rw [beq_iff_eq]; omega
          have g3 : decide ((b : Int) < b0) = false := by simp; omega
          have g4 : ((b0 : Int) == (b : Int)) = true := by rw [beq_iff_eq]; omega
          have g5 : decide ((c : Int) ≤ c0) = false := by simp; omega
          clear k1 k2 k3
          generalize ((a : Nat) : Int) = ia at *
          generalize ((b : Nat) : Int) = ib at *
          generalize ((c : Nat) : Int) = ic at *
          generalize ((a0 : Nat) : Int) = ia0 at *
          generalize ((b0 : Nat) : Int) = ib0 at *
          generalize ((c0 : Nat) : Int) = ic0 at *
          go_quiet (fail)
          go_wp2_with fail
          go_roundw
          case rel => exact ⟨i + 1, by omega, by go_num, by rw [SN.out], O9', hid (below_drewN B9.out _)⟩
          case measure => simp [intOf]; omega
    · have hkm : i = m := by omega
      subst hkm
      obtain ⟨W0, rfl⟩ : ∃ W0, W0 = wr := ⟨wr, rfl⟩
      have gW : w.heap.size < W0.heap.size := by
        rcases HO.out.2 with ⟨h', _⟩ | ⟨g', cap', cur, h', _, hg, _⟩
        · cases h'
        · simp only [Value.slice.injEq, Option.some.injEq, Addr.mk.injEq, and_true, true_and] at h'
          obtain ⟨rfl, rfl⟩ := h'
          exact (Array.getElem?_eq_some_iff.1 hg).1
      have HCC : Hid (∀ p, p < n → W0.cell? ⟨w.heap.size, p, none⟩ = some (.bool true)) := hid fun p hp => by
        rw [HO.out.cellAt p (by omega)]
        simp [bl, hp, HF.out.cor p hp]
      have HSU := hid HF.out.sum
      have hsb := su_bd HBD.out (fun j hj => HF.out.row.a j hj) i (Nat.le_refl _)
      rw [HSU.out] at hsb ⊢
      clear HO
      go_wp2
      have HT0 := hid (HT.out.below HB.out)
      have HP0 := hid (HP.out.below HB.out HP.out.lt)
      go_loopw [10] (fun ii wr => ∃ p : Nat, p ≤ n ∧ ii = .int .i64 p ∧ Hid (Below W0.heap.size W0 wr)) (fun ii _ => n - (intOf ii).toNat)
      case atStart => exact ⟨0, Nat.zero_le _, rfl, hid (Below.refl _ _)⟩
      case round =>
        obtain ⟨p, hp, rfl, HB1⟩ := hrel
        by_cases hpn : p < n
        · have hpn' : (p : Int) < n := by omega
          have cp : wr.cell? ⟨w.heap.size, p, none⟩ = some (.bool true) := (HB1.out.cell gW).trans (HCC.out p hpn)
          obtain ⟨W3, rfl⟩ : ∃ W3, W3 = wr := ⟨wr, rfl⟩
          go_wp2
          go_loopw [11] (fun kk wr => ∃ k : Nat, k ≤ n ∧ kk = .int .i64 k ∧ Hid (Below W0.heap.size W0 wr)) (fun kk _ => n - (intOf kk).toNat)
          case atStart => exact ⟨0, Nat.zero_le _, rfl, HB1⟩
          case round =>
            clear HB1 cp
            obtain ⟨k, hk, rfl, HB1⟩ := hrel
            by_cases hkn : k < n
            · have hkn' : (k : Int) < n := by omega
              have one := HF.out.one p k hpn hkn
              have bdo := acr_bd z p k i
              have bdt := acr_bd z k p i
              have HBo := hid (HF.out.bor p k hpn hkn)
              have K1 := hid (fun (W : World) (hb : Below W0.heap.size W0 W) => across_any i mcap (some ⟨g, o, none⟩) z p k W (by omega) (fun _ => ⟨g, o, rfl, HT0.out.below hb⟩))
              have K2 := hid (fun (W : World) (hb : Below W0.heap.size W0 W) => across_any i mcap (some ⟨g, o, none⟩) z k p W (by omega) (fun _ => ⟨g, o, rfl, HT0.out.below hb⟩))
              have K3 := hid (fun (W : World) (hb : Below W0.heap.size W0 W) => border_any px py n qb qo cap p k W (HP0.out.below hb HP0.out.lt) hn HBD.out hpn hkn)
              generalize hn1 : (acr z p k i).1 = n1 at *
              generalize (acr z p k i).2 = m1 at *
              generalize hn2 : (acr z k p i).1 = n2 at *
              generalize (acr z k p i).2 = m2 at *
              clear hn1 hn2
              go_wp2_with fail
              refine (K1.out _ HB1.out).mono ?_
              rintro e W4 ⟨rfl, hb4⟩
              have HB4 := bstep HB1 hb4
              clear hb4
              go_wp2_with fail
              refine (K2.out _ HB4.out).mono ?_
              rintro e W5 ⟨rfl, hb5⟩
              have HB5 := bstep HB4 hb5
              clear hb5
              have x1 : ¬ 1 < n1 := by omega
              by_cases y1 : n1 = 1
              · have z1 : (n1 == 1) = true := by simp [y1]
                by_cases y2 : n2 = 0
                · have z2 : (n2 == 0) = true := by simp [y2]
                  have hbord := hid (HBo.out y1 y2)
                  clear y1 y2
                  go_wp2_with fail
                  refine (K3.out _ HB5.out).mono ?_
                  rintro e W6 ⟨rfl, hb6⟩
                  have HB6 := bstep HB5 hb6
                  rw [hbord.out]
                  clear hb6
                  go_wp2_with fail
                  go_roundw
                  case rel => exact ⟨k + 1, by omega, by go_num, HB6⟩
                  case measure => simp [intOf]; omega
                · have z2 : (n2 == 0) = false := by simp [y2]
                  clear y1 y2
                  go_wp2_with fail
                  go_roundw
                  case rel => exact ⟨k + 1, by omega, by go_num, HB5⟩
                  case measure => simp [intOf]; omega
              · have z1 : (n1 == 1) = false := by simp [y1]
                clear y1
                go_wp2_with fail
                go_roundw
                case rel => exact ⟨k + 1, by omega, by go_num, HB5⟩
                case measure => simp [intOf]; omega
            · have hkm : k = n := by omega
              subst hkm
              go_wp2
              go_roundw
              case rel => exact ⟨p + 1, by omega, by go_num, HB1⟩
              case measure => simp [intOf]; omega
        · have hpm : p = n := by omega
          subst hpm
          have HBw : Hid (Below w.heap.size w wr) := hid (HB.out.trans (HB1.out.mono HB.out.size))
          go_wp2_with fail
          refine (HAR.out _ HBw.out).mono ?_
          rintro e W7 ⟨rfl, hb7⟩
          have HB7 := bstep HBw hb7
          clear hb7
          have ee : (ar == ar) = true := by simp
          go_wp2_with fail
          go_ret
          exact ⟨rfl, HB7.out⟩
end Go.Proofs.YtdbebbbceeopaaaGreat

set_option linter.unusedSimpArgs false
namespace Go.Proofs.YtdbebbbceeopaaaGreat
open Geo

/-- A list that has each triangle of a mesh once, by rising corners. -/
structure Lists (M : Nat → Nat → Option Nat) (m : Nat) (A B C : Nat → Nat) : Prop where
  tri : ∀ i, i < m → M (A i) (B i) = some (C i) ∧ A i < B i ∧ A i < C i
  all : ∀ a b c, M a b = some c → a < b → a < c → ∃ i, i < m ∧ A i = a ∧ B i = b ∧ C i = c
  srt : ∀ i, i + 1 < m → A i < A (i + 1) ∨ (A i = A (i + 1) ∧ (B i < B (i + 1) ∨ (B i = B (i + 1) ∧ C i < C (i + 1))))

variable {px py : Nat → Int} {n m : Nat} {M : Nat → Nat → Option Nat} {A B C : Nat → Nat} {z : List Int}

theorem Lists.rise (h : Lists M m A B C) : ∀ d i, i + d + 1 < m → A i < A (i + d + 1) ∨ (A i = A (i + d + 1) ∧ (B i < B (i + d + 1) ∨ (B i = B (i + d + 1) ∧ C i < C (i + d + 1))))
  | 0, i, hi => h.srt i hi
  | d + 1, i, hi => by
    have h1 := h.rise d i (by omega)
    have h2 := h.srt (i + d + 1) (by omega)
    rw [show i + (d + 1) + 1 = i + d + 1 + 1 by omega]
    omega

theorem Lists.inj (h : Lists M m A B C) {i j : Nat} (hi : i < m) (hj : j < m) (e1 : A i = A j) (e2 : B i = B j) (e3 : C i = C j) : i = j := by
  rcases Nat.lt_trichotomy i j with k | k | k
  · have := h.rise (j - i - 1) i (by omega)
    rw [show i + (j - i - 1) + 1 = j by omega] at this
    omega
  · exact k
  · have := h.rise (i - j - 1) j (by omega)
    rw [show j + (i - j - 1) + 1 = i by omega] at this
    omega

/-- Each triangle's least corner may come first. -/
theorem least {px py : Nat → Int} {n : Nat} {M : Nat → Nat → Option Nat} (h : Mesh px py n M) {a b c : Nat} (e : M a b = some c) : (a < b ∧ a < c) ∨ (b < c ∧ b < a) ∨ (c < a ∧ c < b) := by
  have p := h.pos _ _ _ e
  have := T_ne12 p
  have := T_ne13 p
  have := T_ne23 p
  omega

theorem Lists.has (h : Lists M m A B C) (hm : Mesh px py n M) {a b c : Nat} (e : M a b = some c) :
    ∃ i, i < m ∧ ((A i = a ∧ B i = b ∧ C i = c) ∨ (B i = a ∧ C i = b ∧ A i = c) ∨ (C i = a ∧ A i = b ∧ B i = c)) := by
  have eb := hm.cyc _ _ _ e
  have ec := hm.cyc _ _ _ eb
  rcases least hm e with k | k | k
  · obtain ⟨i, hi, e1, e2, e3⟩ := h.all a b c e k.1 k.2
    exact ⟨i, hi, .inl ⟨e1, e2, e3⟩⟩
  · obtain ⟨i, hi, e1, e2, e3⟩ := h.all b c a eb k.1 k.2
    exact ⟨i, hi, .inr (.inr ⟨e3, e1, e2⟩)⟩
  · obtain ⟨i, hi, e1, e2, e3⟩ := h.all c a b ec k.1 k.2
    exact ⟨i, hi, .inr (.inl ⟨e2, e3, e1⟩)⟩

theorem third_hit (hr : Row3 n m z A B C) {j : Nat} (hj : j < m) (a b : Nat) : 0 ≤ thirdZ z j a b ↔ (A j = a ∧ B j = b) ∨ (B j = a ∧ C j = b) ∨ (C j = a ∧ A j = b) := by
  obtain ⟨z0, z1, z2⟩ := hr.z j hj
  unfold thirdZ
  rw [z0, z1, z2]
  unfold thirdI
  constructor
  · intro h
    split at h
    · rename_i k; exact .inl (by omega)
    · split at h
      · rename_i k; exact .inr (.inl (by omega))
      · split at h
        · rename_i k; exact .inr (.inr (by omega))
        · omega
  · intro h
    split
    · omega
    · split
      · omega
      · split
        · omega
        · omega

theorem Lists.side (h : Lists M m A B C) (hm : Mesh px py n M) {j a b : Nat} (hj : j < m) (k : (A j = a ∧ B j = b) ∨ (B j = a ∧ C j = b) ∨ (C j = a ∧ A j = b)) :
    ∃ c, M a b = some c ∧ ((A j = a ∧ B j = b ∧ C j = c) ∨ (B j = a ∧ C j = b ∧ A j = c) ∨ (C j = a ∧ A j = b ∧ B j = c)) := by
  have e := (h.tri j hj).1
  have eb := hm.cyc _ _ _ e
  have ec := hm.cyc _ _ _ eb
  rcases k with ⟨rfl, rfl⟩ | ⟨rfl, rfl⟩ | ⟨rfl, rfl⟩
  · exact ⟨_, e, .inl ⟨rfl, rfl, rfl⟩⟩
  · exact ⟨_, eb, .inr (.inl ⟨rfl, rfl, rfl⟩)⟩
  · exact ⟨_, ec, .inr (.inr ⟨rfl, rfl, rfl⟩)⟩

theorem acr_sum (z : List Int) (a b : Int) : ∀ k, (acr z a b k).1 = sm k (fun j => if 0 ≤ thirdZ z j a b then 1 else 0)
  | 0 => rfl
  | k + 1 => by
    rw [sm, ← acr_sum z a b k, acr]
    split
    · rfl
    · omega

theorem Lists.hits (h : Lists M m A B C) (hm : Mesh px py n M) (hr : Row3 n m z A B C) {a b i j : Nat} (hi : i < m) (hj : j < m) (k1 : 0 ≤ thirdZ z i a b) (k2 : 0 ≤ thirdZ z j a b) : i = j := by
  obtain ⟨c, e, q⟩ := h.side hm hi ((third_hit hr hi a b).1 k1)
  obtain ⟨c', e', q'⟩ := h.side hm hj ((third_hit hr hj a b).1 k2)
  rw [e] at e'
  cases e'
  have t1 := h.tri i hi
  have t2 := h.tri j hj
  exact h.inj hi hj (by omega) (by omega) (by omega)

theorem Lists.one (h : Lists M m A B C) (hm : Mesh px py n M) (hr : Row3 n m z A B C) (a b : Nat) : (acr z a b m).1 ≤ 1 := by
  rw [acr_sum]
  refine sm_le_one (fun j _ => by split <;> decide) fun i j hi hj k1 k2 => ?_
  have f : ∀ i : Nat, 0 < (if 0 ≤ thirdZ z i a b then (1 : Int) else 0) → 0 ≤ thirdZ z i a b := fun i k => by
    rcases Classical.em (0 ≤ thirdZ z i a b) with g | g
    · exact g
    · rw [if_neg g] at k; omega
  exact h.hits hm hr hi hj (f i k1) (f j k2)

theorem Lists.some_of (h : Lists M m A B C) (hm : Mesh px py n M) (hr : Row3 n m z A B C) (a b : Nat) (k : (acr z a b m).1 = 1) : ∃ c, M a b = some c := by
  rcases Classical.em (∃ j, j < m ∧ 0 ≤ thirdZ z j a b) with ⟨j, hj, g⟩ | g
  · obtain ⟨c, e, _⟩ := h.side hm hj ((third_hit hr hj a b).1 g)
    exact ⟨c, e⟩
  · exfalso
    have : sm m (fun j => if 0 ≤ thirdZ z j a b then (1 : Int) else 0) = sm m (fun _ => 0) := sm_congr fun j hj => if_neg fun k => g ⟨j, hj, k⟩
    rw [acr_sum, this, sm_zero] at k
    omega

theorem Lists.none_of (h : Lists M m A B C) (hm : Mesh px py n M) (hr : Row3 n m z A B C) (a b : Nat) (k : (acr z a b m).1 = 0) : M a b = none := by
  cases e : M a b with
  | none => rfl
  | some c =>
    exfalso
    obtain ⟨i, hi, q⟩ := h.has hm e
    have g : 0 ≤ thirdZ z i a b := (third_hit hr hi a b).2 (by omega)
    have := sm_ge_one (f := fun j => if 0 ≤ thirdZ z j a b then (1 : Int) else 0) hi (fun j _ => by split <;> decide)
    rw [if_pos g, ← acr_sum] at this
    omega

theorem cf_of {A B C : Nat → Nat} {p : Nat} : ∀ {m i : Nat}, i < m → (p = A i ∨ p = B i ∨ p = C i) → cf A B C m p = true
  | 0, i, h, _ => by omega
  | m + 1, i, h, k => by
    unfold cf
    by_cases e : i = m
    · subst e
      rcases k with rfl | rfl | rfl <;> simp
    · rw [cf_of (show i < m by omega) k]; simp

/-- Of the three ways to count a triangle's corners one begins with the least. -/
def Kc (K : Nat → Nat → Nat → Int) (u v w : Nat) : Int := if u < v ∧ u < w then K u v w else 0

theorem su_sum (px py : Nat → Int) (A B C : Nat → Nat) : ∀ m, su px py A B C m = ((List.range m).map fun j => T px py (A j) (B j) (C j)).sum
  | 0 => rfl
  | m + 1 => by rw [su, su_sum px py A B C m, List.range_succ, List.map_append, List.sum_append]; simp

theorem rotS (h : Mesh px py n M) (K : Nat → Nat → Nat → Int) : Sd n M K = Sd n M (fun u v w => K v w u) := h.rot K

theorem Lists.area (h : Lists M m A B C) (hm : Mesh px py n M) : su px py A B C m * 3 = Are px py n M := by
  have e1 : Are px py n M = Sd n M (Kc fun u v w => T px py u v w) + Sd n M (fun u v w => Kc (fun u v w => T px py u v w) v w u) + Sd n M (fun u v w => Kc (fun u v w => T px py u v w) w u v) := by
    unfold Are Sd
    rw [← sm2_add, ← sm2_add]
    refine sm2_congr fun u v _ _ => ?_
    cases e : M u v with
    | none => rfl
    | some w =>
      have c1 : T px py u v w = T px py v w u := T_cyc _ _ _
      have c2 : T px py v w u = T px py w u v := T_cyc _ _ _
      simp only [el_some, Kc]
      rcases least hm e with k | k | k
      · rw [if_pos k, if_neg (by omega), if_neg (by omega)]; omega
      · rw [if_neg (by omega), if_pos k, if_neg (by omega)]; omega
      · rw [if_neg (by omega), if_neg (by omega), if_pos k]; omega
  have r1 : Sd n M (Kc fun u v w => T px py u v w) = Sd n M (fun u v w => Kc (fun u v w => T px py u v w) v w u) := rotS hm _
  have r2 : Sd n M (fun u v w => Kc (fun u v w => T px py u v w) v w u) = Sd n M (fun u v w => Kc (fun u v w => T px py u v w) w u v) := rotS hm _
  have e2 : Sd n M (Kc fun u v w => T px py u v w) = su px py A B C m := by
    have d := sm2_diff (n := n) ((List.range m).map fun j => (A j, B j)) (fun u v => el (M u v) fun w => Kc (fun u v w => T px py u v w) u v w) (fun _ _ => 0) (by
        refine List.nodup_iff_pairwise_ne.2 (List.pairwise_map.2 (List.pairwise_iff_getElem.2 fun i j hi hj hij => ?_))
        simp at hi hj
        simp only [List.getElem_range, ne_eq, Prod.mk.injEq, not_and]
        intro k1 k2
        have t1 := (h.tri i hi).1
        have t2 := (h.tri j hj).1
        rw [k1, k2, t2] at t1
        have := h.inj hi hj k1 k2 (Option.some.inj t1).symm
        omega) (by
        intro k hk
        obtain ⟨j, hj, rfl⟩ := List.mem_map.1 hk
        have := hm.lts (h.tri j (List.mem_range.1 hj)).1
        exact ⟨this.1, this.2.1⟩) (by
        intro u v _ _ hn
        cases e : M u v with
        | none => rfl
        | some w =>
          simp only [el_some, Kc]
          rw [if_neg]
          intro k
          obtain ⟨i, hi, e1, e2, _⟩ := h.all u v w e k.1 k.2
          exact hn (List.mem_map.2 ⟨i, List.mem_range.2 hi, by rw [e1, e2]⟩))
    have z0 : sm2 n (fun _ _ => (0 : Int)) = 0 := by
      have : sm2 n (fun _ _ => (0 : Int)) = sm n (fun _ => 0) := sm_congr fun _ _ => sm_zero n
      rw [this, sm_zero]
    unfold Sd
    rw [d, z0, su_sum, List.map_map]
    rw [Int.zero_add]
    congr 1
    refine List.map_congr_left fun j hj => ?_
    have t := h.tri j (List.mem_range.1 hj)
    simp only [Function.comp, t.1, el_some, Kc]
    rw [if_pos t.2]
    omega
  omega

theorem are_c2 (hm : Mesh px py n M) : Are px py n M = Sd n M (fun u v _ => c2 px py u v) * 3 := by
  have e1 : Are px py n M = Sd n M (fun u v _ => c2 px py u v) + Sd n M (fun _ v w => c2 px py v w) + Sd n M (fun u _ w => c2 px py w u) := by
    unfold Are Sd
    rw [← sm2_add, ← sm2_add]
    refine sm2_congr fun u v _ _ => ?_
    cases e : M u v with
    | none => rfl
    | some w =>
      simp only [el_some]
      unfold T tw c2; grind
  have r1 : Sd n M (fun u v _ => c2 px py u v) = Sd n M (fun _ v w => c2 px py v w) := rotS hm _
  have r2 : Sd n M (fun _ v w => c2 px py v w) = Sd n M (fun u _ w => c2 px py w u) := rotS hm _
  omega

/-- A mesh's triangles fill. -/
theorem Lists.fill (h : Lists M m A B C) (hm : Mesh px py n M) (hc : Cor n M) (hr : Row3 n m z A B C) (ar : Int) (har : Sd n M (fun u v _ => c2 px py u v) = ar) : FillOk px py n m z A B C ar := by
  refine ⟨hr, fun i hi => ?_, fun i hi => hm.pos _ _ _ (h.tri i hi).1, h.srt, fun p hp => ?_, fun i k _ _ => h.one hm hr i k, fun i k _ _ k1 k2 => ?_, ?_⟩
  · have := h.tri i hi
    exact ⟨this.2.1, this.2.2, T_ne23 (hm.pos _ _ _ this.1)⟩
  · obtain ⟨x, y, e⟩ := hc p hp
    obtain ⟨i, hi, q⟩ := h.has hm e
    exact cf_of hi (by omega)
  · obtain ⟨c, e⟩ := h.some_of hm hr i k k1
    exact (bordB_iff px py i k n).2 fun p hp => hm.bor _ _ _ e (h.none_of hm hr k i k2) p hp
  · have e1 := h.area hm
    have e2 := are_c2 hm
    omega

theorem wnR_Wn (a b c d : Nat) : wnR (px a) (py a) (px b) (py b) (px c) (py c) (px d) (py d) = Wn px py a b c d := by
  unfold wnR Wn T tw sq; grind

end Go.Proofs.YtdbebbbceeopaaaGreat
