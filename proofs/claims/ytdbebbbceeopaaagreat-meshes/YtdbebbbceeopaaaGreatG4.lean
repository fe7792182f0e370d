import Derived.Test.YtdbebbbceeopaaaGreatG3
set_option linter.unusedSimpArgs false
namespace Go.Proofs.YtdbebbbceeopaaaGreat.Geo
variable {px py h : Nat → Int} {n : Nat} {M : Nat → Nat → Option Nat} {X Y W H : Int}

/-! A side that was turned over does not come back: so only so many are turned over. -/

/-- How high a triangle is at a place, W times its area. -/
def PQ (px py h : Nat → Int) (X Y W : Int) (a b c : Nat) : Int := h a * TQ px py X Y W b c + h b * TQ px py X Y W c a + h c * TQ px py X Y W a b

theorem PQ_cyc (a b c : Nat) : PQ px py h X Y W a b c = PQ px py h X Y W b c a := by unfold PQ; omega

/-- All triangles that have the place lie lower there. -/
def J (px py h : Nat → Int) (M : Nat → Nat → Option Nat) (X Y W H : Int) : Prop := ∀ a b c, M a b = some c → 0 ≤ TQ px py X Y W a b → 0 ≤ TQ px py X Y W b c → 0 ≤ TQ px py X Y W c a → PQ px py h X Y W a b c < H * T px py a b c

theorem tri_flip {a b c d : Nat} (p1 : 0 < T px py a b c) (p2 : 0 < T px py b a d) (t1 : 0 < T px py a d c) (t2 : 0 < T px py d b c) (hw : 0 < Wg px py h a b c d)
    (h1 : 0 ≤ TQ px py X Y W a b → 0 ≤ TQ px py X Y W b c → 0 ≤ TQ px py X Y W c a → PQ px py h X Y W a b c < H * T px py a b c)
    (h2 : 0 ≤ TQ px py X Y W b a → 0 ≤ TQ px py X Y W a d → 0 ≤ TQ px py X Y W d b → PQ px py h X Y W b a d < H * T px py b a d)
    (k1 : 0 ≤ TQ px py X Y W a d) (k2 : 0 ≤ TQ px py X Y W d c) (k3 : 0 ≤ TQ px py X Y W c a) : PQ px py h X Y W a d c < H * T px py a d c := by
  rcases Int.lt_or_le (TQ px py X Y W a b) 0 with g | g
  · have i2 : T px py a d c * TQ px py X Y W d b = TQ px py X Y W d c * T px py d b a + TQ px py X Y W a d * T px py d b c := by unfold TQ T tw; grind
    have c1 : T px py d b a = T px py b a d := by rw [T_cyc d b a]
    have m1 := Int.mul_nonneg k2 (show 0 ≤ T px py d b a by omega)
    have m2 := Int.mul_nonneg k1 (Int.le_of_lt t2)
    have n1 : 0 ≤ TQ px py X Y W d b := nonneg_of_mul t1 (by omega)
    have s := TQ_swap (px := px) (py := py) (X := X) (Y := Y) (W := W) a b
    have r := h2 (by omega) k1 n1
    have i4 : PQ px py h X Y W b a d * T px py a d c - PQ px py h X Y W a d c * T px py b a d = Wg px py h a b c d * TQ px py X Y W a d := by unfold PQ Wg TQ T tw; grind
    have z := Int.mul_nonneg (Int.le_of_lt hw) k1
    have r2 := Int.mul_lt_mul_of_pos_right r t1
    have e : H * T px py b a d * T px py a d c = H * T px py a d c * T px py b a d := by grind
    exact Int.lt_of_mul_lt_mul_right (a := T px py b a d) (by omega) (Int.le_of_lt p2)
  · have i1 : T px py a d c * TQ px py X Y W b c = TQ px py X Y W d c * T px py b c a + TQ px py X Y W c a * T px py b c d := by unfold TQ T tw; grind
    have c1 : T px py b c a = T px py a b c := by rw [T_cyc a b c]
    have c2 : T px py b c d = T px py d b c := by rw [T_cyc d b c]
    have m1 := Int.mul_nonneg k2 (show 0 ≤ T px py b c a by omega)
    have m2 := Int.mul_nonneg k3 (show 0 ≤ T px py b c d by omega)
    have n1 : 0 ≤ TQ px py X Y W b c := nonneg_of_mul t1 (by omega)
    have r := h1 g n1 k3
    have i3 : PQ px py h X Y W a b c * T px py a d c - PQ px py h X Y W a d c * T px py a b c = Wg px py h a b c d * TQ px py X Y W c a := by unfold PQ Wg TQ T tw; grind
    have z := Int.mul_nonneg (Int.le_of_lt hw) k3
    have r2 := Int.mul_lt_mul_of_pos_right r t1
    have e : H * T px py a b c * T px py a d c = H * T px py a d c * T px py a b c := by grind
    exact Int.lt_of_mul_lt_mul_right (a := T px py a b c) (by omega) (Int.le_of_lt p1)

/-- Of the triangles behind a flip: the two new ones, or old ones. -/
theorem J_of {a b c d : Nat}
    (hA : 0 ≤ TQ px py X Y W a d → 0 ≤ TQ px py X Y W d c → 0 ≤ TQ px py X Y W c a → PQ px py h X Y W a d c < H * T px py a d c)
    (hB : 0 ≤ TQ px py X Y W b c → 0 ≤ TQ px py X Y W c d → 0 ≤ TQ px py X Y W d b → PQ px py h X Y W b c d < H * T px py b c d)
    (hO : ∀ u v w, M u v = some w → ¬ ((u = a ∧ v = b) ∨ (u = b ∧ v = a) ∨ (u = a ∧ v = d) ∨ (u = d ∧ v = c) ∨ (u = c ∧ v = a) ∨ (u = d ∧ v = b) ∨ (u = b ∧ v = c) ∨ (u = c ∧ v = d)) → 0 ≤ TQ px py X Y W u v → 0 ≤ TQ px py X Y W v w → 0 ≤ TQ px py X Y W w u → PQ px py h X Y W u v w < H * T px py u v w) :
    J px py h (flipM M a b c d) X Y W H := by
  intro u v w hh k1 k2 k3
  unfold flipM at hh
  split at hh
  · cases hh
  · rename_i g0
    split at hh
    · rename_i k; obtain ⟨rfl, rfl⟩ := k; cases hh; exact hA k1 k2 k3
    · rename_i g1
      split at hh
      · rename_i k; obtain ⟨rfl, rfl⟩ := k; cases hh; rw [← PQ_cyc, ← T_cyc]; exact hA k3 k1 k2
      · rename_i g2
        split at hh
        · rename_i k; obtain ⟨rfl, rfl⟩ := k; cases hh; rw [PQ_cyc, T_cyc]; exact hA k2 k3 k1
        · rename_i g3
          split at hh
          · rename_i k; obtain ⟨rfl, rfl⟩ := k; cases hh; rw [PQ_cyc, T_cyc]; exact hB k2 k3 k1
          · rename_i g4
            split at hh
            · rename_i k; obtain ⟨rfl, rfl⟩ := k; cases hh; exact hB k1 k2 k3
            · rename_i g5
              split at hh
              · rename_i k; obtain ⟨rfl, rfl⟩ := k; cases hh; rw [← PQ_cyc, ← T_cyc]; exact hB k3 k1 k2
              · rename_i g6
                refine hO u v w hh ?_ k1 k2 k3
                rintro (g | g | g | g | g | g | g | g) <;> first | exact g0 (.inl g) | exact g0 (.inr g) | exact g1 g | exact g2 g | exact g3 g | exact g4 g | exact g5 g | exact g6 g

theorem J.flip (hJ : J px py h M X Y W H) (hm : Mesh px py n M) {a b c d : Nat} (q : Quad px py M a b c d) (hw : 0 < Wg px py h a b c d) : J px py h (flipM M a b c d) X Y W H := by
  have p1 := hm.pos _ _ _ q.ab
  have p2 := hm.pos _ _ _ q.ba
  refine J_of (fun k1 k2 k3 => tri_flip p1 p2 q.t1 q.t2 hw (hJ _ _ _ q.ab) (hJ _ _ _ q.ba) k1 k2 k3) (fun k1 k2 k3 => ?_) (fun u v w e _ k1 k2 k3 => hJ u v w e k1 k2 k3)
  refine tri_flip p2 p1 ?_ ?_ (by rw [Wg_swap]; exact hw) (hJ _ _ _ q.ba) (hJ _ _ _ q.ab) k1 k2 k3
  · rw [← T_cyc d b c]; exact q.t2
  · rw [← T_cyc2 a d c] ; exact q.t1

/-- Where a pointed side meets the one that comes in its stead, there are its own two triangles alone. -/
theorem Mesh.only (hm : Mesh px py n M) {a b c d : Nat} (q : Quad px py M a b c d) {x y z : Nat} (e : M x y = some z)
    (k1 : 0 ≤ TQ px py (T px py d b c * px a + T px py a d c * px b) (T px py d b c * py a + T px py a d c * py b) (T px py a d c + T px py d b c) x y)
    (k2 : 0 ≤ TQ px py (T px py d b c * px a + T px py a d c * px b) (T px py d b c * py a + T px py a d c * py b) (T px py a d c + T px py d b c) y z)
    (k3 : 0 ≤ TQ px py (T px py d b c * px a + T px py a d c * px b) (T px py d b c * py a + T px py a d c * py b) (T px py a d c + T px py d b c) z x) :
    (x = a ∧ y = b) ∨ (x = b ∧ y = c) ∨ (x = c ∧ y = a) ∨ (x = b ∧ y = a) ∨ (x = a ∧ y = d) ∨ (x = d ∧ y = b) := by
  have p1 := hm.pos _ _ _ q.ab
  have p2 := hm.pos _ _ _ q.ba
  have pe := hm.pos _ _ _ e
  have t1 := q.t1
  have t2 := q.t2
  obtain ⟨K, hK⟩ : ∃ K : Int, K = 1 + sm n (fun v => ((px v - px x).natAbs : Int) + ((px v - px y).natAbs : Int) + ((px v - px z).natAbs : Int)) + ((T px py a b x).natAbs : Int) + ((T px py a b y).natAbs : Int) + ((T px py a b z).natAbs : Int) := ⟨_, rfl⟩
  have kn := sm_nonneg (n := n) (f := fun v => ((px v - px x).natAbs : Int) + ((px v - px y).natAbs : Int) + ((px v - px z).natAbs : Int)) (fun i _ => by omega)
  have kv : ∀ v, v < n → ((px v - px x).natAbs : Int) + ((px v - px y).natAbs : Int) + ((px v - px z).natAbs : Int) < K := fun v hv => by
    have := sm_ge_one (f := fun v => ((px v - px x).natAbs : Int) + ((px v - px y).natAbs : Int) + ((px v - px z).natAbs : Int)) hv (fun i _ => by omega)
    omega
  have hK1 : 1 ≤ K := by omega
  have hKK : 0 < K * K := Int.mul_pos (by omega) (by omega)
  obtain ⟨Gx, hGx⟩ : ∃ Gx : Int, Gx = px x + K * px y + K * K * px z := ⟨_, rfl⟩
  obtain ⟨Gy, hGy⟩ : ∃ Gy : Int, Gy = py x + K * py y + K * K * py z := ⟨_, rfl⟩
  obtain ⟨s, hs⟩ : ∃ s : Int, s = 1 + K + K * K := ⟨_, rfl⟩
  have tg : ∀ u v, TQ px py Gx Gy s u v = T px py u v x + K * T px py u v y + K * K * T px py u v z := fun u v => by rw [hGx, hGy, hs]; unfold TQ T tw; grind
  have gv : ∀ v, v < n → s * px v - Gx ≠ 0 := fun v hv h0 => by
    have e0 : (px v - px x) + K * (px v - px y) + K * K * (px v - px z) = 0 := by rw [← h0, hGx, hs]; grind
    have := kv v hv
    obtain ⟨z1, z2, z3⟩ := digits (by omega) (by omega) e0
    have : T px py x y z = 0 := by
      have f1 : px y = px x := by omega
      have f2 : px z = px x := by omega
      unfold T tw; rw [f1, f2]; grind
    omega
  have gab : TQ px py Gx Gy s a b ≠ 0 := fun h0 => by
    rw [tg] at h0
    obtain ⟨z1, z2, z3⟩ := digits (by omega) (by omega) h0
    have hw : ¬ Wide px py [x, y, z] := line_flat (b := a) (R := b) (fun ⟨g1, g2⟩ => by
      have : T px py a b c = 0 := by unfold T tw; rw [g1, g2]; grind
      omega) (by
      intro r hr
      simp only [List.mem_cons, List.not_mem_nil, or_false] at hr
      rcases hr with rfl | rfl | rfl
      · exact z1
      · exact z2
      · exact z3)
    exact hw ⟨x, by simp, y, by simp, z, by simp, by omega⟩
  obtain ⟨p, hp⟩ : ∃ p, p = T px py a d c := ⟨_, rfl⟩
  obtain ⟨r, hr⟩ : ∃ r, r = T px py d b c := ⟨_, rfl⟩
  rw [← hp] at t1 k1 k2 k3
  rw [← hr] at t2 k1 k2 k3
  obtain ⟨N, hN⟩ : ∃ N : Int, N = 1 + sm n (fun v => ((s * px v - Gx).natAbs : Int)) + ((TQ px py Gx Gy s b c).natAbs : Int) + ((TQ px py Gx Gy s c a).natAbs : Int) + ((TQ px py Gx Gy s a d).natAbs : Int) + ((TQ px py Gx Gy s d b).natAbs : Int) := ⟨_, rfl⟩
  have nn := sm_nonneg (n := n) (f := fun v => ((s * px v - Gx).natAbs : Int)) (fun i _ => by omega)
  have nv : ∀ v, v < n → ((s * px v - Gx).natAbs : Int) < N := fun v hv => by
    have := sm_ge_one (f := fun v => ((s * px v - Gx).natAbs : Int)) hv (fun i _ => by omega)
    omega
  have hN1 : 1 ≤ N := by omega
  have lin2 : ∀ u v, TQ px py (N * (r * px a + p * px b) + Gx) (N * (r * py a + p * py b) + Gy) (N * (p + r) + s) u v = N * TQ px py (r * px a + p * px b) (r * py a + p * py b) (p + r) u v + TQ px py Gx Gy s u v := fun u v => by unfold TQ; grind
  have big : ∀ A B : Int, 0 < A → ((B.natAbs : Int)) < N → 0 < N * A + B := fun A B hA hB => by
    have : N * 1 ≤ N * A := Int.mul_le_mul_of_nonneg_left (by omega) (by omega)
    omega
  have nz : ∀ A B : Int, ((B.natAbs : Int)) < N → B ≠ 0 → N * A + B ≠ 0 := fun A B hB h0 hz => by
    rcases Int.lt_trichotomy A 0 with g | g | g
    · have : N * A ≤ N * (-1) := Int.mul_le_mul_of_nonneg_left (by omega) (by omega)
      omega
    · rw [g] at hz; omega
    · have : N * 1 ≤ N * A := Int.mul_le_mul_of_nonneg_left (by omega) (by omega)
      omega
  have hg : ∀ v, v < n → (N * (p + r) + s) * px v ≠ N * (r * px a + p * px b) + Gx := fun v hv h0 => by
    refine nz ((p + r) * px v - (r * px a + p * px b)) (s * px v - Gx) (nv v hv) (gv v hv) ?_
    grind
  have sx : 0 < TQ px py Gx Gy s x y := by
    rw [tg, T_111, T_122]
    have := Int.mul_pos hKK pe
    omega
  have sy : 0 < TQ px py Gx Gy s y z := by
    rw [tg, T_111, T_122]
    have : T px py y z x = T px py x y z := by rw [T_cyc x y z]
    omega
  have sz : 0 < TQ px py Gx Gy s z x := by
    rw [tg, T_111, T_122]
    have : T px py z x y = T px py x y z := by rw [T_cyc z x y]
    have := Int.mul_pos (show 0 < K by omega) pe
    grind
  have add0 : ∀ A B : Int, 0 ≤ A → 0 < B → 0 < N * A + B := fun A B hA hB => by
    have := Int.mul_nonneg (show 0 ≤ N by omega) hA
    omega
  have hW : 0 < N * (p + r) + s := by
    have := Int.mul_pos (show 0 < N by omega) (show 0 < p + r by omega)
    omega
  have j1 : 0 < TQ px py (N * (r * px a + p * px b) + Gx) (N * (r * py a + p * py b) + Gy) (N * (p + r) + s) x y := by rw [lin2]; exact add0 _ _ k1 sx
  have j2 : 0 < TQ px py (N * (r * px a + p * px b) + Gx) (N * (r * py a + p * py b) + Gy) (N * (p + r) + s) y z := by rw [lin2]; exact add0 _ _ k2 sy
  have j3 : 0 < TQ px py (N * (r * px a + p * px b) + Gx) (N * (r * py a + p * py b) + Gy) (N * (p + r) + s) z x := by rw [lin2]; exact add0 _ _ k3 sz
  have qab : TQ px py (r * px a + p * px b) (r * py a + p * py b) (p + r) a b = 0 := by unfold TQ; grind
  have qbc : TQ px py (r * px a + p * px b) (r * py a + p * py b) (p + r) b c = r * T px py a b c := by unfold TQ T tw; grind
  have qca : TQ px py (r * px a + p * px b) (r * py a + p * py b) (p + r) c a = p * T px py a b c := by unfold TQ T tw; grind
  have qad : TQ px py (r * px a + p * px b) (r * py a + p * py b) (p + r) a d = p * T px py b a d := by unfold TQ T tw; grind
  have qdb : TQ px py (r * px a + p * px b) (r * py a + p * py b) (p + r) d b = r * T px py b a d := by unfold TQ T tw; grind
  rcases Int.lt_or_gt_of_ne gab with g | g
  · have o1 : 0 < TQ px py (N * (r * px a + p * px b) + Gx) (N * (r * py a + p * py b) + Gy) (N * (p + r) + s) b a := by
      rw [TQ_swap, lin2, qab]; omega
    have o2 : 0 < TQ px py (N * (r * px a + p * px b) + Gx) (N * (r * py a + p * py b) + Gy) (N * (p + r) + s) a d := by
      rw [lin2, qad]; exact big _ _ (Int.mul_pos t1 p2) (by omega)
    have o3 : 0 < TQ px py (N * (r * px a + p * px b) + Gx) (N * (r * py a + p * py b) + Gy) (N * (p + r) + s) d b := by
      rw [lin2, qdb]; exact big _ _ (Int.mul_pos t2 p2) (by omega)
    rcases hm.disj hW hg q.ba e o1 o2 o3 j1 j2 j3 with k | k | k
    · exact .inr (.inr (.inr (.inl k)))
    · exact .inr (.inr (.inr (.inr (.inl k))))
    · exact .inr (.inr (.inr (.inr (.inr k))))
  · have o1 : 0 < TQ px py (N * (r * px a + p * px b) + Gx) (N * (r * py a + p * py b) + Gy) (N * (p + r) + s) a b := by
      rw [lin2, qab]; omega
    have o2 : 0 < TQ px py (N * (r * px a + p * px b) + Gx) (N * (r * py a + p * py b) + Gy) (N * (p + r) + s) b c := by
      rw [lin2, qbc]; exact big _ _ (Int.mul_pos t2 p1) (by omega)
    have o3 : 0 < TQ px py (N * (r * px a + p * px b) + Gx) (N * (r * py a + p * py b) + Gy) (N * (p + r) + s) c a := by
      rw [lin2, qca]; exact big _ _ (Int.mul_pos t1 p1) (by omega)
    rcases hm.disj hW hg q.ab e o1 o2 o3 j1 j2 j3 with k | k | k
    · exact .inl k
    · exact .inr (.inl k)
    · exact .inr (.inr (.inl k))

/-- A side that the triangles now lie below. -/
def Killed (px py h : Nat → Int) (M : Nat → Nat → Option Nat) (u v : Nat) : Prop := ∃ p q : Int, 0 < p ∧ 0 < q ∧ J px py h M (q * px u + p * px v) (q * py u + p * py v) (p + q) (q * h u + p * h v)

theorem Killed.none (hm : Mesh px py n M) {u v w : Nat} (k : Killed px py h M u v) (e : M u v = some w) : False := by
  obtain ⟨p, q, hp, hq, j⟩ := k
  have pe := hm.pos _ _ _ e
  have e1 : TQ px py (q * px u + p * px v) (q * py u + p * py v) (p + q) u v = 0 := by unfold TQ; grind
  have e2 : TQ px py (q * px u + p * px v) (q * py u + p * py v) (p + q) v w = q * T px py u v w := by unfold TQ T tw; grind
  have e3 : TQ px py (q * px u + p * px v) (q * py u + p * py v) (p + q) w u = p * T px py u v w := by unfold TQ T tw; grind
  have m2 := Int.mul_pos hq pe
  have m3 := Int.mul_pos hp pe
  have := j u v w e (by omega) (by omega) (by omega)
  unfold PQ at this
  rw [e1, e2, e3] at this
  have f : h u * (q * T px py u v w) + h v * (p * T px py u v w) + h w * 0 = (q * h u + p * h v) * T px py u v w := by grind
  omega

theorem Killed.flip {u v : Nat} (k : Killed px py h M u v) (hm : Mesh px py n M) {a b c d : Nat} (q : Quad px py M a b c d) (hw : 0 < Wg px py h a b c d) : Killed px py h (flipM M a b c d) u v := by
  obtain ⟨p, r, hp, hr, j⟩ := k
  exact ⟨p, r, hp, hr, j.flip hm q hw⟩

theorem killed_new (hm : Mesh px py n M) {a b c d : Nat} (q : Quad px py M a b c d) (hw : 0 < Wg px py h a b c d) : Killed px py h (flipM M a b c d) a b := by
  refine ⟨T px py a d c, T px py d b c, q.t1, q.t2, J_of (fun _ _ _ => ?_) (fun _ _ _ => ?_) (fun u v w e hn k1 k2 k3 => ?_)⟩
  · have f : PQ px py h (T px py d b c * px a + T px py a d c * px b) (T px py d b c * py a + T px py a d c * py b) (T px py a d c + T px py d b c) a d c = (T px py d b c * h a + T px py a d c * h b) * T px py a d c - T px py a d c * Wg px py h a b c d := by
      unfold PQ Wg TQ T tw; grind
    have := Int.mul_pos q.t1 hw
    omega
  · have f : PQ px py h (T px py d b c * px a + T px py a d c * px b) (T px py d b c * py a + T px py a d c * py b) (T px py a d c + T px py d b c) b c d = (T px py d b c * h a + T px py a d c * h b) * T px py b c d - T px py d b c * Wg px py h a b c d := by
      unfold PQ Wg TQ T tw; grind
    have := Int.mul_pos q.t2 hw
    omega
  · exfalso
    apply hn
    rcases hm.only q e k1 k2 k3 with k | k | k | k | k | k
    · exact .inl k
    · exact .inr (.inr (.inr (.inr (.inr (.inr (.inl k))))))
    · exact .inr (.inr (.inr (.inr (.inl k))))
    · exact .inr (.inl k)
    · exact .inr (.inr (.inl k))
    · exact .inr (.inr (.inr (.inr (.inr (.inl k)))))

/-- Sides that were turned over. -/
structure Spent (px py h : Nat → Int) (n : Nat) (M : Nat → Nat → Option Nat) (K : List (Nat × Nat)) : Prop where
  nd : K.Nodup
  all : ∀ x ∈ K, x.1 < n ∧ x.2 < n ∧ Killed px py h M x.1 x.2

theorem Spent.nil : Spent px py h n M [] := ⟨List.nodup_nil, fun x hx => by cases hx⟩

theorem Spent.flip {K : List (Nat × Nat)} (k : Spent px py h n M K) (hm : Mesh px py n M) {a b c d : Nat} (q : Quad px py M a b c d) (hw : 0 < Wg px py h a b c d) : Spent px py h n (flipM M a b c d) ((a, b) :: K) := by
  have l := hm.lts q.ab
  refine ⟨List.nodup_cons.2 ⟨fun hin => (k.all _ hin).2.2.none hm q.ab, k.nd⟩, fun x hx => ?_⟩
  rcases List.mem_cons.1 hx with rfl | hx
  · exact ⟨l.1, l.2.1, killed_new hm q hw⟩
  · obtain ⟨h1, h2, h3⟩ := k.all x hx
    exact ⟨h1, h2, h3.flip hm q hw⟩

theorem sub_len {α : Type} : ∀ (l r : List α), l.Nodup → (∀ x ∈ l, x ∈ r) → l.length ≤ r.length
  | [], r, _, _ => Nat.zero_le _
  | x :: l, r, hd, hs => by
    obtain ⟨a, b, rfl⟩ := List.append_of_mem (hs x (by simp))
    have hx := List.nodup_cons.1 hd
    have := sub_len l (a ++ b) hx.2 (fun y hy => by
      have h1 := hs y (by simp [hy])
      have h2 : y ≠ x := fun e => hx.1 (e ▸ hy)
      simp at h1 ⊢
      rcases h1 with h | h | h
      · exact .inl h
      · exact absurd h h2
      · exact .inr h)
    simp at this ⊢
    omega

theorem Spent.len {K : List (Nat × Nat)} (k : Spent px py h n M K) (hn : n ≤ 40) : K.length ≤ 1600 := by
  have := sub_len K ((List.range 40).flatMap fun u => (List.range 40).map fun v => (u, v)) k.nd (fun x hx => by
    obtain ⟨h1, h2, _⟩ := k.all x hx
    simp only [List.mem_flatMap, List.mem_range, List.mem_map]
    exact ⟨x.1, by omega, x.2, by omega, rfl⟩)
  have e40 : ((List.range 40).flatMap fun u => (List.range 40).map fun v => (u, v)).length = 1600 := by
    rw [List.length_flatMap]
    simp only [List.length_map, List.length_range]
    decide
  omega
end Go.Proofs.YtdbebbbceeopaaaGreat.Geo

set_option linter.unusedSimpArgs false
namespace Go.Proofs.YtdbebbbceeopaaaGreat.Geo
variable {px py : Nat → Int} {n : Nat} {M : Nat → Nat → Option Nat} {X Y W : Int}

/-- What comes of a mesh by sides that are turned over. -/
def Reach (px py : Nat → Int) (n : Nat) (M0 M : Nat → Nat → Option Nat) : Prop :=
  ∀ P : (Nat → Nat → Option Nat) → Prop, P M0 → (∀ (M : Nat → Nat → Option Nat) (a b c d : Nat), P M → Mesh px py n M → Quad px py M a b c d → P (flipM M a b c d)) → P M

theorem Reach.refl {M0 : Nat → Nat → Option Nat} : Reach px py n M0 M0 := fun _ h _ => h

theorem Reach.flip {M0 M : Nat → Nat → Option Nat} {a b c d : Nat} (h : Reach px py n M0 M) (hm : Mesh px py n M) (q : Quad px py M a b c d) : Reach px py n M0 (flipM M a b c d) := fun P h0 hs => hs M a b c d (h P h0 hs) hm q

end Go.Proofs.YtdbebbbceeopaaaGreat.Geo

set_option linter.unusedSimpArgs false
namespace Go.Proofs.YtdbebbbceeopaaaGreat.Geo
variable {Pos Pos2 : Int → Int → Prop} {px py : Nat → Int} {n : Nat} {M : Nat → Nat → Option Nat} {X Y W : Int}
variable {l1 l2 : Nat} {r1 s1 r2 s2 : List Nat} {A1 A2 : Nat → Nat → Option Nat}

end Go.Proofs.YtdbebbbceeopaaaGreat.Geo
