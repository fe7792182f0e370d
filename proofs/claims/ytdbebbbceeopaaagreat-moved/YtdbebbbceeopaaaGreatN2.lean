import Derived.Test.YtdbebbbceeopaaaGreatN1
set_option linter.unusedSimpArgs false
namespace Go.Proofs.YtdbebbbceeopaaaGreat.Geo
variable {px py : Nat → Int} {n : Nat} {M : Nat → Nat → Option Nat}

theorem T_ne12 {a b c : Nat} (h : 0 < T px py a b c) : a ≠ b := fun e => by
  subst e
  rw [show T px py a a c = 0 by rw [T_cyc, T_one]] at h
  omega

theorem T_ne13 {a b c : Nat} (h : 0 < T px py a b c) : a ≠ c := fun e => by
  subst e
  rw [T_one] at h
  omega

theorem T_ne23 {a b c : Nat} (h : 0 < T px py a b c) : b ≠ c := fun e => by
  subst e
  rw [T_two] at h
  omega

/-- Two triangles at one corner with a direction in common are one. -/
theorem Mesh.fan (h : Mesh px py n M) {c x y d e : Nat} (h1 : M c x = some y) (h2 : M c d = some e) (v1 v2 : Int) (hv : v1 ≠ 0)
    (k1 : 0 < (px x - px c) * v2 - (py x - py c) * v1) (k2 : 0 < v1 * (py y - py c) - v2 * (px y - px c))
    (k3 : 0 < (px d - px c) * v2 - (py d - py c) * v1) (k4 : 0 < v1 * (py e - py c) - v2 * (px e - px c)) : d = x := by
  obtain ⟨s, hs⟩ : ∃ s, s = (px y - px x) * v2 - (py y - py x) * v1 := ⟨_, rfl⟩
  obtain ⟨t, ht⟩ : ∃ t, t = (px e - px d) * v2 - (py e - py d) * v1 := ⟨_, rfl⟩
  obtain ⟨K, hK⟩ : ∃ K : Int, K = 1 + (v1.natAbs : Int) + (s.natAbs : Int) + (t.natAbs : Int) := ⟨_, rfl⟩
  have hK0 : 0 < K := by omega
  have p1 := h.pos _ _ _ h1
  have p2 := h.pos _ _ _ h2
  have q1 : 0 < K * T px py c x y + s := by
    have : K * 1 ≤ K * T px py c x y := Int.mul_le_mul_of_nonneg_left (by omega) (by omega)
    omega
  have q2 : 0 < K * T px py c d e + t := by
    have : K * 1 ≤ K * T px py c d e := Int.mul_le_mul_of_nonneg_left (by omega) (by omega)
    omega
  have := h.disj (X := K * px c + v1) (Y := K * py c + v2) (W := K) hK0 (fun v _ e => by
      have e' : K * (px v - px c) = v1 := by rw [Int.mul_sub]; omega
      rcases Int.lt_trichotomy (px v - px c) 0 with g | g | g
      · have : K * (px v - px c) ≤ K * (-1) := Int.mul_le_mul_of_nonneg_left (by omega) (by omega)
        omega
      · rw [g] at e'; omega
      · have : K * 1 ≤ K * (px v - px c) := Int.mul_le_mul_of_nonneg_left (by omega) (by omega)
        omega) h1 h2
    (by have : TQ px py (K * px c + v1) (K * py c + v2) K c x = (px x - px c) * v2 - (py x - py c) * v1 := by unfold TQ; grind
        omega)
    (by have : TQ px py (K * px c + v1) (K * py c + v2) K x y = K * T px py c x y + s := by rw [hs]; unfold TQ T tw; grind
        omega)
    (by have : TQ px py (K * px c + v1) (K * py c + v2) K y c = v1 * (py y - py c) - v2 * (px y - px c) := by unfold TQ; grind
        omega)
    (by have : TQ px py (K * px c + v1) (K * py c + v2) K c d = (px d - px c) * v2 - (py d - py c) * v1 := by unfold TQ; grind
        omega)
    (by have : TQ px py (K * px c + v1) (K * py c + v2) K d e = K * T px py c d e + t := by rw [ht]; unfold TQ T tw; grind
        omega)
    (by have : TQ px py (K * px c + v1) (K * py c + v2) K e c = v1 * (py e - py c) - v2 * (px e - px c) := by unfold TQ; grind
        omega)
  have n1 := T_ne12 p1
  have n2 := T_ne13 p1
  omega

/-- No side goes out between a triangle's two others. -/
theorem Mesh.fan2 (h : Mesh px py n M) {c a b d e : Nat} (h1 : M c a = some b) (h2 : M c d = some e) (k1 : 0 < T px py c a d) (k2 : 0 < T px py c d b) : False := by
  have p2 := h.pos _ _ _ h2
  obtain ⟨N0, hN0⟩ : ∃ N0 : Int, N0 = 1 + ((T px py c a e).natAbs : Int) + ((T px py c e b).natAbs : Int) := ⟨_, rfl⟩
  have key : ∀ N : Int, N0 ≤ N → N * (px d - px c) + (px e - px c) ≠ 0 → False := by
    intro N hN hne
    have f1 : N * 1 ≤ N * T px py c a d := Int.mul_le_mul_of_nonneg_left (by omega) (by omega)
    have f2 : N * 1 ≤ N * T px py c d b := Int.mul_le_mul_of_nonneg_left (by omega) (by omega)
    have f3 : N * 1 ≤ N * T px py c d e := Int.mul_le_mul_of_nonneg_left (by omega) (by omega)
    have := h.fan h1 h2 (N * (px d - px c) + (px e - px c)) (N * (py d - py c) + (py e - py c)) hne
      (by have : (px a - px c) * (N * (py d - py c) + (py e - py c)) - (py a - py c) * (N * (px d - px c) + (px e - px c)) = N * T px py c a d + T px py c a e := by unfold T tw; grind
          omega)
      (by have : (N * (px d - px c) + (px e - px c)) * (py b - py c) - (N * (py d - py c) + (py e - py c)) * (px b - px c) = N * T px py c d b + T px py c e b := by unfold T tw; grind
          omega)
      (by have : (px d - px c) * (N * (py d - py c) + (py e - py c)) - (py d - py c) * (N * (px d - px c) + (px e - px c)) = T px py c d e := by unfold T tw; grind
          omega)
      (by have : (N * (px d - px c) + (px e - px c)) * (py e - py c) - (N * (py d - py c) + (py e - py c)) * (px e - px c) = N * T px py c d e := by unfold T tw; grind
          omega)
    subst this
    rw [T_two] at k1
    omega
  by_cases g : N0 * (px d - px c) + (px e - px c) = 0
  · refine key (N0 + 1) (by omega) fun g' => ?_
    have g1 : px d - px c = 0 := by rw [Int.add_mul] at g'; omega
    have g2 : px e - px c = 0 := by rw [g1, Int.mul_zero] at g; omega
    have : T px py c d e = 0 := by unfold T tw; rw [g1, g2]; simp
    omega
  · exact key N0 (by omega) g

/-- A side turned over. -/
def flipM (M : Nat → Nat → Option Nat) (a b c d : Nat) : Nat → Nat → Option Nat := fun u v =>
  if (u = a ∧ v = b) ∨ (u = b ∧ v = a) then none
  else if u = a ∧ v = d then some c else if u = d ∧ v = c then some a else if u = c ∧ v = a then some d
  else if u = d ∧ v = b then some c else if u = b ∧ v = c then some d else if u = c ∧ v = d then some b
  else M u v

/-- What is known of the four corners around a pointed side. -/
structure Quad (px py : Nat → Int) (M : Nat → Nat → Option Nat) (a b c d : Nat) : Prop where
  ab : M a b = some c
  ba : M b a = some d
  bc : M b c = some a
  ca : M c a = some b
  ad : M a d = some b
  db : M d b = some a
  cd : M c d = none
  dc : M d c = none
  n1 : a ≠ b
  n2 : a ≠ c
  n3 : b ≠ c
  n4 : a ≠ d
  n5 : b ≠ d
  n6 : c ≠ d
  t1 : 0 < T px py a d c
  t2 : 0 < T px py d b c

theorem Mesh.quadT (h : Mesh px py n M) {a b c d : Nat} (e1 : M a b = some c) (e2 : M b a = some d) (t1 : 0 < T px py a d c) (t2 : 0 < T px py d b c) : Quad px py M a b c d := by
  have p1 := h.pos _ _ _ e1
  have p2 := h.pos _ _ _ e2
  have bc := h.cyc _ _ _ e1
  have ca := h.cyc _ _ _ bc
  have ad := h.cyc _ _ _ e2
  have db := h.cyc _ _ _ ad
  refine ⟨e1, e2, bc, ca, ad, db, ?_, ?_, T_ne12 p1, T_ne13 p1, T_ne23 p1, T_ne23 p2, T_ne13 p2, (T_ne23 t1).symm, t1, t2⟩
  · cases hm : M c d with
    | none => rfl
    | some e => exact (h.fan2 ca hm (by rw [T_cyc]; exact t1) (by rw [T_cyc]; exact t2)).elim
  · cases hm : M d c with
    | none => rfl
    | some e => exact (h.fan2 db hm (by exact t2) (by rw [T_cyc2 a d c] at t1; rw [T_cyc]; exact t1)).elim

theorem flip_cyc (h : Mesh px py n M) {a b c d : Nat} (q : Quad px py M a b c d) : ∀ u v w, flipM M a b c d u v = some w → flipM M a b c d v w = some u := by
  obtain ⟨q1, q2, q3, q4, q5, q6, q7, q8, n1, n2, n3, n4, n5, n6, _, _⟩ := q
  intro u v w hh
  unfold flipM at hh
  split at hh
  · cases hh
  · rename_i k0
    split at hh
    · rename_i k; cases hh; rw [k.1, k.2]; unfold flipM; simp [*, Ne.symm n1, Ne.symm n2, Ne.symm n3, Ne.symm n4, Ne.symm n5, Ne.symm n6]
    · rename_i k1
      split at hh
      · rename_i k; cases hh; rw [k.1, k.2]; unfold flipM; simp [*, Ne.symm n1, Ne.symm n2, Ne.symm n3, Ne.symm n4, Ne.symm n5, Ne.symm n6]
      · rename_i k2
        split at hh
        · rename_i k; cases hh; rw [k.1, k.2]; unfold flipM; simp [*, Ne.symm n1, Ne.symm n2, Ne.symm n3, Ne.symm n4, Ne.symm n5, Ne.symm n6]
        · rename_i k3
          split at hh
          · rename_i k; cases hh; rw [k.1, k.2]; unfold flipM; simp [*, Ne.symm n1, Ne.symm n2, Ne.symm n3, Ne.symm n4, Ne.symm n5, Ne.symm n6]
          · rename_i k4
            split at hh
            · rename_i k; cases hh; rw [k.1, k.2]; unfold flipM; simp [*, Ne.symm n1, Ne.symm n2, Ne.symm n3, Ne.symm n4, Ne.symm n5, Ne.symm n6]
            · rename_i k5
              split at hh
              · rename_i k; cases hh; rw [k.1, k.2]; unfold flipM; simp [*, Ne.symm n1, Ne.symm n2, Ne.symm n3, Ne.symm n4, Ne.symm n5, Ne.symm n6]
              · rename_i k6
                have hv := h.cyc u v w hh
                unfold flipM
                rw [if_neg, if_neg, if_neg, if_neg, if_neg, if_neg, if_neg]
                · exact hv
                · rintro ⟨e1, e2⟩; rw [e1, e2, q7] at hv; cases hv
                · rintro ⟨e1, e2⟩; rw [e1, e2, q3] at hv; cases hv; exact k0 (.inl ⟨rfl, e1⟩)
                · rintro ⟨e1, e2⟩; rw [e1, e2, q6] at hv; cases hv; exact k1 ⟨rfl, e1⟩
                · rintro ⟨e1, e2⟩; rw [e1, e2, q4] at hv; cases hv; exact k5 ⟨rfl, e1⟩
                · rintro ⟨e1, e2⟩; rw [e1, e2, q8] at hv; cases hv
                · rintro ⟨e1, e2⟩; rw [e1, e2, q5] at hv; cases hv; exact k0 (.inr ⟨rfl, e1⟩)
                · rintro (⟨e1, e2⟩ | ⟨e1, e2⟩)
                  · rw [e1, e2, q1] at hv; cases hv; exact k3 ⟨rfl, e1⟩
                  · rw [e1, e2, q2] at hv; cases hv; exact k4 ⟨rfl, e1⟩

theorem flip_bd {a b c d : Nat} (q : Quad px py M a b c d) : ∀ u v w, flipM M a b c d u v = some w → flipM M a b c d v u = none → ∃ w', M u v = some w' ∧ M v u = none := by
  obtain ⟨q1, q2, q3, q4, q5, q6, q7, q8, n1, n2, n3, n4, n5, n6, _, _⟩ := q
  intro u v w hh hn
  unfold flipM at hh hn
  grind (splits := 40)

theorem Mesh.flipQ (h : Mesh px py n M) {a b c d : Nat} (q : Quad px py M a b c d) : Mesh px py n (flipM M a b c d) := by
  have e1 := q.ab
  have e2 := q.ba
  have l1 := h.lts e1
  have l2 := h.lts e2
  refine ⟨flip_cyc h q, ?_, ?_, ?_, ?_⟩
  · have t1 := q.t1
    have t2 := q.t2
    intro u v w hh
    have old := h.pos u v w
    unfold flipM at hh
    split at hh
    · cases hh
    · split at hh
      · rename_i k; cases hh; rw [k.1, k.2]; exact t1
      · split at hh
        · rename_i k; cases hh; rw [k.1, k.2, ← T_cyc]; exact t1
        · split at hh
          · rename_i k; cases hh; rw [k.1, k.2, T_cyc]; exact t1
          · split at hh
            · rename_i k; cases hh; rw [k.1, k.2]; exact t2
            · split at hh
              · rename_i k; cases hh; rw [k.1, k.2, ← T_cyc]; exact t2
              · split at hh
                · rename_i k; cases hh; rw [k.1, k.2, T_cyc]; exact t2
                · exact old hh
  · intro u v w hh
    have old := h.lt u v w
    unfold flipM at hh
    grind (splits := 40)
  · intro u v w hh hn p hp
    obtain ⟨w', g1, g2⟩ := flip_bd q u v w hh hn
    exact h.bor u v w' g1 g2 p hp
  · intro u v w u' v' w' hh hn hh' hn'
    obtain ⟨w1, g1, g2⟩ := flip_bd q u v w hh hn
    obtain ⟨w2, g3, g4⟩ := flip_bd q u' v' w' hh' hn'
    exact h.uni u v w1 u' v' w2 g1 g2 g3 g4

end Go.Proofs.YtdbebbbceeopaaaGreat.Geo

set_option linter.unusedSimpArgs false
namespace Go.Proofs.YtdbebbbceeopaaaGreat.Geo
variable {px py : Nat → Int} {n : Nat} {M : Nat → Nat → Option Nat}

/-- A sum that is another one but at some places. -/
theorem sm2_diff {n : Nat} : ∀ (l : List (Nat × Nat)) (f g : Nat → Nat → Int), l.Nodup → (∀ k ∈ l, k.1 < n ∧ k.2 < n) → (∀ u v, u < n → v < n → (u, v) ∉ l → f u v = g u v) →
    sm2 n f = sm2 n g + (l.map fun k => f k.1 k.2 - g k.1 k.2).sum
  | [], f, g, _, _, h => by
    have := sm2_congr (n := n) (f := f) (g := g) fun a b ha hb => h a b ha hb (by simp)
    simp [this]
  | (a, b) :: r, f, g, hd, hl, h => by
    obtain ⟨ha, hb⟩ := hl (a, b) (by simp)
    have hnd := List.nodup_cons.1 hd
    have := sm2_diff r (fun u v => if u = a ∧ v = b then g u v else f u v) g hnd.2 (fun k hk => hl k (by simp [hk])) (fun u v hu hv hn => by
      by_cases e : u = a ∧ v = b
      · rw [if_pos e]
      · rw [if_neg e]
        refine h u v hu hv ?_
        simp only [List.mem_cons, Prod.mk.injEq, not_or]
        exact ⟨e, hn⟩)
    have e1 : (r.map fun k => (if k.1 = a ∧ k.2 = b then g k.1 k.2 else f k.1 k.2) - g k.1 k.2) = r.map fun k => f k.1 k.2 - g k.1 k.2 := by
      refine List.map_congr_left fun k hk => ?_
      rw [if_neg]
      rintro ⟨k1, k2⟩
      exact hnd.1 ((Prod.ext k1 k2 : k = (a, b)) ▸ hk)
    rw [e1] at this
    have p1 := sm2_part ha hb (f := f)
    have p2 := sm2_part ha hb (f := fun u v => if u = a ∧ v = b then g u v else f u v)
    have e2 : sm2 n (fun u v => if u = a ∧ v = b then 0 else if u = a ∧ v = b then g u v else f u v) = sm2 n (fun u v => if u = a ∧ v = b then 0 else f u v) := sm2_congr fun u v _ _ => by
      by_cases e : u = a ∧ v = b
      · rw [if_pos e, if_pos e]
      · rw [if_neg e, if_neg e, if_neg e]
    dsimp only at p1 p2
    rw [e2, if_pos ⟨rfl, rfl⟩] at p2
    rw [List.map_cons, List.sum_cons]
    dsimp only
    omega

theorem el_some (w : Nat) (f : Nat → Int) : el (some w) f = f w := rfl
theorem el_none (f : Nat → Int) : el none f = 0 := rfl

/-- A sum over all sides of all triangles. -/
def Sd (n : Nat) (M : Nat → Nat → Option Nat) (K : Nat → Nat → Nat → Int) : Int := sm2 n fun u v => el (M u v) fun w => K u v w

theorem flip_sum (h : Mesh px py n M) {a b c d : Nat} (q : Quad px py M a b c d) (K : Nat → Nat → Nat → Int) :
    Sd n (flipM M a b c d) K + (K a b c + K b c a + K c a b + K b a d + K a d b + K d b a) = Sd n M K + (K a d c + K d c a + K c a d + K d b c + K b c d + K c d b) := by
  have l1 := h.lts q.ab
  have l2 := h.lts q.ba
  obtain ⟨q1, q2, q3, q4, q5, q6, q7, q8, n1, n2, n3, n4, n5, n6, _, _⟩ := q
  have := sm2_diff (n := n) [(a, b), (b, a), (b, c), (c, a), (a, d), (d, b), (c, d), (d, c)] (fun u v => el (flipM M a b c d u v) fun w => K u v w) (fun u v => el (M u v) fun w => K u v w)
    (by simp only [List.nodup_cons, List.mem_cons, Prod.mk.injEq, List.not_mem_nil, or_false, not_or, List.nodup_nil, and_true, not_false_eq_true]; omega)
    (by
      intro k hk
      simp only [List.mem_cons, List.not_mem_nil, or_false] at hk
      rcases hk with rfl | rfl | rfl | rfl | rfl | rfl | rfl | rfl <;> (dsimp only; omega))
    (by
      intro u v _ _ hn
      simp only [List.mem_cons, Prod.mk.injEq, List.not_mem_nil, or_false, not_or] at hn
      have : flipM M a b c d u v = M u v := by
        unfold flipM
        rw [if_neg (by omega), if_neg (by omega), if_neg (by omega), if_neg (by omega), if_neg (by omega), if_neg (by omega), if_neg (by omega)]
      rw [this])
  have f1 : flipM M a b c d a b = none := by unfold flipM; simp
  have f2 : flipM M a b c d b a = none := by unfold flipM; simp
  have f3 : flipM M a b c d b c = some d := by unfold flipM; simp [*, Ne.symm n1, Ne.symm n2, Ne.symm n3, Ne.symm n4, Ne.symm n5, Ne.symm n6]
  have f4 : flipM M a b c d c a = some d := by unfold flipM; simp [*, Ne.symm n1, Ne.symm n2, Ne.symm n3, Ne.symm n4, Ne.symm n5, Ne.symm n6]
  have f5 : flipM M a b c d a d = some c := by unfold flipM; simp [*, Ne.symm n1, Ne.symm n2, Ne.symm n3, Ne.symm n4, Ne.symm n5, Ne.symm n6]
  have f6 : flipM M a b c d d b = some c := by unfold flipM; simp [*, Ne.symm n1, Ne.symm n2, Ne.symm n3, Ne.symm n4, Ne.symm n5, Ne.symm n6]
  have f7 : flipM M a b c d c d = some b := by unfold flipM; simp [*, Ne.symm n1, Ne.symm n2, Ne.symm n3, Ne.symm n4, Ne.symm n5, Ne.symm n6]
  have f8 : flipM M a b c d d c = some a := by unfold flipM; simp [*, Ne.symm n1, Ne.symm n2, Ne.symm n3, Ne.symm n4, Ne.symm n5, Ne.symm n6]
  simp only [List.map_cons, List.map_nil, List.sum_cons, List.sum_nil, f1, f2, f3, f4, f5, f6, f7, f8, q1, q2, q3, q4, q5, q6, q7, q8, el_some, el_none] at this
  unfold Sd
  omega

/-- Three times twice the area. -/
def Are (px py : Nat → Int) (n : Nat) (M : Nat → Nat → Option Nat) : Int := Sd n M fun u v w => T px py u v w

theorem flip_Are (h : Mesh px py n M) {a b c d : Nat} (q : Quad px py M a b c d) : Are px py n (flipM M a b c d) = Are px py n M := by
  have := flip_sum h q fun u v w => T px py u v w
  have v := flip_area (px := px) (py := py) a b c d
  unfold Are
  have c1 : T px py b a d = T px py a d b := T_cyc _ _ _
  have c2 : T px py a d b = T px py d b a := T_cyc _ _ _
  have c3 : T px py a b c = T px py b c a := T_cyc _ _ _
  have c4 : T px py b c a = T px py c a b := T_cyc _ _ _
  have c5 : T px py a d c = T px py d c a := T_cyc _ _ _
  have c6 : T px py d c a = T px py c a d := T_cyc _ _ _
  have c7 : T px py d b c = T px py b c d := T_cyc _ _ _
  have c8 : T px py b c d = T px py c d b := T_cyc _ _ _
  omega

end Go.Proofs.YtdbebbbceeopaaaGreat.Geo

set_option linter.unusedSimpArgs false
namespace Go.Proofs.YtdbebbbceeopaaaGreat.Geo
variable {px py : Nat → Int} {n : Nat} {M : Nat → Nat → Option Nat}

/-- A triangle in which a point lies, so far as one of the point's own triangles goes on from there, has the point as a corner. -/
theorem Mesh.near (h : Mesh px py n M) {p x y a b c : Nat} (e : M p x = some y) (e' : M a b = some c) (v1 v2 : Int) (hv : v1 ≠ 0)
    (k1 : 0 < (px x - px p) * v2 - (py x - py p) * v1) (k2 : 0 < v1 * (py y - py p) - v2 * (px y - px p))
    (g1 : 0 < T px py a b p ∨ (T px py a b p = 0 ∧ 0 < (px b - px a) * v2 - (py b - py a) * v1))
    (g2 : 0 < T px py b c p ∨ (T px py b c p = 0 ∧ 0 < (px c - px b) * v2 - (py c - py b) * v1))
    (g3 : 0 < T px py c a p ∨ (T px py c a p = 0 ∧ 0 < (px a - px c) * v2 - (py a - py c) * v1)) : p = a ∨ p = b ∨ p = c := by
  obtain ⟨s0, hs0⟩ : ∃ s, s = (px y - px x) * v2 - (py y - py x) * v1 := ⟨_, rfl⟩
  obtain ⟨s1, hs1⟩ : ∃ s, s = (px b - px a) * v2 - (py b - py a) * v1 := ⟨_, rfl⟩
  obtain ⟨s2, hs2⟩ : ∃ s, s = (px c - px b) * v2 - (py c - py b) * v1 := ⟨_, rfl⟩
  obtain ⟨s3, hs3⟩ : ∃ s, s = (px a - px c) * v2 - (py a - py c) * v1 := ⟨_, rfl⟩
  obtain ⟨K, hK⟩ : ∃ K : Int, K = 1 + (v1.natAbs : Int) + (s0.natAbs : Int) + (s1.natAbs : Int) + (s2.natAbs : Int) + (s3.natAbs : Int) := ⟨_, rfl⟩
  have hK0 : 0 < K := by omega
  have p1 := h.pos _ _ _ e
  rw [← hs1] at g1
  rw [← hs2] at g2
  rw [← hs3] at g3
  have up : ∀ t s : Int, (s.natAbs : Int) < K → (0 < t ∨ (t = 0 ∧ 0 < s)) → 0 < K * t + s := by
    intro t s hs ht
    rcases ht with ht | ⟨rfl, ht⟩
    · have : K * 1 ≤ K * t := Int.mul_le_mul_of_nonneg_left (by omega) (by omega)
      omega
    · omega
  have := h.disj (X := K * px p + v1) (Y := K * py p + v2) (W := K) hK0 (fun v _ e => by
      have e' : K * (px v - px p) = v1 := by rw [Int.mul_sub]; omega
      rcases Int.lt_trichotomy (px v - px p) 0 with g | g | g
      · have : K * (px v - px p) ≤ K * (-1) := Int.mul_le_mul_of_nonneg_left (by omega) (by omega)
        omega
      · rw [g] at e'; omega
      · have : K * 1 ≤ K * (px v - px p) := Int.mul_le_mul_of_nonneg_left (by omega) (by omega)
        omega) e' e
    (by have : TQ px py (K * px p + v1) (K * py p + v2) K a b = K * T px py a b p + s1 := by rw [hs1]; unfold TQ T tw; grind
        have := up _ s1 (by omega) g1
        omega)
    (by have : TQ px py (K * px p + v1) (K * py p + v2) K b c = K * T px py b c p + s2 := by rw [hs2]; unfold TQ T tw; grind
        have := up _ s2 (by omega) g2
        omega)
    (by have : TQ px py (K * px p + v1) (K * py p + v2) K c a = K * T px py c a p + s3 := by rw [hs3]; unfold TQ T tw; grind
        have := up _ s3 (by omega) g3
        omega)
    (by have : TQ px py (K * px p + v1) (K * py p + v2) K p x = (px x - px p) * v2 - (py x - py p) * v1 := by unfold TQ; grind
        omega)
    (by have : TQ px py (K * px p + v1) (K * py p + v2) K x y = K * T px py p x y + s0 := by rw [hs0]; unfold TQ T tw; grind
        have := up _ s0 (by omega) (.inl p1)
        omega)
    (by have : TQ px py (K * px p + v1) (K * py p + v2) K y p = v1 * (py y - py p) - v2 * (px y - px p) := by unfold TQ; grind
        omega)
  omega

/-- Of three numbers two at most are no good. -/
theorem pick2 (α β γ δ : Int) (h1 : ¬ (α = 0 ∧ β = 0)) (h2 : ¬ (γ = 0 ∧ δ = 0)) : ∃ N : Int, 1 ≤ N ∧ N * α + β ≠ 0 ∧ N * γ + δ ≠ 0 := by
  by_cases a1 : α + β = 0 ∨ γ + δ = 0
  · by_cases a2 : 2 * α + β = 0 ∨ 2 * γ + δ = 0
    · exact ⟨3, by omega, by omega, by omega⟩
    · exact ⟨2, by omega, by omega, by omega⟩
  · exact ⟨1, by omega, by omega, by omega⟩

theorem T_bary4 (u w a b c p : Nat) : T px py u w p * T px py a b c = T px py b c p * T px py u w a + T px py c a p * T px py u w b + T px py a b p * T px py u w c := by
  unfold T tw; grind

theorem bary_px (a b c p : Nat) : px p * T px py a b c = T px py b c p * px a + T px py c a p * px b + T px py a b p * px c := by
  unfold T tw; grind

theorem bary_py (a b c p : Nat) : py p * T px py a b c = T px py b c p * py a + T px py c a p * py b + T px py a b p * py c := by
  unfold T tw; grind

theorem T_sum4 (a b c p : Nat) : T px py a b p + T px py b c p + T px py c a p = T px py a b c := by
  unfold T tw; grind

/-- All points are different. -/
def Inj (px py : Nat → Int) (n : Nat) : Prop := ∀ i j, i < n → j < n → px i = px j → py i = py j → i = j
/-- Each point is a corner. -/
def Cor (n : Nat) (M : Nat → Nat → Option Nat) : Prop := ∀ p, p < n → ∃ x y, M p x = some y

/-- Directions between two sides of a triangle. -/
theorem dir_in {p x y : Nat} (hT : 0 < T px py p x y) (N : Int) (hN : 1 ≤ N) :
    0 < (px x - px p) * (N * (py x - py p) + (py y - py p)) - (py x - py p) * (N * (px x - px p) + (px y - px p)) ∧
    0 < (N * (px x - px p) + (px y - px p)) * (py y - py p) - (N * (py x - py p) + (py y - py p)) * (px y - px p) := by
  have e1 : (px x - px p) * (N * (py x - py p) + (py y - py p)) - (py x - py p) * (N * (px x - px p) + (px y - px p)) = T px py p x y := by unfold T tw; grind
  have e2 : (N * (px x - px p) + (px y - px p)) * (py y - py p) - (N * (py x - py p) + (py y - py p)) * (px y - px p) = N * T px py p x y := by unfold T tw; grind
  rw [e1, e2]
  exact ⟨hT, Int.mul_pos (by omega) hT⟩

theorem not_both {p x y : Nat} (hT : 0 < T px py p x y) : ¬ (px x - px p = 0 ∧ px y - px p = 0) := by
  rintro ⟨h1, h2⟩
  have : T px py p x y = 0 := by unfold T tw; rw [h1, h2]; simp
  omega

theorem emp_in (h : Mesh px py n M) (hc : Cor n M) {a b c p : Nat} (e : M a b = some c) (hp : p < n) (k1 : 0 < T px py a b p) (k2 : 0 < T px py b c p) (k3 : 0 < T px py c a p) : p = a ∨ p = b ∨ p = c := by
  obtain ⟨x, y, hx⟩ := hc p hp
  have hT := h.pos _ _ _ hx
  obtain ⟨N, hN, hv, _⟩ := pick2 (px x - px p) (px y - px p) 1 0 (not_both hT) (by omega)
  obtain ⟨d1, d2⟩ := dir_in hT N hN
  exact h.near hx e _ _ hv d1 d2 (.inl k1) (.inl k2) (.inl k3)

theorem emp_side (h : Mesh px py n M) (hc : Cor n M) {a b c p : Nat} (e : M a b = some c) (hp : p < n) (k1 : T px py a b p = 0) (k2 : 0 < T px py b c p) (k3 : 0 < T px py c a p) : p = a ∨ p = b ∨ p = c := by
  obtain ⟨x, y, hx⟩ := hc p hp
  have hT := h.pos _ _ _ hx
  have hlx := h.lts hx
  have habc := h.pos _ _ _ e
  have fx : (px b - px a) * (py x - py p) - (py b - py a) * (px x - px p) = T px py a b x := by
    have : (px b - px a) * (py x - py p) - (py b - py a) * (px x - px p) = T px py a b x - T px py a b p := by unfold T tw; grind
    omega
  have fy : (px b - px a) * (py y - py p) - (py b - py a) * (px y - px p) = T px py a b y := by
    have : (px b - px a) * (py y - py p) - (py b - py a) * (px y - px p) = T px py a b y - T px py a b p := by unfold T tw; grind
    omega
  have nb : ¬ (T px py a b x = 0 ∧ T px py a b y = 0) := by
    rintro ⟨g1, g2⟩
    have e1 : T px py p x y * T px py a b c = 0 := by
      have i1 := T_bary4 (px := px) (py := py) p x a b c y
      have i2 : T px py p x y * ((px b - px a) * (px b - px a) + (py b - py a) * (py b - py a)) = 0 := by
        have j1 : (px b - px a) * (py x - py p) = (py b - py a) * (px x - px p) := by omega
        have j2 : (px b - px a) * (py y - py p) = (py b - py a) * (px y - px p) := by omega
        unfold T tw; grind
      rcases Int.mul_eq_zero.1 i2 with i | i
      · omega
      · have m1 := mul_self_nonneg' (px b - px a)
        have m2 := mul_self_nonneg' (py b - py a)
        have z1 : px b - px a = 0 := by rcases Int.mul_eq_zero.1 (show (px b - px a) * (px b - px a) = 0 by omega) with h | h <;> exact h
        have z2 : py b - py a = 0 := by rcases Int.mul_eq_zero.1 (show (py b - py a) * (py b - py a) = 0 by omega) with h | h <;> exact h
        have : T px py a b c = 0 := by unfold T tw; rw [z1, z2]; simp
        omega
    have := Int.mul_pos hT habc
    omega
  obtain ⟨N, hN, hv, hd⟩ := pick2 (px x - px p) (px y - px p) (T px py a b x) (T px py a b y) (not_both hT) nb
  obtain ⟨d1, d2⟩ := dir_in hT N hN
  have fd : (px b - px a) * (N * (py x - py p) + (py y - py p)) - (py b - py a) * (N * (px x - px p) + (px y - px p)) = N * T px py a b x + T px py a b y := by
    rw [← fx, ← fy]; grind
  rcases Int.lt_or_gt_of_ne hd with g | g
  · cases hm : M b a with
    | none =>
      have b1 := h.bor _ _ _ e hm x hlx.2.1
      have b2 := h.bor _ _ _ e hm y hlx.2.2
      have := Int.mul_nonneg (show 0 ≤ N by omega) b1
      omega
    | some d =>
      have t := h.pos _ _ _ hm
      have s1 : 0 < T px py a d p := by
        have i := T_bary4 (px := px) (py := py) a d a b c p
        rw [T_one, k1] at i
        have := Int.mul_pos k3 (show 0 < T px py a d b by rw [← T_cyc]; exact t)
        refine pos_of_mul habc ?_
        rw [Int.mul_comm]; omega
      have s2 : 0 < T px py d b p := by
        have i := T_bary4 (px := px) (py := py) d b a b c p
        rw [T_two, k1] at i
        have := Int.mul_pos k2 (show 0 < T px py d b a by rw [← T_cyc, ← T_cyc]; exact t)
        refine pos_of_mul habc ?_
        rw [Int.mul_comm]; omega
      have s3 : T px py b a p = 0 := by rw [T_swap]; omega
      have := h.near hx hm _ _ hv d1 d2 (.inr ⟨s3, by
        have : (px a - px b) * (N * (py x - py p) + (py y - py p)) - (py a - py b) * (N * (px x - px p) + (px y - px p)) = - (N * T px py a b x + T px py a b y) := by rw [← fd]; grind
        omega⟩) (.inl s1) (.inl s2)
      rcases this with r | r | r
      · exact .inr (.inl r)
      · exact .inl r
      · rw [r] at s3; omega
  · exact h.near hx e _ _ hv d1 d2 (.inr ⟨k1, by omega⟩) (.inl k2) (.inl k3)

theorem eq_of_mul {s x y : Int} (hs : 0 < s) (h : x * s = s * y) : x = y := by
  rw [Int.mul_comm] at h
  exact Int.eq_of_mul_eq_mul_left (by omega) h

/-- No point lies in a triangle, but its corners. -/
theorem Mesh.empty (h : Mesh px py n M) (hi : Inj px py n) (hc : Cor n M) {a b c p : Nat} (e : M a b = some c) (hp : p < n) (k1 : 0 ≤ T px py a b p) (k2 : 0 ≤ T px py b c p) (k3 : 0 ≤ T px py c a p) :
    p = a ∨ p = b ∨ p = c := by
  have habc := h.pos _ _ _ e
  have l := h.lts e
  have eb := h.cyc _ _ _ e
  have ec := h.cyc _ _ _ eb
  have s := T_sum4 (px := px) (py := py) a b c p
  have ix := bary_px (px := px) (py := py) a b c p
  have iy := bary_py (px := px) (py := py) a b c p
  by_cases z1 : T px py a b p = 0
  · by_cases z2 : T px py b c p = 0
    · have z3 : T px py c a p = T px py a b c := by omega
      rw [z1, z2, z3] at ix iy
      exact .inr (.inl (hi p b hp l.2.1 (eq_of_mul habc (by omega)) (eq_of_mul habc (by omega))))
    · by_cases z3 : T px py c a p = 0
      · have z4 : T px py b c p = T px py a b c := by omega
        rw [z1, z3, z4] at ix iy
        exact .inl (hi p a hp l.1 (eq_of_mul habc (by omega)) (eq_of_mul habc (by omega)))
      · exact emp_side h hc e hp z1 (by omega) (by omega)
  · by_cases z2 : T px py b c p = 0
    · by_cases z3 : T px py c a p = 0
      · have z4 : T px py a b p = T px py a b c := by omega
        rw [z2, z3, z4] at ix iy
        exact .inr (.inr (hi p c hp l.2.2 (eq_of_mul habc (by omega)) (eq_of_mul habc (by omega))))
      · have := emp_side h hc eb hp z2 (by omega) (by omega); omega
    · by_cases z3 : T px py c a p = 0
      · have := emp_side h hc ec hp z3 (by omega) (by omega); omega
      · exact emp_in h hc e hp (by omega) (by omega) (by omega)

end Go.Proofs.YtdbebbbceeopaaaGreat.Geo

set_option linter.unusedSimpArgs false
namespace Go.Proofs.YtdbebbbceeopaaaGreat.Geo
variable {px py : Nat → Int} {n : Nat} {M : Nat → Nat → Option Nat} {X Y W : Int}

/-! A fraction that is the greatest of some. -/

theorem frac_tr {n1 d1 n2 d2 n3 d3 : Int} (h1 : 0 < d1) (h2 : 0 < d2) (h3 : 0 < d3) (k1 : n1 * d2 ≤ n2 * d1) (k2 : n2 * d3 ≤ n3 * d2) : n1 * d3 ≤ n3 * d1 := by
  have a1 : n1 * d2 * d3 ≤ n2 * d1 * d3 := Int.mul_le_mul_of_nonneg_right k1 (by omega)
  have a2 : n2 * d3 * d1 ≤ n3 * d2 * d1 := Int.mul_le_mul_of_nonneg_right k2 (by omega)
  have e1 : n1 * d2 * d3 = d2 * (n1 * d3) := by grind
  have e2 : n2 * d1 * d3 = n2 * d3 * d1 := by grind
  have e3 : n3 * d2 * d1 = d2 * (n3 * d1) := by grind
  exact Int.le_of_mul_le_mul_left (by omega) h2

theorem max_list {α : Type} (P : α → Prop) (Nu De : α → Int) (hD : ∀ x, P x → 0 < De x) : ∀ l : List α, (∃ x ∈ l, P x) → ∃ x, P x ∧ ∀ y ∈ l, P y → Nu y * De x ≤ Nu x * De y
  | [], h => by obtain ⟨x, hx, _⟩ := h; cases hx
  | z :: r, h => by
    rcases Classical.em (∃ x ∈ r, P x) with hr | hr
    · obtain ⟨x, hx, hm⟩ := max_list P Nu De hD r hr
      rcases Classical.em (P z) with hz | hz
      · rcases Int.le_total (Nu z * De x) (Nu x * De z) with g | g
        · refine ⟨x, hx, fun y hy hPy => ?_⟩
          rcases List.mem_cons.1 hy with rfl | hy
          · exact g
          · exact hm y hy hPy
        · refine ⟨z, hz, fun y hy hPy => ?_⟩
          rcases List.mem_cons.1 hy with rfl | hy
          · exact Int.le_refl _
          · exact frac_tr (hD y hPy) (hD x hx) (hD z hz) (hm y hy hPy) g
      · refine ⟨x, hx, fun y hy hPy => ?_⟩
        rcases List.mem_cons.1 hy with rfl | hy
        · exact absurd hPy hz
        · exact hm y hy hPy
    · obtain ⟨x, hx, hPx⟩ := h
      rcases List.mem_cons.1 hx with rfl | hx
      · refine ⟨x, hPx, fun y hy hPy => ?_⟩
        rcases List.mem_cons.1 hy with rfl | hy
        · exact Int.le_refl _
        · exact absurd ⟨y, hy, hPy⟩ hr
      · exact absurd ⟨x, hx, hPx⟩ hr

theorem max_pair (P : Nat → Nat → Prop) (Nu De : Nat → Nat → Int) (hD : ∀ a b, P a b → 0 < De a b) (hl : ∀ a b, P a b → a < n ∧ b < n) (he : ∃ a b, P a b) :
    ∃ a b, P a b ∧ ∀ a' b', P a' b' → Nu a' b' * De a b ≤ Nu a b * De a' b' := by
  have mem : ∀ a b, P a b → (a, b) ∈ (List.range n).flatMap fun a => (List.range n).map fun b => (a, b) := fun a b h => by
    obtain ⟨h1, h2⟩ := hl a b h
    simp only [List.mem_flatMap, List.mem_range, List.mem_map, Prod.mk.injEq]
    exact ⟨a, h1, b, h2, rfl, rfl⟩
  obtain ⟨a, b, h⟩ := he
  obtain ⟨x, hx, hm⟩ := max_list (fun q : Nat × Nat => P q.1 q.2) (fun q => Nu q.1 q.2) (fun q => De q.1 q.2) (fun q h => hD _ _ h) _ ⟨(a, b), mem a b h, h⟩
  exact ⟨x.1, x.2, hx, fun a' b' h' => hm (a', b') (mem a' b' h') h'⟩

/-! The way from a place to a point, from triangle to triangle. -/

theorem TQ_p (u v p : Nat) : W * T px py u v p = TQ px py X Y W u v + TQ px py X Y W p u - TQ px py X Y W p v := by unfold TQ T tw; grind

theorem TQ_plu (p a b c : Nat) : TQ px py X Y W p a * TQ px py X Y W b c + TQ px py X Y W p b * TQ px py X Y W c a + TQ px py X Y W p c * TQ px py X Y W a b = 0 := by unfold TQ; grind

theorem Wn_step (a b c d p : Nat) : Wn px py b a d p * T px py a b c = Wn px py a b c p * T px py b a d - Wn px py a b c d * T px py b a p := by
  unfold Wn T tw sq; grind

theorem Wn_self (a b p : Nat) : Wn px py a b p p = 0 := by unfold Wn T tw sq; grind

/-- The way leaves a triangle over this side. -/
structure St (px py : Nat → Int) (M : Nat → Nat → Option Nat) (X Y W : Int) (p : Nat) (N0 D0 : Int) (a b : Nat) : Prop where
  tri : ∃ c, M a b = some c ∧ N0 * T px py a b c ≤ Wn px py a b c p * D0
  q : 0 < TQ px py X Y W a b
  r : T px py a b p < 0
  sa : TQ px py X Y W p a < 0
  sb : 0 < TQ px py X Y W p b

/-- All sides looked at two by two: no far corner lies within. -/
def Loc (px py : Nat → Int) (M : Nat → Nat → Option Nat) : Prop := ∀ a b c d, M a b = some c → M b a = some d → Wn px py a b c d ≤ 0

theorem st_step (h : Mesh px py n M) (hi : Inj px py n) (hc : Cor n M) (hl : Loc px py M) (hW : 0 < W) {p : Nat} (hp : p < n) {N0 D0 : Int} (hD : 0 < D0) (hN : 0 < N0)
    (hg : ∀ v, v < n → v ≠ p → TQ px py X Y W p v ≠ 0) {a b : Nat} (s : St px py M X Y W p N0 D0 a b) :
    ∃ a' b', St px py M X Y W p N0 D0 a' b' ∧ TQ px py X Y W a b * (TQ px py X Y W p b' - TQ px py X Y W p a') < TQ px py X Y W a' b' * (TQ px py X Y W p b - TQ px py X Y W p a) := by
  obtain ⟨⟨c, e, hf⟩, q, r, sa, sb⟩ := s
  cases hm : M b a with
  | none => have := h.bor _ _ _ e hm p hp; omega
  | some d =>
    have t1 := h.pos _ _ _ e
    have t2 := h.pos _ _ _ hm
    have r' : 0 < T px py b a p := by rw [T_swap]; omega
    have hw := hl a b c d e hm
    have st := Wn_step (px := px) (py := py) a b c d p
    have hw2 : Wn px py a b c d * T px py b a p ≤ 0 := Int.mul_nonpos_of_nonpos_of_nonneg hw (by omega)
    by_cases hd : d = p
    · exfalso
      subst hd
      rw [Wn_self] at st
      have z : Wn px py a b c d * T px py b a d ≤ 0 := by omega
      have : Wn px py a b c d ≤ 0 := hw
      have g1 : Wn px py a b c d * D0 ≤ 0 := Int.mul_nonpos_of_nonpos_of_nonneg hw (by omega)
      have g2 := Int.mul_pos hN t1
      omega
    · have hdl := (h.lts hm).2.2
      have gd := hg d hdl hd
      have ad := h.cyc _ _ _ hm
      have db := h.cyc _ _ _ ad
      -- f grows
      have hf' : N0 * T px py b a d ≤ Wn px py b a d p * D0 := by
        have g1 : Wn px py a b c p * T px py b a d ≤ Wn px py b a d p * T px py a b c := by omega
        exact frac_tr hD t1 t2 hf g1
      have sum := TQ_sum (px := px) (py := py) (X := X) (Y := Y) (W := W) b a d
      have plu := TQ_plu (px := px) (py := py) (X := X) (Y := Y) (W := W) p a b d
      have hWT := Int.mul_pos hW t2
      have sw1 := TQ_swap (px := px) (py := py) (X := X) (Y := Y) (W := W) a b
      have sw2 := TQ_swap (px := px) (py := py) (X := X) (Y := Y) (W := W) b d
      have sw3 := TQ_swap (px := px) (py := py) (X := X) (Y := Y) (W := W) a d
      have pab := TQ_p (px := px) (py := py) (X := X) (Y := Y) (W := W) a b p
      have pad := TQ_p (px := px) (py := py) (X := X) (Y := Y) (W := W) a d p
      have pdb := TQ_p (px := px) (py := py) (X := X) (Y := Y) (W := W) d b p
      have rr : W * T px py a b p < 0 := Int.mul_neg_of_pos_of_neg hW r
      have emp := h.empty hi hc hm hp (by omega)
      have ne1 : p ≠ a := fun e => by subst e; rw [T_two] at r'; omega
      have ne2 : p ≠ b := fun e => by subst e; rw [T_one] at r'; omega
      rcases Int.lt_or_gt_of_ne gd with g | g
      · -- over the side from d to b
        have q' : 0 < TQ px py X Y W d b := by
          rcases Int.lt_or_le 0 (TQ px py X Y W d b) with k | k
          · exact k
          · exfalso
            -- then a d turns left as seen from the place, and more than that
            have k1 : 0 < TQ px py X Y W a d := by omega
            have m1 : TQ px py X Y W p a * TQ px py X Y W b d ≤ 0 := Int.mul_nonpos_of_nonpos_of_nonneg (by omega) (by omega)
            have m2 : TQ px py X Y W p b * TQ px py X Y W d a < 0 := Int.mul_neg_of_pos_of_neg sb (by omega)
            have m3 : TQ px py X Y W p d * TQ px py X Y W a b < 0 := Int.mul_neg_of_neg_of_pos g q
            omega
        have rn : T px py d b p < 0 := by
          rcases Int.lt_or_le (T px py d b p) 0 with k | k
          · exact k
          · exfalso
            have k' : 0 ≤ W * T px py d b p := Int.mul_nonneg (by omega) k
            -- then p lies in the triangle
            have ka : 0 ≤ T px py a d p := by
              refine nonneg_of_mul hW ?_
              rcases Int.lt_or_le (TQ px py X Y W p a) (TQ px py X Y W p d) with m | m
              · have pp := TQ_plu (px := px) (py := py) (X := W * px p) (Y := W * py p) (W := W) p a b d
                -- the turns as seen from p
                have u1 : T px py a b p * TQ px py X Y W p d + T px py b d p * TQ px py X Y W p a + T px py d a p * TQ px py X Y W p b = 0 := by unfold TQ T tw; grind
                have v1 : T px py b d p = - T px py d b p := T_swap _ _ _
                have v2 : T px py d a p = - T px py a d p := T_swap _ _ _
                rw [v1, v2] at u1
                have w1 : 0 < T px py a b p * TQ px py X Y W p d := Int.mul_pos_of_neg_of_neg r g
                have w2 : T px py d b p * TQ px py X Y W p a ≤ 0 := Int.mul_nonpos_of_nonneg_of_nonpos k (by omega)
                have w3 : 0 < TQ px py X Y W p b * T px py a d p := by rw [Int.mul_comm]; rw [Int.neg_mul, Int.neg_mul] at u1; omega
                have := pos_of_mul sb w3
                exact Int.mul_nonneg (by omega) (by omega)
              · have u1 : T px py a b p * TQ px py X Y W p d + T px py b d p * TQ px py X Y W p a + T px py d a p * TQ px py X Y W p b = 0 := by unfold TQ T tw; grind
                have v1 : T px py b d p = - T px py d b p := T_swap _ _ _
                have v2 : T px py d a p = - T px py a d p := T_swap _ _ _
                rw [v1, v2] at u1
                have w1 : 0 < T px py a b p * TQ px py X Y W p d := Int.mul_pos_of_neg_of_neg r g
                have w2 : T px py d b p * TQ px py X Y W p a ≤ 0 := Int.mul_nonpos_of_nonneg_of_nonpos k (by omega)
                have w3 : 0 < TQ px py X Y W p b * T px py a d p := by rw [Int.mul_comm]; rw [Int.neg_mul, Int.neg_mul] at u1; omega
                have := pos_of_mul sb w3
                exact Int.mul_nonneg (by omega) (by omega)
            rcases emp ka k with k2 | k2 | k2
            · exact ne2 k2
            · exact ne1 k2
            · exact hd k2.symm
        refine ⟨d, b, ⟨⟨a, db, ?_⟩, q', rn, g, sb⟩, ?_⟩
        · rw [T_cyc d b a, Wn_cyc d b a]; exact hf'
        · have key : TQ px py X Y W d b * (TQ px py X Y W p b - TQ px py X Y W p a) - TQ px py X Y W a b * (TQ px py X Y W p b - TQ px py X Y W p d) = TQ px py X Y W p b * (W * T px py b a d) := by
            rw [← sum, sw1]; unfold TQ; grind
          have := Int.mul_pos sb hWT
          omega
      · -- over the side from a to d
        have q' : 0 < TQ px py X Y W a d := by
          rcases Int.lt_or_le 0 (TQ px py X Y W a d) with k | k
          · exact k
          · exfalso
            have k1 : 0 < TQ px py X Y W d b := by omega
            have m1 : 0 < TQ px py X Y W p a * TQ px py X Y W b d := Int.mul_pos_of_neg_of_neg sa (by omega)
            have m2 : 0 ≤ TQ px py X Y W p b * TQ px py X Y W d a := Int.mul_nonneg (by omega) (by omega)
            have m3 : 0 < TQ px py X Y W p d * TQ px py X Y W a b := Int.mul_pos g q
            omega
        have rn : T px py a d p < 0 := by
          rcases Int.lt_or_le (T px py a d p) 0 with k | k
          · exact k
          · exfalso
            have kb : 0 ≤ T px py d b p := by
              have u1 : T px py a b p * TQ px py X Y W p d + T px py b d p * TQ px py X Y W p a + T px py d a p * TQ px py X Y W p b = 0 := by unfold TQ T tw; grind
              have v1 : T px py b d p = - T px py d b p := T_swap _ _ _
              have v2 : T px py d a p = - T px py a d p := T_swap _ _ _
              rw [v1, v2] at u1
              have w1 : T px py a b p * TQ px py X Y W p d < 0 := Int.mul_neg_of_neg_of_pos r g
              have w2 : 0 ≤ T px py a d p * TQ px py X Y W p b := Int.mul_nonneg k (by omega)
              have w3 : 0 < (- TQ px py X Y W p a) * T px py d b p := by
                rw [Int.neg_mul, Int.mul_comm]
                rw [Int.neg_mul, Int.neg_mul] at u1; omega
              have := pos_of_mul (show 0 < - TQ px py X Y W p a by omega) w3
              omega
            rcases emp k kb with k2 | k2 | k2
            · exact ne2 k2
            · exact ne1 k2
            · exact hd k2.symm
        refine ⟨a, d, ⟨⟨b, ad, ?_⟩, q', rn, sa, g⟩, ?_⟩
        · rw [← T_cyc b a d, ← Wn_cyc b a d]; exact hf'
        · have key : TQ px py X Y W a d * (TQ px py X Y W p b - TQ px py X Y W p a) - TQ px py X Y W a b * (TQ px py X Y W p d - TQ px py X Y W p a) = - TQ px py X Y W p a * (W * T px py b a d) := by
            rw [← sum, sw1]; unfold TQ; grind
          have := Int.mul_pos (show 0 < - TQ px py X Y W p a by omega) hWT
          omega

end Go.Proofs.YtdbebbbceeopaaaGreat.Geo

set_option linter.unusedSimpArgs false
namespace Go.Proofs.YtdbebbbceeopaaaGreat.Geo
variable {px py : Nat → Int} {n : Nat} {M : Nat → Nat → Option Nat} {X Y W : Int}

theorem le_mul_of {x y z : Int} (hx : 0 < x) (h : x * y ≤ x * z) : y ≤ z := Int.le_of_mul_le_mul_left h hx

/-- From a place in a triangle the way to a point that is none of its corners leaves it over a side. -/
theorem st_start (h : Mesh px py n M) (hi : Inj px py n) (hc : Cor n M) (hW : 0 < W) {p : Nat} (hp : p < n) {a b c : Nat} (e : M a b = some c)
    (i2 : 0 < TQ px py X Y W b c) (i3 : 0 < TQ px py X Y W c a) (n1 : p ≠ a) (n2 : p ≠ b) (n3 : p ≠ c)
    (sa : TQ px py X Y W p a < 0) (sb : 0 < TQ px py X Y W p b) : T px py a b p < 0 := by
  rcases Int.lt_or_le (T px py a b p) 0 with k | k
  · exact k
  · exfalso
    have plu := TQ_plu (px := px) (py := py) (X := X) (Y := Y) (W := W) p a b c
    have pab := TQ_p (px := px) (py := py) (X := X) (Y := Y) (W := W) a b p
    have pbc := TQ_p (px := px) (py := py) (X := X) (Y := Y) (W := W) b c p
    have pca := TQ_p (px := px) (py := py) (X := X) (Y := Y) (W := W) c a p
    have k' : 0 ≤ W * T px py a b p := Int.mul_nonneg (by omega) k
    generalize TQ px py X Y W p a = la at *
    generalize TQ px py X Y W p b = lb at *
    generalize TQ px py X Y W p c = lc at *
    generalize TQ px py X Y W a b = qab at *
    generalize TQ px py X Y W b c = qbc at *
    generalize TQ px py X Y W c a = qca at *
    have hab : lb - la ≤ qab := by omega
    have kb : 0 ≤ T px py b c p := by
      refine nonneg_of_mul hW ?_
      rw [pbc]
      rcases Int.lt_or_le 0 lc with g | g
      · have a1 : lc * (lb - la) ≤ lc * qab := Int.mul_le_mul_of_nonneg_left hab (by omega)
        have a2 : 0 < lb * qca := Int.mul_pos sb i3
        have a3 : lc * (-la) ≤ (-la) * qbc := by
          have : 0 < lc * lb := Int.mul_pos g sb
          rw [Int.mul_sub] at a1
          rw [Int.mul_neg, Int.neg_mul]
          omega
        have := le_mul_of (x := -la) (by omega) (show (-la) * lc ≤ (-la) * qbc by rw [Int.mul_comm (-la) lc]; exact a3)
        omega
      · omega
    have ka : 0 ≤ T px py c a p := by
      refine nonneg_of_mul hW ?_
      rw [pca]
      rcases Int.lt_or_le lc 0 with g | g
      · have a1 : (-lc) * (lb - la) ≤ (-lc) * qab := Int.mul_le_mul_of_nonneg_left hab (by omega)
        have a2 : la * qbc < 0 := Int.mul_neg_of_neg_of_pos sa i2
        have a3 : lb * (-lc) ≤ lb * qca := by
          have : 0 < (-lc) * (-la) := Int.mul_pos (by omega) (by omega)
          rw [Int.mul_sub] at a1
          rw [Int.neg_mul (lc) qab] at a1
          have e1 : (-lc) * (-la) = - ((-lc) * la) := by rw [Int.mul_neg]
          have e2 : lb * (-lc) = (-lc) * lb := Int.mul_comm _ _
          omega
        have := le_mul_of sb a3
        omega
      · omega
    have := h.empty hi hc e hp k kb ka
    omega

theorem Wn_corner1 (a b c : Nat) : Wn px py a b c a = 0 := by unfold Wn T tw sq; grind
theorem Wn_corner2 (a b c : Nat) : Wn px py a b c b = 0 := by unfold Wn T tw sq; grind
theorem Wn_corner3 (a b c : Nat) : Wn px py a b c c = 0 := by unfold Wn T tw sq; grind

theorem digits {N x y z : Int} (hx : -N < x ∧ x < N) (hy : -N < y ∧ y < N) (h : x + N * y + N * N * z = 0) : x = 0 ∧ y = 0 ∧ z = 0 := by
  have hN : 0 < N := by omega
  have step : ∀ u v : Int, -N < u → u < N → u + N * v = 0 → u = 0 ∧ v = 0 := by
    intro u v h1 h2 h3
    rcases Int.lt_trichotomy v 0 with g | g | g
    · have : N * v ≤ N * (-1) := Int.mul_le_mul_of_nonneg_left (by omega) (by omega)
      omega
    · rw [g] at h3; omega
    · have : N * 1 ≤ N * v := Int.mul_le_mul_of_nonneg_left (by omega) (by omega)
      omega
  have e : x + N * (y + N * z) = 0 := by rw [Int.mul_add, ← Int.mul_assoc]; omega
  obtain ⟨r1, r2⟩ := step x _ hx.1 hx.2 e
  obtain ⟨r3, r4⟩ := step y _ hy.1 hy.2 r2
  exact ⟨r1, r3, r4⟩

/-- A place in a triangle from which no other point lies straight behind or before a point. -/
theorem place_in (hi : Inj px py n) {a b c p : Nat} (hT : 0 < T px py a b c) (hp : p < n) :
    ∃ X Y W : Int, 0 < W ∧ 0 < TQ px py X Y W a b ∧ 0 < TQ px py X Y W b c ∧ 0 < TQ px py X Y W c a ∧ ∀ v, v < n → v ≠ p → TQ px py X Y W p v ≠ 0 := by
  obtain ⟨N, hN⟩ : ∃ N : Int, N = 1 + sm n (fun v => ((T px py p v a).natAbs : Int) + ((T px py p v b).natAbs : Int) + ((T px py p v c).natAbs : Int)) := ⟨_, rfl⟩
  have hb : ∀ v, v < n → ((T px py p v a).natAbs : Int) + ((T px py p v b).natAbs : Int) + ((T px py p v c).natAbs : Int) < N := fun v hv => by
    have := sm_ge_one (f := fun v => ((T px py p v a).natAbs : Int) + ((T px py p v b).natAbs : Int) + ((T px py p v c).natAbs : Int)) hv (fun i _ => by omega)
    omega
  have hN1 : 1 ≤ N := by
    have := sm_nonneg (n := n) (f := fun v => ((T px py p v a).natAbs : Int) + ((T px py p v b).natAbs : Int) + ((T px py p v c).natAbs : Int)) (fun i _ => by omega)
    omega
  have hNN : 0 < N * N := Int.mul_pos (by omega) (by omega)
  refine ⟨px a + N * px b + N * N * px c, py a + N * py b + N * N * py c, 1 + N + N * N, by omega, ?_, ?_, ?_, fun v hv hne h0 => ?_⟩
  · have : TQ px py (px a + N * px b + N * N * px c) (py a + N * py b + N * N * py c) (1 + N + N * N) a b = N * N * T px py a b c := by unfold TQ T tw; grind
    rw [this]; exact Int.mul_pos hNN hT
  · have : TQ px py (px a + N * px b + N * N * px c) (py a + N * py b + N * N * py c) (1 + N + N * N) b c = T px py a b c := by unfold TQ T tw; grind
    rw [this]; exact hT
  · have : TQ px py (px a + N * px b + N * N * px c) (py a + N * py b + N * N * py c) (1 + N + N * N) c a = N * T px py a b c := by unfold TQ T tw; grind
    rw [this]; exact Int.mul_pos (by omega) hT
  · have e : TQ px py (px a + N * px b + N * N * px c) (py a + N * py b + N * N * py c) (1 + N + N * N) p v = T px py p v a + N * T px py p v b + N * N * T px py p v c := by unfold TQ T tw; grind
    rw [e] at h0
    have := hb v hv
    obtain ⟨z1, z2, z3⟩ := digits (by omega) (by omega) h0
    have hw : ¬ Wide px py [a, b, c] := line_flat (b := p) (R := v) (fun ⟨g1, g2⟩ => hne (hi v p hv hp (by omega) (by omega))) (by
      intro q hq
      simp only [List.mem_cons, List.not_mem_nil, or_false] at hq
      rcases hq with rfl | rfl | rfl
      · exact z1
      · exact z2
      · exact z3)
    exact hw ⟨a, by simp, b, by simp, c, by simp, by omega⟩

/-- Delaunay's lemma: if no far corner lies within, looked at two by two, no point lies within the circle of any triangle. -/
theorem Mesh.delaunay (h : Mesh px py n M) (hi : Inj px py n) (hc : Cor n M) (hl : Loc px py M) {a b c : Nat} (e : M a b = some c) {p : Nat} (hp : p < n) : Wn px py a b c p ≤ 0 := by
  rcases Int.lt_or_le 0 (Wn px py a b c p) with hN | hN
  · exfalso
    have hD := h.pos _ _ _ e
    have n1 : p ≠ a := fun g => by subst g; rw [Wn_corner1] at hN; omega
    have n2 : p ≠ b := fun g => by subst g; rw [Wn_corner2] at hN; omega
    have n3 : p ≠ c := fun g => by subst g; rw [Wn_corner3] at hN; omega
    obtain ⟨X, Y, W, hW, i1, i2, i3, hg⟩ := place_in hi hD hp
    have l := h.lts e
    have eb := h.cyc _ _ _ e
    have ec := h.cyc _ _ _ eb
    have ga := hg a l.1 (Ne.symm n1)
    have gb := hg b l.2.1 (Ne.symm n2)
    have gc := hg c l.2.2 (Ne.symm n3)
    have plu := TQ_plu (px := px) (py := py) (X := X) (Y := Y) (W := W) p a b c
    have f1 : Wn px py a b c p * T px py b c a ≤ Wn px py b c a p * T px py a b c := by
      have w1 : Wn px py a b c p = Wn px py b c a p := Wn_cyc a b c p
      have w2 : T px py a b c = T px py b c a := T_cyc a b c
      rw [w1, w2]; exact Int.le_refl _
    have f2 : Wn px py a b c p * T px py c a b ≤ Wn px py c a b p * T px py a b c := by
      have w1 : Wn px py c a b p = Wn px py a b c p := Wn_cyc c a b p
      have w2 : T px py c a b = T px py a b c := T_cyc c a b
      rw [w1, w2]; exact Int.le_refl _
    have first : ∃ u v, St px py M X Y W p (Wn px py a b c p) (T px py a b c) u v := by
      by_cases s1 : TQ px py X Y W p a < 0 ∧ 0 < TQ px py X Y W p b
      · exact ⟨a, b, ⟨c, e, Int.le_refl _⟩, i1, st_start h hi hc hW hp e i2 i3 n1 n2 n3 s1.1 s1.2, s1.1, s1.2⟩
      · by_cases s2 : TQ px py X Y W p b < 0 ∧ 0 < TQ px py X Y W p c
        · exact ⟨b, c, ⟨a, eb, f1⟩, i2, st_start h hi hc hW hp eb i3 i1 n2 n3 n1 s2.1 s2.2, s2.1, s2.2⟩
        · by_cases s3 : TQ px py X Y W p c < 0 ∧ 0 < TQ px py X Y W p a
          · exact ⟨c, a, ⟨b, ec, f2⟩, i3, st_start h hi hc hW hp ec i1 i2 n3 n1 n2 s3.1 s3.2, s3.1, s3.2⟩
          · exfalso
            rcases Int.lt_or_gt_of_ne ga with g | g
            · have m1 := Int.mul_neg_of_neg_of_pos g i2
              have m2 := Int.mul_neg_of_neg_of_pos (show TQ px py X Y W p b < 0 by omega) i3
              have m3 := Int.mul_neg_of_neg_of_pos (show TQ px py X Y W p c < 0 by omega) i1
              omega
            · have m1 := Int.mul_pos g i2
              have m2 := Int.mul_pos (show 0 < TQ px py X Y W p b by omega) i3
              have m3 := Int.mul_pos (show 0 < TQ px py X Y W p c by omega) i1
              omega
    obtain ⟨u, v, s, hm⟩ := max_pair (n := n) (St px py M X Y W p (Wn px py a b c p) (T px py a b c)) (fun u v => TQ px py X Y W u v) (fun u v => TQ px py X Y W p v - TQ px py X Y W p u)
      (fun u v s => by have := s.sa; have := s.sb; omega) (fun u v s => by obtain ⟨w, hw, _⟩ := s.tri; exact ⟨(h.lts hw).1, (h.lts hw).2.1⟩) first
    obtain ⟨u', v', s', hlt⟩ := st_step h hi hc hl hW hp hD hN hg s
    have := hm u' v' s'
    omega
  · exact hN

end Go.Proofs.YtdbebbbceeopaaaGreat.Geo
