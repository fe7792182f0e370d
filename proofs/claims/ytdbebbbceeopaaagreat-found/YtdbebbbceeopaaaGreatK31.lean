import Derived.Test.YtdbebbbceeopaaaGreatK30
namespace Go.Proofs.YtdbebbbceeopaaaGreat.Geo
variable {px py : Nat → Int} {n : Nat} {M M' : Nat → Nat → Option Nat}

theorem Wn_swap34 (a b c d : Nat) : Wn px py a b d c = - Wn px py a b c d := by
  unfold Wn T tw sq
  grind

/-- Two round meshes of the same points are one, if no four lie on one circle. -/
theorem mesh_one (h : Mesh px py n M) (hi : Inj px py n) (hc : Cor n M) (hl : Loc px py M) (h' : Mesh px py n M') (hc' : Cor n M') (hl' : Loc px py M') (hf : Free px py n) {i j k : Nat} (e : M i j = some k) : M' i j = some k := by
  have l := h.lts e
  have t := h.pos _ _ _ e
  cases e' : M' i j with
  | none =>
    rcases same_sides h hi hc hl h' hc' hl' hf e with ⟨c, g⟩ | ⟨c, g⟩
    · rw [e'] at g; cases g
    · have := h'.bor _ _ _ g e' k l.2.2
      have f : T px py j i k = - T px py i j k := by unfold T tw; grind
      omega
  | some c =>
    by_cases q : c = k
    · rw [q]
    · exfalso
      have l' := h'.lts e'
      have t' := h'.pos _ _ _ e'
      have w1 := h.delaunay hi hc hl e l'.2.2
      have w2 := h'.delaunay hi hc' hl' e' l.2.2
      rw [Wn_swap34] at w2
      have := hf i j k c l.1 l.2.1 l.2.2 l'.2.2 (T_ne12 t) (T_ne13 t) (T_ne13 t') (T_ne23 t) (T_ne23 t') (Ne.symm q)
      omega

end Go.Proofs.YtdbebbbceeopaaaGreat.Geo
namespace Go.Proofs.YtdbebbbceeopaaaGreat
open Geo

theorem Lists.less {M : Nat → Nat → Option Nat} {m : Nat} {A B C : Nat → Nat} (h : Lists M m A B C) {i j : Nat} (hij : i < j) (hj : j < m) : A i < A j ∨ (A i = A j ∧ (B i < B j ∨ (B i = B j ∧ C i < C j))) := by
  have := h.rise (j - i - 1) i (by omega)
  rw [show i + (j - i - 1) + 1 = j by omega] at this
  exact this

/-- A mesh has one list. -/
theorem lists_one {M : Nat → Nat → Option Nat} {m m' : Nat} {A B C A' B' C' : Nat → Nat} (h : Lists M m A B C) (h' : Lists M m' A' B' C') : ∀ i, i < m → i < m' → A i = A' i ∧ B i = B' i ∧ C i = C' i := by
  intro i
  induction i using Nat.strongRecOn with
  | ind i ih =>
    intro hm hm'
    obtain ⟨t1, t2, t3⟩ := h.tri i hm
    obtain ⟨u1, u2, u3⟩ := h'.tri i hm'
    obtain ⟨i1, l1, a1, b1, c1⟩ := h'.all _ _ _ t1 t2 t3
    obtain ⟨i2, l2, a2, b2, c2⟩ := h.all _ _ _ u1 u2 u3
    rcases Nat.lt_trichotomy i1 i with q | q | q
    · have e := ih i1 q (by omega) l1
      have := h.less q hm
      omega
    · subst q; exact ⟨a1.symm, b1.symm, c1.symm⟩
    · rcases Nat.lt_trichotomy i2 i with q' | q' | q'
      · have e := ih i2 q' l2 (by omega)
        have := h'.less q' hm'
        omega
      · subst q'; exact ⟨a2, b2, c2⟩
      · have k1 := h'.less q l1
        have k2 := h.less q' l2
        omega

/-- Two lists of triangles of round meshes, if no four points lie on one circle. -/
theorem same_lists {px py : Nat → Int} {n : Nat} {M M' : Nat → Nat → Option Nat} {m m' : Nat} {A B C A' B' C' : Nat → Nat} (h : Mesh px py n M) (hi : Inj px py n) (hc : Cor n M) (hl : Geo.Loc px py M) (h' : Mesh px py n M') (hc' : Cor n M') (hl' : Geo.Loc px py M') (hf : Free px py n) (hL : Lists M m A B C) (hL' : Lists M' m' A' B' C') :
    ∀ i, i < m → i < m' → A i = A' i ∧ B i = B' i ∧ C i = C' i := by
  have e : M = M' := by
    funext a b
    cases q : M a b with
    | some c => exact (mesh_one h hi hc hl h' hc' hl' hf q).symm
    | none =>
      cases q' : M' a b with
      | none => rfl
      | some c =>
        have := mesh_one h' hi hc' hl' h hc hl hf q'
        rw [q] at this
        cases this
  subst e
  exact lists_one hL hL'
end Go.Proofs.YtdbebbbceeopaaaGreat

namespace Go.Proofs.YtdbebbbceeopaaaGreat
open Geo
variable {px py : Nat → Int} {n : Nat}

theorem fan_cross (a b c : Nat) : crossB px py a b a c = false := by
  unfold crossB
  have : T px py a b a = 0 := T_111 _ _
  rw [this, Int.zero_mul]
  rfl

theorem self_nn (a : Int) : 0 ≤ a * a := by
  rcases Int.le_total 0 a with h | h
  · exact Int.mul_nonneg h h
  · have := Int.mul_nonneg (show 0 ≤ -a by omega) (show 0 ≤ -a by omega)
    rw [Int.neg_mul_neg] at this
    exact this

/-- Strictly between, as the law says it. -/
theorem between_iff {ax ay bx bY x y : Int} (h0 : (bx - ax) * (y - ay) - (bY - ay) * (x - ax) = 0) (hne : ¬ (ax = bx ∧ ay = bY)) :
    (ax - x) * (bx - x) + (ay - y) * (bY - y) < 0 ↔ ((ax - x) * (ax - x) + (ay - y) * (ay - y) < (ax - bx) * (ax - bx) + (ay - bY) * (ay - bY) ∧ (bx - x) * (bx - x) + (bY - y) * (bY - y) < (ax - bx) * (ax - bx) + (ay - bY) * (ay - bY)) ∧ ¬ (x = ax ∧ y = ay) ∧ ¬ (x = bx ∧ y = bY) := by
  have id : (ax - bx) * (ax - bx) + (ay - bY) * (ay - bY) = ((ax - x) * (ax - x) + (ay - y) * (ay - y)) + ((bx - x) * (bx - x) + (bY - y) * (bY - y)) - 2 * ((ax - x) * (bx - x) + (ay - y) * (bY - y)) := by grind
  have n1 : 0 ≤ (ax - x) * (ax - x) + (ay - y) * (ay - y) := by have := self_nn (ax - x); have := self_nn (ay - y); omega
  have n2 : 0 ≤ (bx - x) * (bx - x) + (bY - y) * (bY - y) := by have := self_nn (bx - x); have := self_nn (bY - y); omega
  constructor
  · intro h
    refine ⟨by omega, ?_, ?_⟩
    · rintro ⟨rfl, rfl⟩
      simp at h
    · rintro ⟨rfl, rfl⟩
      simp at h
  · rintro ⟨⟨h1, h2⟩, h3, h4⟩
    obtain ⟨L, hL⟩ : ∃ L, L = (ax - bx) * (ax - bx) + (ay - bY) * (ay - bY) := ⟨_, rfl⟩
    obtain ⟨al, hal⟩ : ∃ al, al = (x - ax) * (bx - ax) + (y - ay) * (bY - ay) := ⟨_, rfl⟩
    obtain ⟨be, hbe⟩ : ∃ be, be = (x - bx) * (ax - bx) + (y - bY) * (ay - bY) := ⟨_, rfl⟩
    have s : al + be = L := by rw [hL, hal, hbe]; grind
    have e1 : al * al = ((ax - x) * (ax - x) + (ay - y) * (ay - y)) * L := by rw [hL, hal]; grind
    have e2 : be * be = ((bx - x) * (bx - x) + (bY - y) * (bY - y)) * L := by rw [hL, hbe]; grind
    have e3 : ((ax - x) * (bx - x) + (ay - y) * (bY - y)) * L = - (al * be) := by rw [hL, hal, hbe]; grind
    rw [← hL] at h1 h2
    have Lp : 0 < L := by omega
    have m1 : al * al < L * L := by rw [e1]; exact Int.mul_lt_mul_of_pos_right h1 Lp
    have m2 : be * be < L * L := by rw [e2]; exact Int.mul_lt_mul_of_pos_right h2 Lp
    have a1 : al < L := by
      rcases Int.lt_or_le al L with q | q
      · exact q
      · have := Int.mul_le_mul q q (Int.le_of_lt Lp) (by omega)
        omega
    have b1 : be < L := by
      rcases Int.lt_or_le be L with q | q
      · exact q
      · have := Int.mul_le_mul q q (Int.le_of_lt Lp) (by omega)
        omega
    have ab := Int.mul_pos (show 0 < al by omega) (show 0 < be by omega)
    rcases Int.lt_or_le ((ax - x) * (bx - x) + (ay - y) * (bY - y)) 0 with q | q
    · exact q
    · have := Int.mul_nonneg q (Int.le_of_lt Lp)
      omega
end Go.Proofs.YtdbebbbceeopaaaGreat

set_option linter.unusedSimpArgs false
namespace Go.Proofs.YtdbebbbceeopaaaGreat
open Go.RowKit

theorem nePt (a b c d : Int) (W : World) : (binOp .neq 35 (.agg #[.int .i64 a, .int .i64 b]) (.agg #[.int .i64 c, .int .i64 d])).run Tryz.prog W = .ok (.bool (!(a == c && b == d))) W := by
  have u3 := Tryz.underlying3
  have a3 := Tryz.isAgg3
  have z3 := Tryz.sizeOf3
  have hS : Tryz.prog.underlying 35 = some (.struct (Tryz.prog.fieldsOf 35)) := by kernel_rfl
  have hp : Tryz.prog.stoodInHeld 35 = false := by kernel_rfl
  rw [run_neq_struct, show (10000 : Nat) = 9999 + 1 from rfl, run_equalIn_agg W 9999 35 _ _ hS hp]
  simp only [Program.fieldsOf, Tryz.underlying35]
  go_simp
  by_cases h1 : a = c <;> by_cases h2 : b = d <;> simp [h1, h2]

theorem neTr (a b c x y z : Int) (W : World) : (binOp .neq 46 (.agg #[.int .i64 a, .int .i64 b, .int .i64 c]) (.agg #[.int .i64 x, .int .i64 y, .int .i64 z])).run Tryz.prog W = .ok (.bool (!(a == x && (b == y && c == z)))) W := by
  have u3 := Tryz.underlying3
  have a3 := Tryz.isAgg3
  have z3 := Tryz.sizeOf3
  have hS : Tryz.prog.underlying 46 = some (.struct (Tryz.prog.fieldsOf 46)) := by kernel_rfl
  have hp : Tryz.prog.stoodInHeld 46 = false := by kernel_rfl
  rw [run_neq_struct, show (10000 : Nat) = 9999 + 1 from rfl, run_equalIn_agg W 9999 46 _ _ hS hp]
  simp only [Program.fieldsOf, Tryz.underlying46]
  go_simp
  by_cases h1 : a = x <;> by_cases h2 : b = y <;> by_cases h3 : c = z <;> simp [h1, h2, h3]

/-- What the law asks of a point: on a line, and between its ends? -/
theorem betwB_eq {px py : Nat → Int} {a b p : Nat} (hne : ¬ (px a = px b ∧ py a = py b)) :
    betwB px py a b p = ((decide (T px py a b p = 0) && (decide (sqI (px a) (py a) (px p) (py p) < sqI (px a) (py a) (px b) (py b)) && decide (sqI (px b) (py b) (px p) (py p) < sqI (px a) (py a) (px b) (py b)))) && (!(px p == px a && py p == py a) && !(px p == px b && py p == py b))) := by
  unfold betwB
  by_cases h : T px py a b p = 0
  · have k := between_iff (ax := px a) (ay := py a) (bx := px b) (bY := py b) (x := px p) (y := py p) h hne
    rw [decide_eq_true h, Bool.true_and, Bool.true_and, Bool.eq_iff_iff]
    unfold Geo.dt sqI
    rw [decide_eq_true_eq, k]
    simp only [Bool.and_eq_true, decide_eq_true_eq, Bool.not_eq_true', Bool.and_eq_false_iff, beq_eq_false_iff_ne, ne_eq]
    constructor
    · rintro ⟨⟨h1, h2⟩, h3, h4⟩
      exact ⟨⟨h1, h2⟩, by omega, by omega⟩
    · rintro ⟨⟨h1, h2⟩, h3, h4⟩
      exact ⟨⟨h1, h2⟩, by omega, by omega⟩
  · rw [decide_eq_false h]
    simp

/-- Does one of the first points lie between two? -/
def thK (px py : Nat → Int) (a b : Nat) : Nat → Bool
  | 0 => false
  | k + 1 => thK px py a b k || betwB px py a b k

/-- Does a point lie between the ends of one of the first lines? -/
def thX (px py : Nat → Int) (n : Nat) (ys : List (Nat × Nat)) : Nat → Bool
  | 0 => false
  | i + 1 => thX px py n ys i || thK px py (ys.getD i (0, 0)).1 (ys.getD i (0, 0)).2 n

theorem thK_iff {px py : Nat → Int} {a b : Nat} : ∀ {k : Nat}, thK px py a b k = true ↔ ∃ p, p < k ∧ betwB px py a b p = true
  | 0 => ⟨fun h => (by cases h), fun ⟨p, h, _⟩ => (by omega)⟩
  | k + 1 => by
    unfold thK
    rw [Bool.or_eq_true, thK_iff]
    constructor
    · rintro (⟨p, h, e⟩ | h)
      · exact ⟨p, by omega, e⟩
      · exact ⟨k, by omega, h⟩
    · rintro ⟨p, h, e⟩
      rcases Nat.lt_or_ge p k with q | q
      · exact .inl ⟨p, q, e⟩
      · have : p = k := by omega
        subst this; exact .inr e

theorem thX_iff {px py : Nat → Int} {n : Nat} {ys : List (Nat × Nat)} : ∀ {k : Nat}, thX px py n ys k = true ↔ ∃ i, i < k ∧ ∃ p, p < n ∧ betwB px py (ys.getD i (0, 0)).1 (ys.getD i (0, 0)).2 p = true
  | 0 => ⟨fun h => (by cases h), fun ⟨p, h, _⟩ => (by omega)⟩
  | k + 1 => by
    unfold thX
    rw [Bool.or_eq_true, thX_iff, thK_iff]
    constructor
    · rintro (⟨i, h, e⟩ | h)
      · exact ⟨i, by omega, e⟩
      · exact ⟨k, by omega, h⟩
    · rintro ⟨i, h, e⟩
      rcases Nat.lt_or_ge i k with q | q
      · exact .inl ⟨i, q, e⟩
      · have : i = k := by omega
        subst this; exact .inr e

theorem fan_one {n : Nat} {a : Int} {xs : List (Int × Int)} (hf : Fan n a xs) {i : Nat} (hi : i < (toN xs).length) : ((toN xs).getD i (0, 0)).1 = a.toNat := by
  have hi' : i < xs.length := by rw [toN_len] at hi; exact hi
  rw [List.getD_eq_getElem?_getD, List.getElem?_eq_getElem hi]
  have e : (toN xs)[i] = (xs[i].1.toNat, xs[i].2.toNat) := by simp [toN]
  rw [Option.getD_some, e, (hf xs[i] (List.getElem_mem hi')).1]

/-- Lines from one point are refused where one goes through a point. -/
theorem line_through {px py : Nat → Int} {n : Nat} {a : Int} {xs : List (Int × Int)} (h7 : xs.length ≤ 7) (h0 : 0 ≤ a) (h1 : a < n) (hf : Fan n a xs) : lineI px py n xs = if thX px py n (toN xs) (toN xs).length then 6 else 0 := by
  have j := (fan_line (px := px) (py := py) h7 h0 h1 hf).1
  have e : (∃ i, i < (toN xs).length ∧ wayB px py n (toN xs) i) ↔ thX px py n (toN xs) (toN xs).length = true := by
    rw [thX_iff]
    constructor
    · rintro ⟨i, hi, h | ⟨k, hk, h⟩⟩
      · exact ⟨i, hi, h⟩
      · rw [fan_one hf hi, fan_one hf (show k < _ by omega), fan_cross] at h
        cases h
    · rintro ⟨i, hi, h⟩
      exact ⟨i, hi, .inl h⟩
  rw [lineI_eq]
  rw [if_neg (by omega), if_neg (fun k => k j)]
  by_cases h : thX px py n (toN xs) (toN xs).length = true
  · rw [if_pos h, if_pos (e.2 h)]
  · rw [if_neg h, if_neg (fun k => h (e.1 k))]

/-- Bound, of no lines. -/
theorem bound_none (px py : Nat → Int) (n g cap : Nat) (w : World) (hp : Pts w g 0 n px py) (h3 : 3 ≤ n) (hn : n ≤ 40) (hcap : n ≤ cap) (hr : refI px py n = 0) :
    Calls Tryz.prog 25 #[.slice (some ⟨g, 0, none⟩) n cap, .slice none 0 0] w fun e w' => Below w.heap.size w w' ∧ ∃ (g2 cp2 : Nat) (d : Array T3) (M : Nat → Nat → Option Nat) (hs : List Nat), e = .returned (.tuple #[.slice (some ⟨g2, 0, none⟩) d.size cp2, .int .i64 0]) ∧ d.size ≤ 1600 ∧ Trs w' g2 0 d.size (dz d) ∧ Tris M d ∧ Msh px py n M hs ∧ Geo.Loc px py M := by
  have hz : NeZero n := ⟨by omega⟩
  have e0 : lineI px py n [] = 0 := by
    rw [lineI_eq]
    rw [if_neg (by simp), if_neg (fun k => k (by simp)), if_neg (by simp [toN])]
  refine (bound_lines px py n g 0 cap 0 none [] w hp h3 hn hcap hr (.inl rfl) (Nat.le_refl _) e0).mono ?_
  rintro e w2 ⟨hb, g2, cp, d, M, hs, rfl, _, hd, hown, hT, hM, hL⟩
  exact ⟨hb, g2, cp, d, M, hs, rfl, hd, trs_own hown, hT, hM, fun a b c d h1 h2 => hL.rd a b c d h1 h2 (by rintro ⟨y, hy, _⟩; cases hy)⟩

/-- What comes of Bound, of lines from one point to others: triangles that have them among their sides, or none where a line goes through a point. -/
def FanB (px py : Nat → Int) (n : Nat) (ys : List (Nat × Nat)) (w' : World) (u : Value) (r : Int) : Prop :=
  (r = 0 ∧ thX px py n ys ys.length = false ∧ ∃ (g2 cp2 : Nat) (d : Array T3) (M : Nat → Nat → Option Nat) (hs : List Nat), u = .slice (some ⟨g2, 0, none⟩) d.size cp2 ∧ d.size ≤ 1600 ∧ Trs w' g2 0 d.size (dz d) ∧ Tris M d ∧ Msh px py n M hs ∧ Lnd px py M ys) ∨ (r = 6 ∧ thX px py n ys ys.length = true ∧ u = .slice none 0 0)

theorem fan_bound {n base : Nat} {w : World} {v : Value} (h : FanR n base w v) : ∃ (la : Option Addr) (lcap : Nat) (ys : List (Nat × Nat)), v = .slice la ys.length lcap ∧ ys.length ≤ 7 ∧ Lns w la ys ∧ (∀ y ∈ ys, y.1 < n ∧ y.2 < n ∧ y.1 ≠ y.2) ∧
    ∀ (px py : Nat → Int) (g cap : Nat), Pts w g 0 n px py → 3 ≤ n → n ≤ 40 → n ≤ cap → refI px py n = 0 →
      Calls Tryz.prog 25 #[.slice (some ⟨g, 0, none⟩) n cap, .slice la ys.length lcap] w fun e w' => ∃ (u : Value) (r : Int), e = .returned (.tuple #[u, .int .i64 r]) ∧ Below w.heap.size w w' ∧ FanB px py n ys w' u r := by
  obtain ⟨la, lcap, a, xs, rfl, hlc, h7, h0, h1, hf, hl⟩ := fan_shape h
  have j := (fan_line (px := fun _ => 0) (py := fun _ => 0) h7 h0 h1 hf).1
  refine ⟨la, lcap, toN xs, by rw [toN_len], by rw [toN_len]; exact h7, hl.toN j, toN_lt j, fun px py g cap hp h3 hn hc hr => ?_⟩
  rw [toN_len]
  refine (bound_fan px py n g cap lcap la xs a w hp h3 hn hc hr hl hlc h7 h0 h1 hf).mono ?_
  rintro e w' ⟨u, r, rfl, hb, h⟩
  refine ⟨u, r, rfl, hb, ?_⟩
  have lt := line_through (px := px) (py := py) h7 h0 h1 hf
  rcases h with ⟨e1, e2, h⟩ | ⟨e1, e2, h⟩
  · refine .inl ⟨e1, ?_, h⟩
    cases q : thX px py n (toN xs) (toN xs).length with
    | false => rfl
    | true => rw [e2, q] at lt; cases lt
  · refine .inr ⟨e1, ?_, h⟩
    cases q : thX px py n (toN xs) (toN xs).length with
    | true => rfl
    | false => rw [e2, q] at lt; cases lt

theorem FanB.sane {px py : Nat → Int} {n : Nat} {ys : List (Nat × Nat)} {w' : World} {u : Value} {r : Int} (h : FanB px py n ys w' u r) (hbd : Bds n px py) (g cp : Nat) (W : World) (hW : Below w'.heap.size w' W) (hp : Pts W g 0 n px py) :
    Calls Tryz.prog 16 #[.slice (some ⟨g, 0, none⟩) n cp, u] W fun e w' => e = .returned (.bool true) ∧ Below W.heap.size W w' := by
  rcases h with ⟨_, _, g2, cp2, d, M, hs, rfl, hd, ht, hT, hM, _⟩ | ⟨_, _, rfl⟩
  · exact sane_few hbd hT hM g cp g2 cp2 W hp (ht.below hW) hd
  · exact sane_any px py n g 0 cp 0 0 none [] (fun _ => 0) (fun _ => 0) (fun _ => 0) W hp (fun h => by omega) (by omega) hbd ⟨fun i hi => by omega, fun i hi => by omega⟩ (fun i hi => by omega) (fun i hi => by omega)

set_option maxRecDepth 100000 in
set_option maxHeartbeats 2000000 in
theorem side_nil (a b : Int) (w : World) : Calls Tryz.prog 18 #[.slice none 0 0, .int .i64 a, .int .i64 b] w fun e w' => e = .returned (.bool false) ∧ Below w.heap.size w w' := by
  go_enter Tryz.func18, Tryz.ntmps18
  go_wp2
  refine wp_loop_rounds 1 ?_
  rw [rounds_succ]
  go_wp2
  go_ret
  exact ⟨rfl, Below.refl _ _⟩

/-- Each line is a side, where there are triangles. -/
def SdR (r : Int) (e : Ending) : Prop := ∃ b : Bool, e = .returned (.bool b) ∧ (r = 0 → b = true)

theorem FanB.side {px py : Nat → Int} {n : Nat} {ys : List (Nat × Nat)} {w' : World} {u : Value} {r : Int} (h : FanB px py n ys w' u r) {y : Nat × Nat} (hy : y ∈ ys) (hne : y.1 ≠ y.2) (W : World) (hW : Below w'.heap.size w' W) :
    Calls Tryz.prog 18 #[u, .int .i64 (y.1 : Nat), .int .i64 (y.2 : Nat)] W fun e w' => SdR r e ∧ Below W.heap.size W w' := by
  rcases h with ⟨e1, _, g2, cp2, d, M, hs, rfl, hd, ht, hT, hM, hL⟩ | ⟨e1, _, rfl⟩
  · refine (side_any n g2 0 d.size cp2 (dz d) (dA d) (dB d) (dC d) y.1 y.2 W (ht.below hW) (by omega) (hT.row3 hM.mesh)).mono ?_
    rintro e w2 ⟨rfl, hb⟩
    exact ⟨⟨_, rfl, fun _ => (side_joined hM.mesh hT hne).2 (hL.jo y hy)⟩, hb⟩
  · refine (side_nil _ _ W).mono ?_
    rintro e w2 ⟨rfl, hb⟩
    exact ⟨⟨_, rfl, fun h => by omega⟩, hb⟩
end Go.Proofs.YtdbebbbceeopaaaGreat
