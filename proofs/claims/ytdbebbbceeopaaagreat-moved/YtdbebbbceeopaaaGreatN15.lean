import Derived.Test.YtdbebbbceeopaaaGreatN4
import Derived.Test.YtdbebbbceeopaaaGreatN14
import Derived.Test.YtdbebbbceeopaaaGreatN12
import Derived.Test.YtdbebbbceeopaaaGreatN5
set_option linter.unusedSimpArgs false
namespace Go.Proofs.YtdbebbbceeopaaaGreat
open Geo

/-- A list that has each triangle of a mesh once, by rising corners. -/
structure Lists (M : Nat → Nat → Option Nat) (m : Nat) (A B C : Nat → Nat) : Prop where
  tri : ∀ i, i < m → M (A i) (B i) = some (C i) ∧ A i < B i ∧ A i < C i
  all : ∀ a b c, M a b = some c → a < b → a < c → ∃ i, i < m ∧ A i = a ∧ B i = b ∧ C i = c
  srt : ∀ i, i + 1 < m → A i < A (i + 1) ∨ (A i = A (i + 1) ∧ (B i < B (i + 1) ∨ (B i = B (i + 1) ∧ C i < C (i + 1))))

variable {px py : Nat → Int} {n m : Nat} {M : Nat → Nat → Option Nat} {A B C : Nat → Nat} {z : List Int}

theorem Lists.rise (h : Lists M m A B C) : ∀ d i, i + d + 1 < m → A i < A (i + d + 1) ∨ (A i = A (i + d + 1) ∧ (B i < B (i + d + 1) ∨ (B i = B (i + d + 1) ∧ C i < C (i + d + 1))))
  | 0, i, hi => h.srt i hi
  | d + 1, i, hi => by
    have h1 := h.rise d i (by omega)
    have h2 := h.srt (i + d + 1) (by omega)
    rw [show i + (d + 1) + 1 = i + d + 1 + 1 by omega]
    omega

theorem Lists.inj (h : Lists M m A B C) {i j : Nat} (hi : i < m) (hj : j < m) (e1 : A i = A j) (e2 : B i = B j) (e3 : C i = C j) : i = j := by
  rcases Nat.lt_trichotomy i j with k | k | k
  · have := h.rise (j - i - 1) i (by omega)
    rw [show i + (j - i - 1) + 1 = j by omega] at this
    omega
  · exact k
  · have := h.rise (i - j - 1) j (by omega)
    rw [show j + (i - j - 1) + 1 = i by omega] at this
    omega

/-- Each triangle's least corner may come first. -/
theorem least {px py : Nat → Int} {n : Nat} {M : Nat → Nat → Option Nat} (h : Mesh px py n M) {a b c : Nat} (e : M a b = some c) : (a < b ∧ a < c) ∨ (b < c ∧ b < a) ∨ (c < a ∧ c < b) := by
  have p := h.pos _ _ _ e
  have := T_ne12 p
  have := T_ne13 p
  have := T_ne23 p
  omega

theorem Lists.has (h : Lists M m A B C) (hm : Mesh px py n M) {a b c : Nat} (e : M a b = some c) :
    ∃ i, i < m ∧ ((A i = a ∧ B i = b ∧ C i = c) ∨ (B i = a ∧ C i = b ∧ A i = c) ∨ (C i = a ∧ A i = b ∧ B i = c)) := by
  have eb := hm.cyc _ _ _ e
  have ec := hm.cyc _ _ _ eb
  rcases least hm e with k | k | k
  · obtain ⟨i, hi, e1, e2, e3⟩ := h.all a b c e k.1 k.2
    exact ⟨i, hi, .inl ⟨e1, e2, e3⟩⟩
  · obtain ⟨i, hi, e1, e2, e3⟩ := h.all b c a eb k.1 k.2
    exact ⟨i, hi, .inr (.inr ⟨e3, e1, e2⟩)⟩
  · obtain ⟨i, hi, e1, e2, e3⟩ := h.all c a b ec k.1 k.2
    exact ⟨i, hi, .inr (.inl ⟨e2, e3, e1⟩)⟩

/-- Of the three ways to count a triangle's corners one begins with the least. -/
def Kc (K : Nat → Nat → Nat → Int) (u v w : Nat) : Int := if u < v ∧ u < w then K u v w else 0

theorem rotS (h : Mesh px py n M) (K : Nat → Nat → Nat → Int) : Sd n M K = Sd n M (fun u v w => K v w u) := h.rot K

theorem are_c2 (hm : Mesh px py n M) : Are px py n M = Sd n M (fun u v _ => c2 px py u v) * 3 := by
  have e1 : Are px py n M = Sd n M (fun u v _ => c2 px py u v) + Sd n M (fun _ v w => c2 px py v w) + Sd n M (fun u _ w => c2 px py w u) := by
    unfold Are Sd
    rw [← sm2_add, ← sm2_add]
    refine sm2_congr fun u v _ _ => ?_
    cases e : M u v with
    | none => rfl
    | some w =>
      simp only [el_some]
      unfold T tw c2; grind
  have r1 : Sd n M (fun u v _ => c2 px py u v) = Sd n M (fun _ v w => c2 px py v w) := rotS hm _
  have r2 : Sd n M (fun _ v w => c2 px py v w) = Sd n M (fun u _ w => c2 px py w u) := rotS hm _
  omega

end Go.Proofs.YtdbebbbceeopaaaGreat

set_option linter.unusedSimpArgs false
namespace Go.Proofs.YtdbebbbceeopaaaGreat
open Geo
variable {Pos : Int → Int → Prop} {px py : Nat → Int} {n : Nat}

theorem c2_line {b b' l : Nat} (h : T px py b l b' = 0) : c2 px py b l = c2 px py b b' + c2 px py b' l := by
  have : T px py b l b' = c2 px py b l + c2 px py l b' + c2 px py b' b := by unfold T tw c2; grind
  have e1 := c2_anti (px := px) (py := py) l b'
  have e2 := c2_anti (px := px) (py := py) b' b
  omega

theorem gd_mid (H : Half Pos) {r t : List Nat} {l b b' : Nat} (h : Gd Pos px py r (l :: b :: t)) (hbr : b ∈ r) (tri : ∀ p ∈ r, ∀ q ∈ r, p = q ∨ Lt Pos px py p q ∨ Lt Pos px py q p)
    (h0 : T px py b l b' = 0) (k : Lt Pos px py b b') : Gd Pos px py r (b' :: b :: t) := by
  refine ⟨k, fun p hp => ?_, h.2.2⟩
  have hp0 := h.2.1 p hp
  have z : cr (px l - px b) (py l - py b) (px b' - px b) (py b' - py b) = 0 := by rw [← T_cr]; exact h0
  have z' : cr (px b' - px b) (py b' - py b) (px l - px b) (py l - py b) = 0 := by rw [cr_anti]; omega
  rcases tri p hp b hbr with rfl | g | g
  · rw [T_one]; omega
  · rw [T_on] at hp0 ⊢
    exact H.tr _ _ _ _ _ _ g h.1 k hp0 (by omega)
  · rw [T_cr] at hp0 ⊢
    exact H.tr _ _ _ _ _ _ k h.1 g (by omega) hp0

/-- Two walks with all to their left from one point to another have the same beneath. -/
theorem shs_eq (H : Half Pos) {r : List Nat} (tri : ∀ p ∈ r, ∀ q ∈ r, p = q ∨ Lt Pos px py p q ∨ Lt Pos px py q p) : ∀ (N : Nat) (s s' : List Nat) (l : Nat), s.length + s'.length ≤ N → Gd Pos px py r (l :: s) → Gd Pos px py r (l :: s') →
    (∀ y ∈ l :: s, y ∈ r) → (∀ y ∈ l :: s', y ∈ r) → (l :: s).getLast? = (l :: s').getLast? → shs px py (l :: s) = shs px py (l :: s') := by
  intro N
  induction N with
  | zero =>
    intro s s' l hN _ _ _ _ _
    rw [List.eq_nil_of_length_eq_zero (by omega : s.length = 0), List.eq_nil_of_length_eq_zero (by omega : s'.length = 0)]
  | succ N ih =>
    intro s s' l hN h h' hin hin' hlast
    cases s with
    | nil =>
      cases s' with
      | nil => rfl
      | cons b' t' =>
        exfalso
        rw [List.getLast?_cons_cons] at hlast
        have : l ∈ b' :: t' := List.mem_of_getLast? hlast.symm
        exact lt_irrefl H (h'.below H l this)
    | cons b t =>
      cases s' with
      | nil =>
        exfalso
        rw [List.getLast?_cons_cons] at hlast
        have : l ∈ b :: t := List.mem_of_getLast? hlast
        exact lt_irrefl H (h.below H l this)
      | cons b' t' =>
        have hbr : b ∈ r := hin b (by simp)
        have hbr' : b' ∈ r := hin' b' (by simp)
        have e1 := h.2.1 b' hbr'
        have e2 := h'.2.1 b hbr
        have e3 : T px py b' l b = - T px py b l b' := by unfold T tw; grind
        have h0 : T px py b l b' = 0 := by omega
        have h0' : T px py b' l b = 0 := by omega
        rw [List.getLast?_cons_cons, List.getLast?_cons_cons] at hlast
        rcases tri b hbr b' hbr' with rfl | k | k
        · have := ih t t' b (by simp at hN; omega) h.2.2 h'.2.2 (fun y hy => hin y (List.mem_cons_of_mem _ hy)) (fun y hy => hin' y (List.mem_cons_of_mem _ hy)) hlast
          show c2 px py b l + shs px py (b :: t) = c2 px py b l + shs px py (b :: t')
          omega
        · have := ih (b :: t) t' b' (by simp at hN ⊢; omega) (gd_mid H h hbr tri h0 k) h'.2.2 (fun y hy => by
            rcases List.mem_cons.1 hy with rfl | hy
            · exact hbr'
            · exact hin y (List.mem_cons_of_mem _ hy)) (fun y hy => hin' y (List.mem_cons_of_mem _ hy)) (by rw [List.getLast?_cons_cons]; exact hlast)
          have c := c2_line h0
          show c2 px py b l + shs px py (b :: t) = c2 px py b' l + shs px py (b' :: t')
          have : shs px py (b' :: b :: t) = c2 px py b b' + shs px py (b :: t) := rfl
          omega
        · have := ih t (b' :: t') b (by simp at hN ⊢; omega) h.2.2 (gd_mid H h' hbr' tri h0' k) (fun y hy => hin y (List.mem_cons_of_mem _ hy)) (fun y hy => by
            rcases List.mem_cons.1 hy with rfl | hy
            · exact hbr
            · exact hin' y (List.mem_cons_of_mem _ hy)) (by rw [List.getLast?_cons_cons]; exact hlast)
          have c := c2_line h0'
          show c2 px py b l + shs px py (b :: t) = c2 px py b' l + shs px py (b' :: t')
          have : shs px py (b :: b' :: t') = c2 px py b' b + shs px py (b' :: t') := rfl
          omega

theorem good_gd {r : List Nat} : ∀ s : List Nat, Geo.Good Pos px py r s → Gd Pos px py r s
  | [], _ => trivial
  | [_], _ => trivial
  | _ :: b :: s, h => ⟨h.1, h.2.1, good_gd (b :: s) h.2.2.2⟩

/-- Side after side of a list. -/
def pl (px py : Nat → Int) (h : List Nat) : Nat → Int
  | 0 => 0
  | k + 1 => pl px py h k + c2 px py (h.getD k 0) (h.getD (k + 1) 0)

theorem fan_pl (h : List Nat) : ∀ k, fanI px py h k = pl px py h (k + 1) + c2 px py (h.getD (k + 1) 0) (h.getD 0 0)
  | 0 => by
    have := c2_anti (px := px) (py := py) (h.getD 0 0) (h.getD 1 0)
    show 0 = 0 + c2 px py (h.getD 0 0) (h.getD 1 0) + c2 px py (h.getD 1 0) (h.getD 0 0)
    omega
  | k + 1 => by
    rw [fanI, fan_pl h k, pl]
    have t : T px py (h.getD 0 0) (h.getD (k + 1) 0) (h.getD (k + 2) 0) = c2 px py (h.getD 0 0) (h.getD (k + 1) 0) + c2 px py (h.getD (k + 1) 0) (h.getD (k + 2) 0) + c2 px py (h.getD (k + 2) 0) (h.getD 0 0) := by unfold T tw c2; grind
    have := c2_anti (px := px) (py := py) (h.getD 0 0) (h.getD (k + 1) 0)
    rw [t]
    show _ = pl px py h k + c2 px py (h.getD k 0) (h.getD (k + 1) 0) + c2 px py (h.getD (k + 1) 0) (h.getD (k + 2) 0) + c2 px py (h.getD (k + 2) 0) (h.getD 0 0)
    have : pl px py h (k + 1) = pl px py h k + c2 px py (h.getD k 0) (h.getD (k + 1) 0) := rfl
    omega

theorem take_rev (h : List Nat) (k : Nat) (hk : k < h.length) : (h.take (k + 1)).reverse = h.getD k 0 :: (h.take k).reverse := by
  rw [List.take_succ_eq_append_getElem hk, List.reverse_append, List.getD_eq_getElem?_getD, List.getElem?_eq_getElem hk]
  rfl

theorem shs_pl (h : List Nat) : ∀ k, k < h.length → shs px py (h.take (k + 1)).reverse = pl px py h k
  | 0, hk => by rw [take_rev h 0 hk]; rfl
  | k + 1, hk => by
    rw [take_rev h (k + 1) hk, take_rev h k (by omega)]
    show c2 px py (h.getD k 0) (h.getD (k + 1) 0) + shs px py (h.getD k 0 :: (h.take k).reverse) = _
    rw [← take_rev h k (by omega), shs_pl h k (by omega), pl]
    omega

theorem fan_shs (h : List Nat) (h2 : 2 ≤ h.length) : fanI px py h (h.length - 2) = shs px py (h.getD 0 0 :: h.reverse) := by
  obtain ⟨k, hk⟩ : ∃ k, h.length = k + 2 := ⟨h.length - 2, by omega⟩
  rw [hk, show k + 2 - 2 = k by omega, fan_pl]
  have e1 := shs_pl (px := px) (py := py) h (k + 1) (by omega)
  have e2 : h.take (k + 1 + 1) = h := List.take_of_length_le (by omega)
  rw [e2] at e1
  have e3 := take_rev h (k + 1) (by omega)
  rw [e2] at e3
  rw [e3] at e1 ⊢
  show _ = c2 px py (h.getD (k + 1) 0) (h.getD 0 0) + shs px py (h.getD (k + 1) 0 :: (h.take (k + 1)).reverse)
  omega

theorem shs_app : ∀ (s : List Nat) (R : Nat) (q : List Nat), s.getLast? = some R → shs px py (s ++ q) = shs px py s + shs px py (R :: q)
  | [], R, q, h => by cases h
  | [a], R, q, h => by
    simp at h
    subst h
    show shs px py (a :: q) = 0 + shs px py (a :: q)
    omega
  | a :: b :: s, R, q, h => by
    rw [List.getLast?_cons_cons] at h
    have ih := shs_app (b :: s) R q h
    show c2 px py b a + shs px py (b :: (s ++ q)) = c2 px py b a + shs px py (b :: s) + _
    rw [List.cons_append] at ih
    omega

/-- The hull's area, by its two walks. -/
theorem fan_two {s1 s2 : List Nat} {R L : Nat} (q1 q2 : List Nat) (e1 : s1 = R :: q1) (e2 : s2 = L :: q2) (hR : s2.getLast? = some R) (hL : s1.getLast? = some L) (n1 : q1 ≠ []) (n2 : q2 ≠ []) :
    fanI px py (s1.reverse.dropLast ++ s2.reverse.dropLast) ((s1.reverse.dropLast ++ s2.reverse.dropLast).length - 2) = shs px py s1 + shs px py s2 := by
  have l1 : 1 ≤ q1.length := by cases q1 <;> simp at *
  have l2 : 1 ≤ q2.length := by cases q2 <;> simp at *
  rw [fan_shs _ (by rw [e1, e2]; simp; omega)]
  have d1 : s1.reverse.dropLast.reverse = q1 := by rw [e1]; simp
  have d2 : s2.reverse.dropLast.reverse = q2 := by rw [e2]; simp
  have hd : (s1.reverse.dropLast ++ s2.reverse.dropLast).getD 0 0 = L := by
    have g : s1.reverse.dropLast ≠ [] := by
      intro h
      have : s1.reverse.dropLast.reverse = [] := by rw [h]; rfl
      rw [d1] at this
      exact n1 this
    have h1 : (s1.reverse.dropLast ++ s2.reverse.dropLast)[0]? = s1.reverse[0]? := by
      have hl : 0 < s1.reverse.dropLast.length := List.length_pos_iff.2 g
      rw [List.getElem?_append_left hl, List.dropLast_eq_take, List.getElem?_take]
      simp at hl
      rw [if_pos (by simp; omega)]
    rw [List.getD_eq_getElem?_getD, h1, ← List.head?_eq_getElem?, List.head?_reverse, hL]
    rfl
  rw [hd, List.reverse_append, d1, d2]
  have e : L :: (q2 ++ q1) = s2 ++ q1 := by rw [e2]; rfl
  rw [e, shs_app s2 R q1 hR, ← e1]
  omega

end Go.Proofs.YtdbebbbceeopaaaGreat

set_option linter.unusedSimpArgs false
namespace Go.Proofs.YtdbebbbceeopaaaGreat
open Geo
variable {Pos : Int → Int → Prop} {px py : Nat → Int} {n : Nat}

/-- No triangles. -/
def no : Nat → Nat → Option Nat := fun _ _ => none

theorem inv_first (x : Nat) : Inv Pos px py n x [] [] no := by
  refine ⟨fun y hy => hy, fun m hm p hp => ?_, trivial, ?_, ?_, ?_, ?_, ?_, ?_, ?_, ?_, ?_, ?_, ?_, ?_⟩
  · simp at hm hp; exact .inl (by omega)
  · intro u v w h; cases h
  · intro u v w h; cases h
  · intro u v w h; cases h
  · intro u v w h; cases h
  · intro u v w h; cases h
  · intro u v h; cases h
  · intro u v w h; cases h
  · intro u v h; cases h
  · intro u v h; cases h
  · intro u v w h; cases h
  · have : Sd n no (fun u v _ => c2 px py u v) = 0 := by
      unfold Sd
      have : sm2 n (fun u v => el (no u v) fun _ => c2 px py u v) = sm n (fun _ => 0) := sm_congr fun _ _ => sm_zero n
      rw [this, sm_zero]
    rw [this]; rfl
  · have : Sd n no (fun _ _ _ => 1) = 0 := by
      unfold Sd
      have : sm2 n (fun u v => el (no u v) fun _ => 1) = sm n (fun _ => 0) := sm_congr fun _ _ => sm_zero n
      rw [this, sm_zero]
    rw [this]
    simp

/-- A sweep over all points. -/
theorem sweep_all (H : Half Pos) {x : Nat} {os : List Nat} (hs : (x :: os).Pairwise (Lt Pos px py)) (hn : ∀ p ∈ x :: os, p < n) :
    ∃ l r s, (sweep px py no [] (x :: os)).2 = l :: s ∧ l :: r = (x :: os).reverse ∧ Inv Pos px py n l r s (sweep px py no [] (x :: os)).1 := by
  have e : (x :: os).reverse = os.reverse ++ [x] := List.reverse_cons
  have h := sweep_inv H os x [] [] no (inv_first x) (by rw [← e, List.pairwise_reverse]; exact hs) (fun p hp => hn p (by rw [← e] at hp; exact List.mem_reverse.1 hp))
  rw [e]
  exact h

theorem ov_no (B : Nat → Nat → Option Nat) : ov no B = B := by funext u v; rfl

/-- The weak walk's beneath is the strict one's. -/
theorem weak_strict (H : Half Pos) {os : List Nat} (h2 : 2 ≤ os.length) (hs : os.Pairwise (Lt Pos px py)) {l : Nat} {r s : List Nat} {A : Nat → Nat → Option Nat} (hI : Inv Pos px py n l r s A) (hr : l :: r = os.reverse) :
    ∃ q, stk (T px py) os = l :: q ∧ q ≠ [] ∧ (l :: q).getLast? = some (os.getD 0 0) ∧ l = os.getD (os.length - 1) 0 ∧ shs px py (l :: s) = shs px py (stk (T px py) os) := by
  obtain ⟨q, g1, g2, g3⟩ := stk_good H os hs os.length (by omega) (Nat.le_refl _)
  rw [List.take_length] at g1 g3
  have hlast : os[os.length - 1]! = os.getD (os.length - 1) 0 := by rw [List.getD_eq_getElem?_getD, List.getElem!_eq_getElem?_getD]; rfl
  have hfirst : os[0]! = os.getD 0 0 := by rw [List.getD_eq_getElem?_getD, List.getElem!_eq_getElem?_getD]; rfl
  have hl : l = os.getD (os.length - 1) 0 := by
    have : (l :: r)[0]? = os.reverse[0]? := by rw [hr]
    rw [List.getElem?_reverse (by omega)] at this
    rw [List.getD_eq_getElem?_getD, show os.length - 1 = os.length - 1 - 0 by omega, ← this]
    rfl
  rw [hlast, ← hl] at g1 g2 g3
  rw [hfirst] at g2
  have hmem : ∀ p, p ∈ l :: r ↔ p ∈ os := fun p => by rw [hr]; exact List.mem_reverse
  have ord : ∀ i j, (hi : i < os.length) → (hj : j < os.length) → i < j → Lt Pos px py os[i] os[j] := fun i j hi hj hij => List.pairwise_iff_getElem.1 hs i j hi hj hij
  have tri : ∀ p ∈ l :: r, ∀ p' ∈ l :: r, p = p' ∨ Lt Pos px py p p' ∨ Lt Pos px py p' p := by
    intro p hp p' hp'
    obtain ⟨i, hi, rfl⟩ := List.getElem_of_mem ((hmem p).1 hp)
    obtain ⟨j, hj, rfl⟩ := List.getElem_of_mem ((hmem p').1 hp')
    rcases Nat.lt_trichotomy i j with k | k | k
    · exact .inr (.inl (ord i j hi hj k))
    · subst k; exact .inl rfl
    · exact .inr (.inr (ord j i hj hi k))
  have sub : ∀ y ∈ l :: q, y ∈ l :: r := fun y hy => by
    rw [hmem]
    have : y ∈ stk (T px py) os := by rw [g1]; exact hy
    exact stk_mem (T px py) os os.length (Nat.le_refl _) y (by rw [List.take_length]; exact this)
  have gd : Gd Pos px py (l :: r) (l :: q) := by
    have := good_gd (l :: q) g3
    have up : ∀ t : List Nat, Gd Pos px py os t → Gd Pos px py (l :: r) t := by
      intro t
      induction t with
      | nil => intro _; trivial
      | cons a t ih =>
        cases t with
        | nil => intro _; trivial
        | cons b t => intro h; exact ⟨h.1, fun p hp => h.2.1 p ((hmem p).1 hp), ih h.2.2⟩
    exact up _ this
  have hq : q ≠ [] := by
    have := stk_two (T px py) os h2
    rw [g1] at this
    intro h
    subst h
    simp at this
  have f0 : os.getD 0 0 ∈ os := by
    rw [List.getD_eq_getElem?_getD, List.getElem?_eq_getElem (by omega)]
    exact List.getElem_mem _
  have lst : (l :: s).getLast? = some (os.getD 0 0) := by
    cases hm : (l :: s).getLast? with
    | none => simp at hm
    | some m =>
      have mr : m ∈ os := (hmem m).1 (hI.sub m (List.mem_of_getLast? hm))
      rcases hI.bot m hm (os.getD 0 0) ((hmem _).2 f0) with k | k
      · rw [k]
      · exfalso
        obtain ⟨i, hi, rfl⟩ := List.getElem_of_mem mr
        rw [List.getD_eq_getElem?_getD, List.getElem?_eq_getElem (by omega)] at k
        rcases Nat.eq_zero_or_pos i with z | z
        · subst z; exact lt_irrefl H k
        · exact lt_irrefl H (k.trans H (ord 0 i (by omega) hi z))
  refine ⟨q, g1, hq, g2, hl, ?_⟩
  rw [g1]
  exact shs_eq H tri _ s q l (Nat.le_refl _) hI.gd gd hI.sub sub (by rw [lst, g2])

/-- The mesh that two sweeps make. -/
def mesh0 (px py : Nat → Int) (os : List Nat) : Nat → Nat → Option Nat := (sweep px py (sweep px py no [] os).1 [] os.reverse).1

theorem mesh0_ok {os : List Nat} (h3 : 3 ≤ os.length) (hs : os.Pairwise (Lt Lex px py)) (hn : ∀ p, p ∈ os ↔ p < n) (hw : Wide px py os) :
    Mesh px py n (mesh0 px py os) ∧ Cor n (mesh0 px py os) ∧ Sd n (mesh0 px py os) (fun u v _ => c2 px py u v) = fanI px py (hullOf (T px py) os) ((hullOf (T px py) os).length - 2) := by
  obtain ⟨x, xs, hx⟩ : ∃ x xs, os = x :: xs := by cases os with | nil => simp at h3 | cons x xs => exact ⟨x, xs, rfl⟩
  obtain ⟨y, ys, hy⟩ : ∃ y ys, os.reverse = y :: ys := by
    cases h : os.reverse with
    | nil => have : os.reverse.length = 0 := by rw [h]; rfl
             simp at this; rw [this] at h3; simp at h3
    | cons y ys => exact ⟨y, ys, rfl⟩
  have hsr : os.reverse.Pairwise (Lt Back px py) := by
    rw [List.pairwise_reverse]
    exact hs.imp fun h => lt_back.2 h
  obtain ⟨l1, r1, s1, a1, a2, a3⟩ := sweep_all (n := n) half_lex (hx ▸ hs) (fun p hp => (hn p).1 (by rw [hx]; exact hp))
  obtain ⟨l2, r2, s2, b1, b2, b3⟩ := sweep_all (n := n) half_back' (hy ▸ hsr) (fun p hp => (hn p).1 (by rw [← hy] at hp; exact List.mem_reverse.1 hp))
  rw [← hx] at a1 a2 a3
  rw [← hy] at b1 b2 b3
  rw [List.reverse_reverse] at b2
  have ord : ∀ i j, (hi : i < os.length) → (hj : j < os.length) → i < j → Lt Lex px py os[i] os[j] := fun i j hi hj hij => List.pairwise_iff_getElem.1 hs i j hi hj hij
  have mem1 : ∀ p, p ∈ l1 :: r1 ↔ p ∈ os := fun p => by rw [a2]; exact List.mem_reverse
  have two : Two Lex Back px py n l1 r1 s1 (sweep px py no [] os).1 l2 r2 s2 (sweep px py no [] os.reverse).1 := by
    refine ⟨a3, b3, fun a b => lt_back, fun u v => ?_, fun p => ?_, ?_, ?_⟩
    · rw [a2, b2]; exact Ed_rev os u v
    · rw [mem1, b2]
    · intro p hp q hq
      obtain ⟨i, hi, rfl⟩ := List.getElem_of_mem ((mem1 p).1 hp)
      obtain ⟨j, hj, rfl⟩ := List.getElem_of_mem ((mem1 q).1 hq)
      rcases Nat.lt_trichotomy i j with k | k | k
      · exact .inr (.inl (ord i j hi hj k))
      · subst k; exact .inl rfl
      · exact .inr (.inr (ord j i hj hi k))
    · intro u v e
      exact (Ed_con half_lex (l1 :: r1) (by rw [a2, List.pairwise_reverse]; exact hs) u v e).2
  have eM : mesh0 px py os = ov (sweep px py no [] os.reverse).1 (sweep px py no [] os).1 := by
    unfold mesh0
    have := sweep_ov (px := px) (py := py) (sweep px py no [] os).1 os.reverse [] no
    rw [ov_no] at this
    rw [this]
  rw [eM]
  have hn1 : ∀ p, p ∈ l1 :: r1 ↔ p < n := fun p => by rw [mem1]; exact hn p
  refine ⟨two.mesh hn1, two.cor hn1 (by rw [a2, List.length_reverse]; omega) ?_, ?_⟩
  · obtain ⟨i, hi, j, hj, k, hk, ht⟩ := hw
    exact ⟨i, (mem1 i).2 hi, j, (mem1 j).2 hj, k, (mem1 k).2 hk, ht⟩
  · rw [two.sum (by rw [a2, b2])]
    obtain ⟨q1, c1, c2', c3, c4, c5⟩ := weak_strict half_lex (by omega) hs a3 a2
    obtain ⟨q2, d1, d2, d3, d4, d5⟩ := weak_strict half_back' (by rw [List.length_reverse]; omega) hsr b3 (by rw [b2, List.reverse_reverse])
    rw [c5, d5]
    have e1 : os.reverse.getD 0 0 = os.getD (os.length - 1) 0 := by rw [getD_rev _ _ (by omega)]; rfl
    have e2 : os.reverse.getD (os.reverse.length - 1) 0 = os.getD 0 0 := by rw [List.length_reverse, getD_rev _ _ (by omega), show os.length - 1 - (os.length - 1) = 0 by omega]
    unfold hullOf
    exact (fan_two q1 q2 c1 d1 (by rw [d1, d3, e1, ← c4]) (by rw [c1, c3, ← e2, ← d4]) c2' d2).symm

end Go.Proofs.YtdbebbbceeopaaaGreat

set_option linter.unusedSimpArgs false
namespace Go.Proofs.YtdbebbbceeopaaaGreat
open Geo
variable {Pos : Int → Int → Prop} {px py : Nat → Int} {n : Nat}

/-- A weak walk, and the strict one beside it. -/
structure Wk (Pos : Int → Int → Prop) (px py : Nat → Int) (os : List Nat) (l : Nat) (s q : List Nat) (m : Nat) : Prop where
  stk : stk (T px py) os = l :: q
  q0 : q ≠ []
  lastQ : (l :: q).getLast? = some m
  lastS : (l :: s).getLast? = some m
  gdQ : Gd Pos px py os (l :: q)
  gdS : Gd Pos px py os (l :: s)
  memQ : ∀ y ∈ l :: q, y ∈ os
  memS : ∀ y ∈ l :: s, y ∈ os
  good : Geo.Good Pos px py os (l :: q)

theorem gd_up {r r' : List Nat} (h : ∀ p, p ∈ r' → p ∈ r) : ∀ t : List Nat, Gd Pos px py r t → Gd Pos px py r' t := by
  intro t
  induction t with
  | nil => intro _; trivial
  | cons a t ih =>
    cases t with
    | nil => intro _; trivial
    | cons b t => intro k; exact ⟨k.1, fun p hp => k.2.1 p (h p hp), ih k.2.2⟩

theorem weak_walk (H : Half Pos) {os : List Nat} (h2 : 2 ≤ os.length) (hs : os.Pairwise (Lt Pos px py)) {l : Nat} {r s : List Nat} {A : Nat → Nat → Option Nat} (hI : Inv Pos px py n l r s A) (hr : l :: r = os.reverse) :
    ∃ q, l = os.getD (os.length - 1) 0 ∧ Wk Pos px py os l s q (os.getD 0 0) := by
  obtain ⟨q, g1, g2, g3⟩ := stk_good H os hs os.length (by omega) (Nat.le_refl _)
  rw [List.take_length] at g1 g3
  have hlast : os[os.length - 1]! = os.getD (os.length - 1) 0 := by rw [List.getD_eq_getElem?_getD, List.getElem!_eq_getElem?_getD]; rfl
  have hfirst : os[0]! = os.getD 0 0 := by rw [List.getD_eq_getElem?_getD, List.getElem!_eq_getElem?_getD]; rfl
  have hl : l = os.getD (os.length - 1) 0 := by
    have : (l :: r)[0]? = os.reverse[0]? := by rw [hr]
    rw [List.getElem?_reverse (by omega)] at this
    rw [List.getD_eq_getElem?_getD, show os.length - 1 = os.length - 1 - 0 by omega, ← this]
    rfl
  rw [hlast, ← hl] at g1 g2 g3
  rw [hfirst] at g2
  have hmem : ∀ p, p ∈ l :: r ↔ p ∈ os := fun p => by rw [hr]; exact List.mem_reverse
  have ord : ∀ i j, (hi : i < os.length) → (hj : j < os.length) → i < j → Lt Pos px py os[i] os[j] := fun i j hi hj hij => List.pairwise_iff_getElem.1 hs i j hi hj hij
  have sub : ∀ y ∈ l :: q, y ∈ os := fun y hy => by
    have : y ∈ stk (T px py) os := by rw [g1]; exact hy
    exact stk_mem (T px py) os os.length (Nat.le_refl _) y (by rw [List.take_length]; exact this)
  have hq : q ≠ [] := by
    have := stk_two (T px py) os h2
    rw [g1] at this
    intro h
    subst h
    simp at this
  have f0 : os.getD 0 0 ∈ os := by
    rw [List.getD_eq_getElem?_getD, List.getElem?_eq_getElem (by omega)]
    exact List.getElem_mem _
  have lst : (l :: s).getLast? = some (os.getD 0 0) := by
    cases hm : (l :: s).getLast? with
    | none => simp at hm
    | some m =>
      have mr : m ∈ os := (hmem m).1 (hI.sub m (List.mem_of_getLast? hm))
      rcases hI.bot m hm (os.getD 0 0) ((hmem _).2 f0) with k | k
      · rw [k]
      · exfalso
        obtain ⟨i, hi, rfl⟩ := List.getElem_of_mem mr
        rw [List.getD_eq_getElem?_getD, List.getElem?_eq_getElem (by omega)] at k
        rcases Nat.eq_zero_or_pos i with z | z
        · subst z; exact lt_irrefl H k
        · exact lt_irrefl H (k.trans H (ord 0 i (by omega) hi z))
  exact ⟨q, hl, ⟨g1, hq, g2, lst, good_gd (l :: q) g3, gd_up (fun p hp => (hmem p).2 hp) _ hI.gd, sub, fun y hy => (hmem y).1 (hI.sub y hy), g3⟩⟩

/-- The border of a mesh: two walks, there and back; and the hull beside them. -/
structure Ring (px py : Nat → Int) (n : Nat) (os : List Nat) (M : Nat → Nat → Option Nat) (R L : Nat) (s1 q1 s2 q2 : List Nat) : Prop where
  rim : ∀ u v, Rim M u v ↔ Ed (R :: s1) u v ∨ Ed (L :: s2) u v
  w1 : Wk Lex px py os R s1 q1 L
  w2 : Wk Back px py os.reverse L s2 q2 R
  least : ∀ p ∈ os, p = L ∨ Lt Lex px py L p
  most : ∀ p ∈ os, p = R ∨ Lt Lex px py p R
  tri : ∀ p ∈ os, ∀ q ∈ os, p = q ∨ Lt Lex px py p q ∨ Lt Lex px py q p
  cnt : Sd n M (fun _ _ _ => 1) = 3 * (2 * (os.length : Int) - ((R :: s1).length : Int) - ((L :: s2).length : Int))

theorem ov_sum {A B : Nat → Nat → Option Nat} (h : ∀ u v w, B u v = some w → A u v = none) (K : Nat → Nat → Nat → Int) : Sd n (ov A B) K = Sd n A K + Sd n B K := by
  unfold Sd
  rw [← sm2_add]
  refine sm2_congr fun u v _ _ => ?_
  unfold ov
  cases hA : A u v with
  | none => simp [el]
  | some w =>
    cases hB : B u v with
    | none => simp [el]
    | some z => rw [h u v z hB] at hA; cases hA

theorem ring0 {os : List Nat} (h3 : 3 ≤ os.length) (hs : os.Pairwise (Lt Lex px py)) (hn : ∀ p, p ∈ os ↔ p < n) (hw : Wide px py os) :
    ∃ s1 q1 s2 q2, Ring px py n os (mesh0 px py os) (os.getD (os.length - 1) 0) (os.getD 0 0) s1 q1 s2 q2 := by
  obtain ⟨x, xs, hx⟩ : ∃ x xs, os = x :: xs := by cases os with | nil => simp at h3 | cons x xs => exact ⟨x, xs, rfl⟩
  obtain ⟨y, ys, hy⟩ : ∃ y ys, os.reverse = y :: ys := by
    cases h : os.reverse with
    | nil => have : os.reverse.length = 0 := by rw [h]; rfl
             simp at this; rw [this] at h3; simp at h3
    | cons y ys => exact ⟨y, ys, rfl⟩
  have hsr : os.reverse.Pairwise (Lt Back px py) := by
    rw [List.pairwise_reverse]
    exact hs.imp fun h => lt_back.2 h
  obtain ⟨l1, r1, s1, a1, a2, a3⟩ := sweep_all (n := n) half_lex (hx ▸ hs) (fun p hp => (hn p).1 (by rw [hx]; exact hp))
  obtain ⟨l2, r2, s2, b1, b2, b3⟩ := sweep_all (n := n) half_back' (hy ▸ hsr) (fun p hp => (hn p).1 (by rw [← hy] at hp; exact List.mem_reverse.1 hp))
  rw [← hx] at a1 a2 a3
  rw [← hy] at b1 b2 b3
  have b2' := b2
  rw [List.reverse_reverse] at b2
  have ord : ∀ i j, (hi : i < os.length) → (hj : j < os.length) → i < j → Lt Lex px py os[i] os[j] := fun i j hi hj hij => List.pairwise_iff_getElem.1 hs i j hi hj hij
  have mem1 : ∀ p, p ∈ l1 :: r1 ↔ p ∈ os := fun p => by rw [a2]; exact List.mem_reverse
  have tri : ∀ p ∈ os, ∀ q ∈ os, p = q ∨ Lt Lex px py p q ∨ Lt Lex px py q p := by
    intro p hp q hq
    obtain ⟨i, hi, rfl⟩ := List.getElem_of_mem hp
    obtain ⟨j, hj, rfl⟩ := List.getElem_of_mem hq
    rcases Nat.lt_trichotomy i j with k | k | k
    · exact .inr (.inl (ord i j hi hj k))
    · subst k; exact .inl rfl
    · exact .inr (.inr (ord j i hj hi k))
  have two : Two Lex Back px py n l1 r1 s1 (sweep px py no [] os).1 l2 r2 s2 (sweep px py no [] os.reverse).1 := by
    refine ⟨a3, b3, fun a b => lt_back, fun u v => ?_, fun p => ?_, ?_, ?_⟩
    · rw [a2, b2]; exact Ed_rev os u v
    · rw [mem1, b2]
    · intro p hp q hq
      exact tri p ((mem1 p).1 hp) q ((mem1 q).1 hq)
    · intro u v e
      exact (Ed_con half_lex (l1 :: r1) (by rw [a2, List.pairwise_reverse]; exact hs) u v e).2
  have eM : mesh0 px py os = ov (sweep px py no [] os.reverse).1 (sweep px py no [] os).1 := by
    unfold mesh0
    have := sweep_ov (px := px) (py := py) (sweep px py no [] os).1 os.reverse [] no
    rw [ov_no] at this
    rw [this]
  have hwide : Wide px py (l1 :: r1) := by
    obtain ⟨i, hi, j, hj, k, hk, ht⟩ := hw
    exact ⟨i, (mem1 i).2 hi, j, (mem1 j).2 hj, k, (mem1 k).2 hk, ht⟩
  obtain ⟨q1, e1, W1⟩ := weak_walk half_lex (by omega) hs a3 a2
  obtain ⟨q2, e2, W2⟩ := weak_walk half_back' (by rw [List.length_reverse]; omega) hsr b3 b2'
  have k1 : os.reverse.getD 0 0 = os.getD (os.length - 1) 0 := by rw [getD_rev _ _ (by omega)]; rfl
  have k2 : os.reverse.getD (os.reverse.length - 1) 0 = os.getD 0 0 := by rw [List.length_reverse, getD_rev _ _ (by omega), show os.length - 1 - (os.length - 1) = 0 by omega]
  rw [k2] at e2
  rw [k1] at W2
  have g0 : os.getD 0 0 = os[0] := by rw [List.getD_eq_getElem?_getD, List.getElem?_eq_getElem (by omega)]; rfl
  have gl : os.getD (os.length - 1) 0 = os[os.length - 1] := by rw [List.getD_eq_getElem?_getD, List.getElem?_eq_getElem (by omega)]; rfl
  subst e1 e2
  refine ⟨s1, q1, s2, q2, ⟨fun u v => by rw [eM]; exact two.rim half_lex half_back' hwide u v, W1, W2, ?_, ?_, tri, ?_⟩⟩
  · intro p hp
    obtain ⟨i, hi, rfl⟩ := List.getElem_of_mem hp
    rw [g0]
    rcases Nat.eq_zero_or_pos i with z | z
    · subst z; exact .inl rfl
    · exact .inr (ord 0 i (by omega) hi z)
  · intro p hp
    obtain ⟨i, hi, rfl⟩ := List.getElem_of_mem hp
    rw [gl]
    rcases Nat.lt_or_ge i (os.length - 1) with z | z
    · exact .inr (ord i (os.length - 1) hi (by omega) z)
    · have : i = os.length - 1 := by omega
      subst this; exact .inl rfl
  · rw [eM, ov_sum (n := n) (A := (sweep px py no [] os.reverse).1) (B := (sweep px py no [] os).1) (fun u v w h => two.dis h) (fun _ _ _ => 1)]
    have c1 := a3.cn
    have c2 := b3.cn
    rw [a2] at c1
    rw [b2] at c2
    rw [List.length_reverse] at c1
    omega

/-- A place to the left of all of the hull's sides is so of all of the border's. -/
theorem Ring.left {os : List Nat} {M : Nat → Nat → Option Nat} {R L : Nat} {s1 q1 s2 q2 : List Nat} (h : Ring px py n os M R L s1 q1 s2 q2) {x y : Int}
    (hin : ∀ i, i < (hullOf (T px py) os).length → 0 ≤ tp px py x y ((hullOf (T px py) os).getD i 0) ((hullOf (T px py) os).getD ((i + 1) % (hullOf (T px py) os).length) 0)) : ∀ u v, Rim M u v → 0 ≤ tp px py x y u v := by
  unfold hullOf at hin
  have hh := hull_sides h.w1.stk h.w2.stk (by rw [h.w2.stk, h.w2.lastQ]) (by rw [h.w1.stk, h.w1.lastQ]) h.w1.q0 h.w2.q0 (fun a b => 0 ≤ tp px py x y a b) hin
  rw [h.w1.stk, h.w2.stk] at hh
  have tri2 : ∀ p ∈ os.reverse, ∀ q ∈ os.reverse, p = q ∨ Lt Back px py p q ∨ Lt Back px py q p := by
    intro p hp q hq
    rcases h.tri p (List.mem_reverse.1 hp) q (List.mem_reverse.1 hq) with k | k | k
    · exact .inl k
    · exact .inr (.inr (lt_back.2 k))
    · exact .inr (.inl (lt_back.2 k))
  have c1 := walk_all half_lex h.tri (fun a b => 0 ≤ tp px py x y a b) (fun a b u v => tp_same) _ s1 q1 R (Nat.le_refl _) h.w1.gdS h.w1.gdQ h.w1.memS h.w1.memQ (by rw [h.w1.lastS, h.w1.lastQ]) hh.1
  have c2 := walk_all half_back' tri2 (fun a b => 0 ≤ tp px py x y a b) (fun a b u v => tp_same_back) _ s2 q2 L (Nat.le_refl _) h.w2.gdS h.w2.gdQ h.w2.memS h.w2.memQ (by rw [h.w2.lastS, h.w2.lastQ]) hh.2
  intro u v hr
  rcases (h.rim u v).1 hr with e | e
  · exact c1 u v e
  · exact c2 u v e

theorem head_ed {s : List Nat} {l : Nat} (h : s ≠ []) : ∃ b, Ed (l :: s) b l := by
  cases s with
  | nil => exact absurd rfl h
  | cons b s => exact ⟨b, .inl ⟨rfl, rfl⟩⟩

theorem Wk.s0 {os : List Nat} {l m : Nat} {s q : List Nat} (H : Half Pos) (h : Wk Pos px py os l s q m) : s ≠ [] := by
  intro e
  have h1 := h.lastS
  have h2 := h.lastQ
  rw [e] at h1
  simp at h1
  cases q with
  | nil => exact h.q0 rfl
  | cons b q =>
    rw [List.getLast?_cons_cons] at h2
    have : m ∈ b :: q := List.mem_of_getLast? h2
    have := h.gdQ.below H m this
    rw [h1] at this
    exact lt_irrefl H this

theorem Ring.range {os : List Nat} {M : Nat → Nat → Option Nat} {R L : Nat} {s1 q1 s2 q2 : List Nat} (h : Ring px py n os M R L s1 q1 s2 q2) (hw : Wide px py os) {x y : Int} (hB : ∀ u v, Rim M u v → 0 ≤ tp px py x y u v) : px L ≤ x ∧ x ≤ px R := by
  have n1 := h.w1.s0 half_lex
  have n2 := h.w2.s0 half_back'
  have hw2 : Wide px py os.reverse := by
    obtain ⟨i, hi, j, hj, k, hk, ht⟩ := hw
    exact ⟨i, List.mem_reverse.2 hi, j, List.mem_reverse.2 hj, k, List.mem_reverse.2 hk, ht⟩
  obtain ⟨b, eb⟩ := head_ed (l := R) n1
  obtain ⟨a, ea⟩ := ed_last s2 L n2 R h.w2.lastS
  obtain ⟨b', eb'⟩ := head_ed (l := L) n2
  obtain ⟨a', ea'⟩ := ed_last s1 R n1 L h.w1.lastS
  have gb := h.w1.gdS.side _ _ eb
  have ga := h.w2.gdS.side _ _ ea
  have gb' := h.w2.gdS.side _ _ eb'
  have ga' := h.w1.gdS.side _ _ ea'
  have ra : Lt Lex px py a R := lt_back.1 ga.1
  have lb : Lt Lex px py L b' := lt_back.1 gb'.1
  have t1 : 0 < T px py b R a := corner half_lex hw (List.mem_reverse.1 (h.w2.memS a (ea.mem).2)) gb.1 ra (fun p hp => h.most p hp) gb.2 (fun p hp => ga.2 p (List.mem_reverse.2 hp))
  have t2 : 0 < T px py b' L a' := corner half_back' hw2 (List.mem_reverse.2 (h.w1.memS a' (ea'.mem).2)) gb'.1 (lt_back.2 ga'.1) (fun p hp => by
    rcases h.least p (List.mem_reverse.1 hp) with k | k
    · exact .inl k
    · exact .inr (lt_back.2 k)) gb'.2 (fun p hp => ga'.2 p (List.mem_reverse.1 hp))
  have r1 := (end_range t1 (hB _ _ ((h.rim _ _).2 (.inl eb))) (hB _ _ ((h.rim _ _).2 (.inr ea)))).1 (lex_px gb.1) (lex_px ra)
  have r2 := (end_range t2 (hB _ _ ((h.rim _ _).2 (.inr eb'))) (hB _ _ ((h.rim _ _).2 (.inl ea')))).2 (lex_px lb) (lex_px ga'.1)
  exact ⟨r2, r1⟩

/-- A place of the hull lies in a triangle of any mesh with that border; p, q, r are three points around the place g. -/
theorem found_tri {os : List Nat} {M0 M : Nat → Nat → Option Nat} {R L : Nat} {s1 q1 s2 q2 : List Nat} (h : Ring px py n os M0 R L s1 q1 s2 q2) (hr : Geo.Reach px py n M0 M) (hm : Mesh px py n M) (hn : ∀ p, p ∈ os ↔ p < n) {x y gx gy : Int} {p q r : Nat} (hp : p < n) (hq : q < n) (hr' : r < n)
    (hT : 0 < T px py p q r) (k1 : 0 < tp px py gx gy p q) (k2 : 0 < tp px py gx gy q r) (k3 : 0 < tp px py gx gy r p) (hne : gx ≠ x)
    (hL : ∃ i, i < n ∧ px i < gx) (hR : ∃ i, i < n ∧ gx < px i)
    (hin : ∀ i, i < (hullOf (T px py) os).length → 0 ≤ tp px py x y ((hullOf (T px py) os).getD i 0) ((hullOf (T px py) os).getD ((i + 1) % (hullOf (T px py) os).length) 0)) :
    ∃ a b c, M a b = some c ∧ 0 ≤ tp px py x y a b ∧ 0 ≤ tp px py x y b c ∧ 0 ≤ tp px py x y c a := by
  have hw : Wide px py os := ⟨p, (hn p).2 hp, q, (hn q).2 hq, r, (hn r).2 hr', by omega⟩
  have hB := h.left hin
  have hrg := h.range hw hB
  refine hm.found (gy := gy) (L := L) (R := R) hne (fun u v k => hB u v ((hr.rim u v).1 k)) (fun u v k => ?_) hrg.1 ?_ hrg.2 ?_ (fun W X hW hg h1 h2 => ?_)
  · have k' := (h.rim u v).1 ((hr.rim u v).1 k)
    rcases k' with e | e
    · have g := h.w1.gdS.side _ _ e
      exact within_left (all := os) (by omega) (g.1.ne0 half_lex) ((hn p).2 hp) ((hn q).2 hq) ((hn r).2 hr') g.2 hT k1 k2 k3
    · have g := h.w2.gdS.side _ _ e
      exact within_left (all := os.reverse) (by omega) (g.1.ne0 half_back') (List.mem_reverse.2 ((hn p).2 hp)) (List.mem_reverse.2 ((hn q).2 hq)) (List.mem_reverse.2 ((hn r).2 hr')) g.2 hT k1 k2 k3
  · obtain ⟨i, hi, k⟩ := hL
    rcases h.least i ((hn i).2 hi) with e | e
    · rw [← e]; exact k
    · have := lex_px e; omega
  · obtain ⟨i, hi, k⟩ := hR
    rcases h.most i ((hn i).2 hi) with e | e
    · rw [← e]; exact k
    · have := lex_px e; omega
  · obtain ⟨u, v, e, j1, j2⟩ := ed_span s1 R (fun y hy => hg y ((hn y).1 (h.w1.memS y hy))) L h.w1.lastS h1 h2
    exact ⟨u, v, (hr.rim u v).2 ((h.rim u v).2 (.inl e)), j1, j2⟩

/-- Two ways to put the same points in order are one. -/
theorem order_one : ∀ {os os' : List Nat}, os.Pairwise (Lt Lex px py) → os'.Pairwise (Lt Lex px py) → (∀ p, p ∈ os ↔ p ∈ os') → os = os'
  | [], [], _, _, _ => rfl
  | [], a :: _, _, _, h => by have := (h a).2 (by simp); simp at this
  | a :: _, [], _, _, h => by have := (h a).1 (by simp); simp at this
  | a :: s, b :: t, h1, h2, h => by
    have p1 := List.pairwise_cons.1 h1
    have p2 := List.pairwise_cons.1 h2
    have e : a = b := by
      rcases List.mem_cons.1 ((h a).1 (by simp)) with k | k
      · exact k
      · rcases List.mem_cons.1 ((h b).2 (by simp)) with k' | k'
        · exact k'.symm
        · exact (lt_irrefl half_lex ((p2.1 a k).trans half_lex (p1.1 b k'))).elim
    subst e
    rw [order_one p1.2 p2.2 (fun p => by
      constructor
      · intro hp
        rcases List.mem_cons.1 ((h p).1 (List.mem_cons_of_mem _ hp)) with k | k
        · subst k; exact (lt_irrefl half_lex (p1.1 p hp)).elim
        · exact k
      · intro hp
        rcases List.mem_cons.1 ((h p).2 (List.mem_cons_of_mem _ hp)) with k | k
        · subst k; exact (lt_irrefl half_lex (p2.1 p hp)).elim
        · exact k)]

end Go.Proofs.YtdbebbbceeopaaaGreat

set_option linter.unusedSimpArgs false
namespace Go.Proofs.YtdbebbbceeopaaaGreat
open Geo
variable {Pos : Int → Int → Prop} {px py : Nat → Int} {n : Nat}

/-- Whatever lies between a walk's ends is on it, or between two that follow one another. -/
theorem ed_between (H : Half Pos) {r : List Nat} (tri : ∀ p ∈ r, ∀ q ∈ r, p = q ∨ Lt Pos px py p q ∨ Lt Pos px py q p) : ∀ (s : List Nat) (l : Nat), (∀ y ∈ l :: s, y ∈ r) → ∀ m, (l :: s).getLast? = some m → ∀ i ∈ r, (i = m ∨ Lt Pos px py m i) → (i = l ∨ Lt Pos px py i l) →
    i ∈ l :: s ∨ ∃ u v, Ed (l :: s) u v ∧ Lt Pos px py u i ∧ Lt Pos px py i v
  | [], l, _, m, hm, i, hi, h1, h2 => by
    simp at hm
    subst hm
    rcases h1 with h1 | h1
    · exact .inl (by simp [h1])
    · rcases h2 with h2 | h2
      · exact .inl (by simp [h2])
      · exact (lt_irrefl H (h1.trans H h2)).elim
  | b :: s, l, hin, m, hm, i, hi, h1, h2 => by
    rw [List.getLast?_cons_cons] at hm
    rcases h2 with h2 | h2
    · exact .inl (by simp [h2])
    · rcases tri i hi b (hin b (by simp)) with k | k | k
      · exact .inl (by simp [k])
      · rcases ed_between H tri s b (fun y hy => hin y (List.mem_cons_of_mem _ hy)) m hm i hi h1 (.inr k) with g | ⟨u, v, e, g1, g2⟩
        · exact .inl (List.mem_cons_of_mem _ g)
        · exact .inr ⟨u, v, .inr e, g1, g2⟩
      · exact .inr ⟨b, l, .inl ⟨rfl, rfl⟩, k, h2⟩

/-- A point on the line of a side of the hull, between two of a walk, lies on the line of these. -/
theorem on_lex {a b u v i : Nat} (hab : Lt Lex px py a b) (hu : 0 ≤ T px py a b u) (hv : 0 ≤ T px py a b v) (hi : T px py a b i = 0) (h0 : 0 ≤ T px py u v i) (h1 : Lt Lex px py u i) (h2 : Lt Lex px py i v) : T px py u v i = 0 := by
  have id : T px py a b i * (px v - px u) = T px py a b u * (px v - px i) + T px py a b v * (px i - px u) + T px py u v i * (px b - px a) := by unfold T tw; grind
  have x1 := lex_px h1
  have x2 := lex_px h2
  rw [hi, Int.zero_mul] at id
  have m1 := Int.mul_nonneg hu (show 0 ≤ px v - px i by omega)
  have m2 := Int.mul_nonneg hv (show 0 ≤ px i - px u by omega)
  rcases hab with hab | ⟨hab, hab'⟩
  · rcases Int.lt_or_le 0 (T px py u v i) with k | k
    · have := Int.mul_pos k hab; omega
    · omega
  · have f : ∀ p, T px py a b p = (py b - py a) * (px a - px p) := fun p => by unfold T tw; grind
    rw [f] at hu hv hi
    have e1 : px a - px i = 0 := by
      rcases Int.mul_eq_zero.1 hi with k | k
      · omega
      · exact k
    have e2 := nn_of_mul hab' hv
    have e3 : px v = px i := by omega
    have e4 : py i < py v := by
      rcases h2 with k | ⟨_, k⟩ <;> omega
    have e5 : T px py u v i = (px i - px u) * (py i - py v) := by unfold T tw; grind
    rw [e5] at h0 ⊢
    rcases Int.lt_or_le 0 (px i - px u) with k | k
    · have := Int.mul_neg_of_pos_of_neg k (show py i - py v < 0 by omega); omega
    · have : px i - px u = 0 := by omega
      rw [this, Int.zero_mul]

theorem T_neg (a b c : Nat) : T (fun i => - px i) (fun i => - py i) a b c = T px py a b c := by unfold T tw; grind

theorem lt_neg {a b : Nat} : Lt Lex (fun i => - px i) (fun i => - py i) a b ↔ Lt Back px py a b := by
  unfold Lt Back
  rw [show -px b - -px a = -(px b - px a) by omega, show -py b - -py a = -(py b - py a) by omega]

theorem on_back {a b u v i : Nat} (hab : Lt Back px py a b) (hu : 0 ≤ T px py a b u) (hv : 0 ≤ T px py a b v) (hi : T px py a b i = 0) (h0 : 0 ≤ T px py u v i) (h1 : Lt Back px py u i) (h2 : Lt Back px py i v) : T px py u v i = 0 := by
  have := on_lex (px := fun i => - px i) (py := fun i => - py i) (a := a) (b := b) (u := u) (v := v) (i := i) (lt_neg.2 hab) (by rw [T_neg]; exact hu) (by rw [T_neg]; exact hv) (by rw [T_neg]; exact hi) (by rw [T_neg]; exact h0) (lt_neg.2 h1) (lt_neg.2 h2)
  rwa [T_neg] at this

/-- A point between the ends of a triangle's side lies in it. -/
theorem seg_in {u v w i : Nat} (h0 : T px py u v i = 0) (h1 : Lt Lex px py u i) (h2 : Lt Lex px py i v) (ht : 0 < T px py u v w) : 0 ≤ T px py v w i ∧ 0 ≤ T px py w u i := by
  have i1 : T px py v w i * (px v - px u) = (px v - px i) * T px py u v w := by unfold T tw at *; grind
  have i2 : T px py w u i * (px v - px u) = (px i - px u) * T px py u v w := by unfold T tw at *; grind
  have j1 : T px py v w i * (py v - py u) = (py v - py i) * T px py u v w := by unfold T tw at *; grind
  have j2 : T px py w u i * (py v - py u) = (py i - py u) * T px py u v w := by unfold T tw at *; grind
  have x1 := lex_px h1
  have x2 := lex_px h2
  rcases Int.lt_or_le 0 (px v - px u) with k | k
  · have m1 := Int.mul_nonneg (show 0 ≤ px v - px i by omega) (Int.le_of_lt ht)
    have m2 := Int.mul_nonneg (show 0 ≤ px i - px u by omega) (Int.le_of_lt ht)
    exact ⟨nn_of_mul k (by rw [Int.mul_comm]; omega), nn_of_mul k (by rw [Int.mul_comm]; omega)⟩
  · have y1 : py u < py i := by rcases h1 with g | ⟨_, g⟩ <;> omega
    have y2 : py i < py v := by rcases h2 with g | ⟨_, g⟩ <;> omega
    have m1 := Int.mul_nonneg (show 0 ≤ py v - py i by omega) (Int.le_of_lt ht)
    have m2 := Int.mul_nonneg (show 0 ≤ py i - py u by omega) (Int.le_of_lt ht)
    exact ⟨nn_of_mul (p := py v - py u) (by omega) (by rw [Int.mul_comm]; omega), nn_of_mul (p := py v - py u) (by omega) (by rw [Int.mul_comm]; omega)⟩

theorem seg_in_back {u v w i : Nat} (h0 : T px py u v i = 0) (h1 : Lt Back px py u i) (h2 : Lt Back px py i v) (ht : 0 < T px py u v w) : 0 ≤ T px py v w i ∧ 0 ≤ T px py w u i := by
  have := seg_in (px := fun i => - px i) (py := fun i => - py i) (u := u) (v := v) (w := w) (i := i) (by rw [T_neg]; exact h0) (lt_neg.2 h1) (lt_neg.2 h2) (by rw [T_neg]; exact ht)
  rwa [T_neg, T_neg] at this

/-- Does a point lie on the hull's border: on a line through two with nothing to its right? -/
def Bdr (px py : Nat → Int) (n i : Nat) : Prop := ∃ a b, a < n ∧ b < n ∧ a ≠ b ∧ (∀ p, p < n → 0 ≤ T px py a b p) ∧ T px py a b i = 0

variable {os : List Nat} {M : Nat → Nat → Option Nat} {R L : Nat} {s1 q1 s2 q2 : List Nat}

theorem Ring.tri2 (h : Ring px py n os M R L s1 q1 s2 q2) : ∀ p ∈ os.reverse, ∀ q ∈ os.reverse, p = q ∨ Lt Back px py p q ∨ Lt Back px py q p := by
  intro p hp q hq
  rcases h.tri p (List.mem_reverse.1 hp) q (List.mem_reverse.1 hq) with k | k | k
  · exact .inl k
  · exact .inr (.inr (lt_back.2 k))
  · exact .inr (.inl (lt_back.2 k))

theorem Ring.bdr (h : Ring px py n os M R L s1 q1 s2 q2) (hm : Mesh px py n M) (hj : Inj px py n) (hc : Cor n M) (hn : ∀ p, p ∈ os ↔ p < n) {i : Nat} (hi : i < n) : Bdr px py n i ↔ i ∈ R :: s1 ∨ i ∈ L :: s2 := by
  constructor
  · rintro ⟨a, b, ha, hb, hne, hs, h0⟩
    rcases h.tri a ((hn a).2 ha) b ((hn b).2 hb) with k | k | k
    · exact absurd k hne
    · left
      rcases ed_between half_lex h.tri s1 R h.w1.memS L h.w1.lastS i ((hn i).2 hi) (h.least i ((hn i).2 hi)) (h.most i ((hn i).2 hi)) with g | ⟨u, v, e, g1, g2⟩
      · exact g
      · exfalso
        have gs := h.w1.gdS.side _ _ e
        have mu := (hn u).1 (h.w1.memS u e.mem.1)
        have mv := (hn v).1 (h.w1.memS v e.mem.2)
        have t0 := on_lex k (hs u mu) (hs v mv) h0 (gs.2 i ((hn i).2 hi)) g1 g2
        have rm := (h.rim u v).2 (.inl e)
        cases hw : M u v with
        | none => exact rm.1 hw
        | some w =>
          have si := seg_in t0 g1 g2 (hm.pos _ _ _ hw)
          have pw := hm.pos _ _ _ hw
          rcases hm.empty hj hc hw hi (by omega) si.1 si.2 with q | q | q
          · subst q; exact lt_irrefl half_lex g1
          · subst q; exact lt_irrefl half_lex g2
          · subst q; omega
    · right
      have k' : Lt Back px py a b := lt_back.2 k
      have lst : i = L ∨ Lt Back px py i L := by
        rcases h.least i ((hn i).2 hi) with g | g
        · exact .inl g
        · exact .inr (lt_back.2 g)
      have mst : i = R ∨ Lt Back px py R i := by
        rcases h.most i ((hn i).2 hi) with g | g
        · exact .inl g
        · exact .inr (lt_back.2 g)
      rcases ed_between half_back' h.tri2 s2 L h.w2.memS R h.w2.lastS i (List.mem_reverse.2 ((hn i).2 hi)) mst lst with g | ⟨u, v, e, g1, g2⟩
      · exact g
      · exfalso
        have gs := h.w2.gdS.side _ _ e
        have mu := (hn u).1 (List.mem_reverse.1 (h.w2.memS u e.mem.1))
        have mv := (hn v).1 (List.mem_reverse.1 (h.w2.memS v e.mem.2))
        have t0 := on_back k' (hs u mu) (hs v mv) h0 (gs.2 i (List.mem_reverse.2 ((hn i).2 hi))) g1 g2
        have rm := (h.rim u v).2 (.inr e)
        cases hw : M u v with
        | none => exact rm.1 hw
        | some w =>
          have si := seg_in_back t0 g1 g2 (hm.pos _ _ _ hw)
          have pw := hm.pos _ _ _ hw
          rcases hm.empty hj hc hw hi (by omega) si.1 si.2 with q | q | q
          · subst q; exact lt_irrefl half_back' g1
          · subst q; exact lt_irrefl half_back' g2
          · subst q; omega
  · rintro (g | g)
    · have n1 := h.w1.s0 half_lex
      obtain ⟨v, e⟩ := Ed_nb (R :: s1) i g (by cases s1 with | nil => exact absurd rfl n1 | cons _ _ => simp)
      rcases e with e | e
      · have gs := h.w1.gdS.side _ _ e
        exact ⟨i, v, hi, (hn v).1 (h.w1.memS v e.mem.2), (fun q => by subst q; exact lt_irrefl half_lex gs.1), fun p hp => gs.2 p ((hn p).2 hp), T_one _ _⟩
      · have gs := h.w1.gdS.side _ _ e
        exact ⟨v, i, (hn v).1 (h.w1.memS v e.mem.1), hi, (fun q => by subst q; exact lt_irrefl half_lex gs.1), fun p hp => gs.2 p ((hn p).2 hp), T_two _ _⟩
    · have n2 := h.w2.s0 half_back'
      obtain ⟨v, e⟩ := Ed_nb (L :: s2) i g (by cases s2 with | nil => exact absurd rfl n2 | cons _ _ => simp)
      rcases e with e | e
      · have gs := h.w2.gdS.side _ _ e
        exact ⟨i, v, hi, (hn v).1 (List.mem_reverse.1 (h.w2.memS v e.mem.2)), (fun q => by subst q; exact lt_irrefl half_back' gs.1), fun p hp => gs.2 p (List.mem_reverse.2 ((hn p).2 hp)), T_one _ _⟩
      · have gs := h.w2.gdS.side _ _ e
        exact ⟨v, i, (hn v).1 (List.mem_reverse.1 (h.w2.memS v e.mem.1)), hi, (fun q => by subst q; exact lt_irrefl half_back' gs.1), fun p hp => gs.2 p (List.mem_reverse.2 ((hn p).2 hp)), T_two _ _⟩

theorem sm_list : ∀ (l : List Nat), l.Nodup → (∀ k ∈ l, k < n) → sm n (fun i => if i ∈ l then 1 else 0) = (l.length : Int)
  | [], _, _ => by simp [sm_zero]
  | a :: l, h, hl => by
    have h' := List.nodup_cons.1 h
    rw [sm_part (hl a (by simp)), if_pos (by simp)]
    have e : sm n (fun i => if i = a then 0 else if i ∈ a :: l then (1 : Int) else 0) = sm n (fun i => if i ∈ l then 1 else 0) := sm_congr fun i _ => by
      by_cases k : i = a
      · subst k; rw [if_pos rfl, if_neg h'.1]
      · rw [if_neg k]
        have : (i ∈ a :: l) = (i ∈ l) := by simp [k]
        simp only [this]
    rw [e, sm_list l h'.2 (fun k hk => hl k (List.mem_cons_of_mem _ hk)), List.length_cons]
    omega

theorem gd_nodup (H : Half Pos) {r : List Nat} : ∀ (s : List Nat) (l : Nat), Gd Pos px py r (l :: s) → (l :: s).Nodup
  | [], l, _ => by simp
  | b :: s, l, h => by
    rw [List.nodup_cons]
    refine ⟨fun k => lt_irrefl H (h.below H l k), gd_nodup H s b h.2.2⟩

theorem ed_out : ∀ (s : List Nat) (l i : Nat), i ∈ s → ∃ v, Ed (l :: s) i v
  | [], _, _, h => by cases h
  | b :: s, l, i, h => by
    rcases List.mem_cons.1 h with k | k
    · exact ⟨l, .inl ⟨k, rfl⟩⟩
    · obtain ⟨v, e⟩ := ed_out s b i k
      exact ⟨v, .inr e⟩

/-- The walks there and back have nothing in common but their ends. -/
theorem Ring.apart (h : Ring px py n os M R L s1 q1 s2 q2) (hw : Wide px py os) {i : Nat} (h1 : i ∈ s1) (h2 : i ∈ s2) : False := by
  obtain ⟨v, e⟩ := ed_out s1 R i h1
  obtain ⟨v', e'⟩ := ed_out s2 L i h2
  have g := h.w1.gdS.side _ _ e
  have g' := h.w2.gdS.side _ _ e'
  have mv := h.w1.memS v e.mem.2
  have mv' := h.w2.memS v' e'.mem.2
  have k := g.1
  have k' := lt_back.1 g'.1
  have a1 := g.2 v' (List.mem_reverse.1 mv')
  have a2 := g'.2 v (List.mem_reverse.2 mv)
  have a3 : T px py i v' v = - T px py i v v' := by unfold T tw; grind
  have a4 : T px py i v v' = 0 := by omega
  refine line_flat (k.ne0 half_lex) (fun p hp => ?_) hw
  have b1 := g.2 p hp
  have b2 := g'.2 p (List.mem_reverse.2 hp)
  have i1 : T px py i v' p * (px v - px i) = T px py i v p * (px v' - px i) := by unfold T tw at *; grind
  have i2 : T px py i v' p * (py v - py i) = T px py i v p * (py v' - py i) := by unfold T tw at *; grind
  have i3 : (px v - px i) * (py v' - py i) = (py v - py i) * (px v' - px i) := by unfold T tw at a4; grind
  rcases k with k | ⟨k, kk⟩
  · rcases k' with k' | ⟨k', kk'⟩
    · have m1 := Int.mul_nonneg b2 (Int.le_of_lt k)
      rcases Int.lt_or_le 0 (T px py i v p) with q | q
      · have := Int.mul_neg_of_pos_of_neg q (show px v' - px i < 0 by omega); omega
      · omega
    · exfalso
      rw [show px v' - px i = 0 by omega, Int.mul_zero] at i3
      rcases Int.mul_eq_zero.1 i3 with q | q <;> omega
  · rw [k, Int.zero_mul] at i3
    have x0 : px v' - px i = 0 := by
      rcases Int.mul_eq_zero.1 i3.symm with q | q
      · omega
      · exact q
    have y0 : py v' - py i < 0 := by
      rcases k' with k' | ⟨k', kk'⟩ <;> omega
    have m1 := Int.mul_nonneg b2 (Int.le_of_lt kk)
    rcases Int.lt_or_le 0 (T px py i v p) with q | q
    · have := Int.mul_neg_of_pos_of_neg q y0; omega
    · omega

/-- The same, reckoned. -/
def bdrB (px py : Nat → Int) (n i : Nat) : Bool := (List.range n).any fun a => (List.range n).any fun b => (a != b) && ((List.range n).all (fun p => decide (0 ≤ T px py a b p)) && decide (T px py a b i = 0))

theorem bdrB_iff {i : Nat} : bdrB px py n i = true ↔ Bdr px py n i := by
  unfold bdrB Bdr
  simp only [List.any_eq_true, List.all_eq_true, List.mem_range, Bool.and_eq_true, bne_iff_ne, decide_eq_true_eq]
  constructor
  · rintro ⟨a, ha, b, hb, h1, h2, h3⟩
    exact ⟨a, b, ha, hb, h1, h2, h3⟩
  · rintro ⟨a, b, ha, hb, h1, h2, h3⟩
    exact ⟨a, ha, b, hb, h1, h2, h3⟩

/-- How many points lie on the hull's border. -/
def bdc (px py : Nat → Int) (n : Nat) : Int := sm n fun i => if bdrB px py n i = true then 1 else 0

theorem bdc_eq : bdc px py n = sm n fun i => @ite Int (Bdr px py n i) (Classical.propDecidable _) 1 0 := by
  unfold bdc
  refine sm_congr fun i _ => ?_
  by_cases h : Bdr px py n i
  · rw [if_pos h, if_pos (bdrB_iff.2 h)]
  · rw [if_neg h, if_neg (fun k => h (bdrB_iff.1 k))]

theorem Ring.bdc (h : Ring px py n os M R L s1 q1 s2 q2) (hm : Mesh px py n M) (hj : Inj px py n) (hc : Cor n M) (hn : ∀ p, p ∈ os ↔ p < n) (hw : Wide px py os) : bdc px py n = ((R :: s1).length : Int) + ((L :: s2).length : Int) - 2 := by
  have n2 := h.w2.s0 half_back'
  obtain ⟨t, ht⟩ : ∃ t, s2 = t ++ [R] := by
    refine ⟨s2.dropLast, ?_⟩
    have l2 := h.w2.lastS
    cases s2 with
    | nil => exact absurd rfl n2
    | cons b s =>
      rw [List.getLast?_cons_cons] at l2
      have e := List.dropLast_concat_getLast (l := b :: s) (by simp)
      rw [List.getLast?_eq_some_getLast (by simp)] at l2
      rw [Option.some.inj l2] at e
      exact e.symm
  have nd1 := gd_nodup half_lex s1 R h.w1.gdS
  have nd2 := gd_nodup half_back' s2 L h.w2.gdS
  have L1 : L ∈ R :: s1 := List.mem_of_getLast? h.w1.lastS
  rw [ht] at nd2
  have nd3 := (List.nodup_cons.1 nd2).2
  have nd4 := List.nodup_append.1 nd3
  have nd : ((R :: s1) ++ t).Nodup := by
    rw [List.nodup_append]
    refine ⟨nd1, nd4.1, fun a ha b hb e => ?_⟩
    subst e
    rcases List.mem_cons.1 ha with k | k
    · subst k
      exact nd4.2.2 a hb a (by simp) rfl
    · exact h.apart hw k (by rw [ht]; exact List.mem_append_left _ hb)
  have key := sm_list (n := n) ((R :: s1) ++ t) nd (fun k hk => by
    rcases List.mem_append.1 hk with q | q
    · exact (hn k).1 (h.w1.memS k q)
    · exact (hn k).1 (List.mem_reverse.1 (h.w2.memS k (by rw [ht]; exact List.mem_cons_of_mem _ (List.mem_append_left _ q)))))
  rw [bdc_eq]
  have e : sm n (fun i => @ite Int (Bdr px py n i) (Classical.propDecidable _) 1 0) = sm n (fun i => if i ∈ (R :: s1) ++ t then 1 else 0) := sm_congr fun i hi => by
    have b := h.bdr hm hj hc hn hi
    have q : Bdr px py n i ↔ i ∈ (R :: s1) ++ t := by
      rw [b, List.mem_append, ht]
      constructor
      · rintro (k | k)
        · exact .inl k
        · rcases List.mem_cons.1 k with k | k
          · subst k; exact .inl L1
          · rcases List.mem_append.1 k with k | k
            · exact .inr k
            · simp at k; subst k; exact .inl (by simp)
      · rintro (k | k)
        · exact .inl k
        · exact .inr (List.mem_cons_of_mem _ (List.mem_append_left _ k))
    by_cases k : i ∈ (R :: s1) ++ t
    · rw [if_pos k, if_pos (q.2 k)]
    · rw [if_neg k, if_neg (fun g => k (q.1 g))]
  rw [e, key, ht]
  simp only [List.length_append, List.length_cons, List.length_nil]
  omega

theorem ord_len (h : os.Pairwise (Lt Lex px py)) (hn : ∀ p, p ∈ os ↔ p < n) : os.length = n := by
  have nd : os.Nodup := h.imp fun {a b} k e => by subst e; exact lt_irrefl half_lex k
  have key := sm_list (n := n) os nd (fun k hk => (hn k).1 hk)
  have e : sm n (fun i => if i ∈ os then (1 : Int) else 0) = sm n (fun _ => 1) := sm_congr fun i hi => by rw [if_pos ((hn i).2 hi)]
  have one : ∀ k, sm k (fun _ => (1 : Int)) = k := by
    intro k
    induction k with
    | zero => rfl
    | succ k ih => rw [sm, ih]; omega
  rw [e, one] at key
  omega

theorem cnt_flip {a b c d : Nat} (hm : Mesh px py n M) (q : Quad px py M a b c d) : Sd n (flipM M a b c d) (fun _ _ _ => 1) = Sd n M (fun _ _ _ => 1) := by
  have := flip_sum hm q (fun _ _ _ => 1)
  omega

theorem reach_cnt {M0 : Nat → Nat → Option Nat} (h : Geo.Reach px py n M0 M) : Sd n M (fun _ _ _ => 1) = Sd n M0 (fun _ _ _ => 1) := by
  exact h (fun M => Sd n M (fun _ _ _ => 1) = Sd n M0 (fun _ _ _ => 1)) rfl fun M a b c d ih hm q => by rw [cnt_flip hm q, ih]

end Go.Proofs.YtdbebbbceeopaaaGreat
