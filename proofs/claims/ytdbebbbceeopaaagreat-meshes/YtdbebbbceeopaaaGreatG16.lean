import Derived.Test.YtdbebbbceeopaaaGreatG15
import Derived.Test.YtdbebbbceeopaaaGreatG11
import Derived.Test.YtdbebbbceeopaaaGreatG4
set_option linter.unusedSimpArgs false
namespace Go.Proofs.YtdbebbbceeopaaaGreat
open Geo
variable {Pos : Int → Int → Prop} {px py : Nat → Int} {n : Nat}

theorem c2_line {b b' l : Nat} (h : T px py b l b' = 0) : c2 px py b l = c2 px py b b' + c2 px py b' l := by
  have : T px py b l b' = c2 px py b l + c2 px py l b' + c2 px py b' b := by unfold T tw c2; grind
  have e1 := c2_anti (px := px) (py := py) l b'
  have e2 := c2_anti (px := px) (py := py) b' b
  omega

theorem gd_mid (H : Half Pos) {r t : List Nat} {l b b' : Nat} (h : Gd Pos px py r (l :: b :: t)) (hbr : b ∈ r) (tri : ∀ p ∈ r, ∀ q ∈ r, p = q ∨ Lt Pos px py p q ∨ Lt Pos px py q p)
    (h0 : T px py b l b' = 0) (k : Lt Pos px py b b') : Gd Pos px py r (b' :: b :: t) := by
  refine ⟨k, fun p hp => ?_, h.2.2⟩
  have hp0 := h.2.1 p hp
  have z : cr (px l - px b) (py l - py b) (px b' - px b) (py b' - py b) = 0 := by rw [← T_cr]; exact h0
  have z' : cr (px b' - px b) (py b' - py b) (px l - px b) (py l - py b) = 0 := by rw [cr_anti]; omega
  rcases tri p hp b hbr with rfl | g | g
  · rw [T_one]; omega
  · rw [T_on] at hp0 ⊢
    exact H.tr _ _ _ _ _ _ g h.1 k hp0 (by omega)
  · rw [T_cr] at hp0 ⊢
    exact H.tr _ _ _ _ _ _ k h.1 g (by omega) hp0

/-- Two walks with all to their left from one point to another have the same beneath. -/
theorem shs_eq (H : Half Pos) {r : List Nat} (tri : ∀ p ∈ r, ∀ q ∈ r, p = q ∨ Lt Pos px py p q ∨ Lt Pos px py q p) : ∀ (N : Nat) (s s' : List Nat) (l : Nat), s.length + s'.length ≤ N → Gd Pos px py r (l :: s) → Gd Pos px py r (l :: s') →
    (∀ y ∈ l :: s, y ∈ r) → (∀ y ∈ l :: s', y ∈ r) → (l :: s).getLast? = (l :: s').getLast? → shs px py (l :: s) = shs px py (l :: s') := by
  intro N
  induction N with
  | zero =>
    intro s s' l hN _ _ _ _ _
    rw [List.eq_nil_of_length_eq_zero (by omega : s.length = 0), List.eq_nil_of_length_eq_zero (by omega : s'.length = 0)]
  | succ N ih =>
    intro s s' l hN h h' hin hin' hlast
    cases s with
    | nil =>
      cases s' with
      | nil => rfl
      | cons b' t' =>
        exfalso
        rw [List.getLast?_cons_cons] at hlast
        have : l ∈ b' :: t' := List.mem_of_getLast? hlast.symm
        exact lt_irrefl H (h'.below H l this)
    | cons b t =>
      cases s' with
      | nil =>
        exfalso
        rw [List.getLast?_cons_cons] at hlast
        have : l ∈ b :: t := List.mem_of_getLast? hlast
        exact lt_irrefl H (h.below H l this)
      | cons b' t' =>
        have hbr : b ∈ r := hin b (by simp)
        have hbr' : b' ∈ r := hin' b' (by simp)
        have e1 := h.2.1 b' hbr'
        have e2 := h'.2.1 b hbr
        have e3 : T px py b' l b = - T px py b l b' := by unfold T tw; grind
        have h0 : T px py b l b' = 0 := by omega
        have h0' : T px py b' l b = 0 := by omega
        rw [List.getLast?_cons_cons, List.getLast?_cons_cons] at hlast
        rcases tri b hbr b' hbr' with rfl | k | k
        · have := ih t t' b (by simp at hN; omega) h.2.2 h'.2.2 (fun y hy => hin y (List.mem_cons_of_mem _ hy)) (fun y hy => hin' y (List.mem_cons_of_mem _ hy)) hlast
          show c2 px py b l + shs px py (b :: t) = c2 px py b l + shs px py (b :: t')
          omega
        · have := ih (b :: t) t' b' (by simp at hN ⊢; omega) (gd_mid H h hbr tri h0 k) h'.2.2 (fun y hy => by
            rcases List.mem_cons.1 hy with rfl | hy
            · exact hbr'
            · exact hin y (List.mem_cons_of_mem _ hy)) (fun y hy => hin' y (List.mem_cons_of_mem _ hy)) (by rw [List.getLast?_cons_cons]; exact hlast)
          have c := c2_line h0
          show c2 px py b l + shs px py (b :: t) = c2 px py b' l + shs px py (b' :: t')
          have : shs px py (b' :: b :: t) = c2 px py b b' + shs px py (b :: t) := rfl
          omega
        · have := ih t (b' :: t') b (by simp at hN ⊢; omega) h.2.2 (gd_mid H h' hbr' tri h0' k) (fun y hy => hin y (List.mem_cons_of_mem _ hy)) (fun y hy => by
            rcases List.mem_cons.1 hy with rfl | hy
            · exact hbr
            · exact hin' y (List.mem_cons_of_mem _ hy)) (by rw [List.getLast?_cons_cons]; exact hlast)
          have c := c2_line h0'
          show c2 px py b l + shs px py (b :: t) = c2 px py b' l + shs px py (b' :: t')
          have : shs px py (b :: b' :: t') = c2 px py b' b + shs px py (b' :: t') := rfl
          omega

theorem good_gd {r : List Nat} : ∀ s : List Nat, Geo.Good Pos px py r s → Gd Pos px py r s
  | [], _ => trivial
  | [_], _ => trivial
  | _ :: b :: s, h => ⟨h.1, h.2.1, good_gd (b :: s) h.2.2.2⟩

/-- Side after side of a list. -/
def pl (px py : Nat → Int) (h : List Nat) : Nat → Int
  | 0 => 0
  | k + 1 => pl px py h k + c2 px py (h.getD k 0) (h.getD (k + 1) 0)

theorem fan_pl (h : List Nat) : ∀ k, fanI px py h k = pl px py h (k + 1) + c2 px py (h.getD (k + 1) 0) (h.getD 0 0)
  | 0 => by
    have := c2_anti (px := px) (py := py) (h.getD 0 0) (h.getD 1 0)
    show 0 = 0 + c2 px py (h.getD 0 0) (h.getD 1 0) + c2 px py (h.getD 1 0) (h.getD 0 0)
    omega
  | k + 1 => by
    rw [fanI, fan_pl h k, pl]
    have t : T px py (h.getD 0 0) (h.getD (k + 1) 0) (h.getD (k + 2) 0) = c2 px py (h.getD 0 0) (h.getD (k + 1) 0) + c2 px py (h.getD (k + 1) 0) (h.getD (k + 2) 0) + c2 px py (h.getD (k + 2) 0) (h.getD 0 0) := by unfold T tw c2; grind
    have := c2_anti (px := px) (py := py) (h.getD 0 0) (h.getD (k + 1) 0)
    rw [t]
    show _ = pl px py h k + c2 px py (h.getD k 0) (h.getD (k + 1) 0) + c2 px py (h.getD (k + 1) 0) (h.getD (k + 2) 0) + c2 px py (h.getD (k + 2) 0) (h.getD 0 0)
    have : pl px py h (k + 1) = pl px py h k + c2 px py (h.getD k 0) (h.getD (k + 1) 0) := rfl
    omega

theorem take_rev (h : List Nat) (k : Nat) (hk : k < h.length) : (h.take (k + 1)).reverse = h.getD k 0 :: (h.take k).reverse := by
  rw [List.take_succ_eq_append_getElem hk, List.reverse_append, List.getD_eq_getElem?_getD, List.getElem?_eq_getElem hk]
  rfl

theorem shs_pl (h : List Nat) : ∀ k, k < h.length → shs px py (h.take (k + 1)).reverse = pl px py h k
  | 0, hk => by rw [take_rev h 0 hk]; rfl
  | k + 1, hk => by
    rw [take_rev h (k + 1) hk, take_rev h k (by omega)]
    show c2 px py (h.getD k 0) (h.getD (k + 1) 0) + shs px py (h.getD k 0 :: (h.take k).reverse) = _
    rw [← take_rev h k (by omega), shs_pl h k (by omega), pl]
    omega

theorem fan_shs (h : List Nat) (h2 : 2 ≤ h.length) : fanI px py h (h.length - 2) = shs px py (h.getD 0 0 :: h.reverse) := by
  obtain ⟨k, hk⟩ : ∃ k, h.length = k + 2 := ⟨h.length - 2, by omega⟩
  rw [hk, show k + 2 - 2 = k by omega, fan_pl]
  have e1 := shs_pl (px := px) (py := py) h (k + 1) (by omega)
  have e2 : h.take (k + 1 + 1) = h := List.take_of_length_le (by omega)
  rw [e2] at e1
  have e3 := take_rev h (k + 1) (by omega)
  rw [e2] at e3
  rw [e3] at e1 ⊢
  show _ = c2 px py (h.getD (k + 1) 0) (h.getD 0 0) + shs px py (h.getD (k + 1) 0 :: (h.take (k + 1)).reverse)
  omega

theorem shs_app : ∀ (s : List Nat) (R : Nat) (q : List Nat), s.getLast? = some R → shs px py (s ++ q) = shs px py s + shs px py (R :: q)
  | [], R, q, h => by cases h
  | [a], R, q, h => by
    simp at h
    subst h
    show shs px py (a :: q) = 0 + shs px py (a :: q)
    omega
  | a :: b :: s, R, q, h => by
    rw [List.getLast?_cons_cons] at h
    have ih := shs_app (b :: s) R q h
    show c2 px py b a + shs px py (b :: (s ++ q)) = c2 px py b a + shs px py (b :: s) + _
    rw [List.cons_append] at ih
    omega

/-- The hull's area, by its two walks. -/
theorem fan_two {s1 s2 : List Nat} {R L : Nat} (q1 q2 : List Nat) (e1 : s1 = R :: q1) (e2 : s2 = L :: q2) (hR : s2.getLast? = some R) (hL : s1.getLast? = some L) (n1 : q1 ≠ []) (n2 : q2 ≠ []) :
    fanI px py (s1.reverse.dropLast ++ s2.reverse.dropLast) ((s1.reverse.dropLast ++ s2.reverse.dropLast).length - 2) = shs px py s1 + shs px py s2 := by
  have l1 : 1 ≤ q1.length := by cases q1 <;> simp at *
  have l2 : 1 ≤ q2.length := by cases q2 <;> simp at *
  rw [fan_shs _ (by rw [e1, e2]; simp; omega)]
  have d1 : s1.reverse.dropLast.reverse = q1 := by rw [e1]; simp
  have d2 : s2.reverse.dropLast.reverse = q2 := by rw [e2]; simp
  have hd : (s1.reverse.dropLast ++ s2.reverse.dropLast).getD 0 0 = L := by
    have g : s1.reverse.dropLast ≠ [] := by
      intro h
      have : s1.reverse.dropLast.reverse = [] := by rw [h]; rfl
      rw [d1] at this
      exact n1 this
    have h1 : (s1.reverse.dropLast ++ s2.reverse.dropLast)[0]? = s1.reverse[0]? := by
      have hl : 0 < s1.reverse.dropLast.length := List.length_pos_iff.2 g
      rw [List.getElem?_append_left hl, List.dropLast_eq_take, List.getElem?_take]
      simp at hl
      rw [if_pos (by simp; omega)]
    rw [List.getD_eq_getElem?_getD, h1, ← List.head?_eq_getElem?, List.head?_reverse, hL]
    rfl
  rw [hd, List.reverse_append, d1, d2]
  have e : L :: (q2 ++ q1) = s2 ++ q1 := by rw [e2]; rfl
  rw [e, shs_app s2 R q1 hR, ← e1]
  omega

end Go.Proofs.YtdbebbbceeopaaaGreat

set_option linter.unusedSimpArgs false
namespace Go.Proofs.YtdbebbbceeopaaaGreat
open Geo
variable {Pos : Int → Int → Prop} {px py : Nat → Int} {n : Nat}

/-- No triangles. -/
def no : Nat → Nat → Option Nat := fun _ _ => none

theorem inv_first (x : Nat) : Inv Pos px py n x [] [] no := by
  refine ⟨fun y hy => hy, fun m hm p hp => ?_, trivial, ?_, ?_, ?_, ?_, ?_, ?_, ?_, ?_, ?_, ?_, ?_, ?_⟩
  · simp at hm hp; exact .inl (by omega)
  · intro u v w h; cases h
  · intro u v w h; cases h
  · intro u v w h; cases h
  · intro u v w h; cases h
  · intro u v w h; cases h
  · intro u v h; cases h
  · intro u v w h; cases h
  · intro u v h; cases h
  · intro u v h; cases h
  · intro u v w h; cases h
  · have : Sd n no (fun u v _ => c2 px py u v) = 0 := by
      unfold Sd
      have : sm2 n (fun u v => el (no u v) fun _ => c2 px py u v) = sm n (fun _ => 0) := sm_congr fun _ _ => sm_zero n
      rw [this, sm_zero]
    rw [this]; rfl
  · have : Sd n no (fun _ _ _ => 1) = 0 := by
      unfold Sd
      have : sm2 n (fun u v => el (no u v) fun _ => 1) = sm n (fun _ => 0) := sm_congr fun _ _ => sm_zero n
      rw [this, sm_zero]
    rw [this]
    simp

/-- A sweep over all points. -/
theorem sweep_all (H : Half Pos) {x : Nat} {os : List Nat} (hs : (x :: os).Pairwise (Lt Pos px py)) (hn : ∀ p ∈ x :: os, p < n) :
    ∃ l r s, (sweep px py no [] (x :: os)).2 = l :: s ∧ l :: r = (x :: os).reverse ∧ Inv Pos px py n l r s (sweep px py no [] (x :: os)).1 := by
  have e : (x :: os).reverse = os.reverse ++ [x] := List.reverse_cons
  have h := sweep_inv H os x [] [] no (inv_first x) (by rw [← e, List.pairwise_reverse]; exact hs) (fun p hp => hn p (by rw [← e] at hp; exact List.mem_reverse.1 hp))
  rw [e]
  exact h

theorem ov_no (B : Nat → Nat → Option Nat) : ov no B = B := by funext u v; rfl

/-- The weak walk's beneath is the strict one's. -/
theorem weak_strict (H : Half Pos) {os : List Nat} (h2 : 2 ≤ os.length) (hs : os.Pairwise (Lt Pos px py)) {l : Nat} {r s : List Nat} {A : Nat → Nat → Option Nat} (hI : Inv Pos px py n l r s A) (hr : l :: r = os.reverse) :
    ∃ q, stk (T px py) os = l :: q ∧ q ≠ [] ∧ (l :: q).getLast? = some (os.getD 0 0) ∧ l = os.getD (os.length - 1) 0 ∧ shs px py (l :: s) = shs px py (stk (T px py) os) := by
  obtain ⟨q, g1, g2, g3⟩ := stk_good H os hs os.length (by omega) (Nat.le_refl _)
  rw [List.take_length] at g1 g3
  have hlast : os[os.length - 1]! = os.getD (os.length - 1) 0 := by rw [List.getD_eq_getElem?_getD, List.getElem!_eq_getElem?_getD]; rfl
  have hfirst : os[0]! = os.getD 0 0 := by rw [List.getD_eq_getElem?_getD, List.getElem!_eq_getElem?_getD]; rfl
  have hl : l = os.getD (os.length - 1) 0 := by
    have : (l :: r)[0]? = os.reverse[0]? := by rw [hr]
    rw [List.getElem?_reverse (by omega)] at this
    rw [List.getD_eq_getElem?_getD, show os.length - 1 = os.length - 1 - 0 by omega, ← this]
    rfl
  rw [hlast, ← hl] at g1 g2 g3
  rw [hfirst] at g2
  have hmem : ∀ p, p ∈ l :: r ↔ p ∈ os := fun p => by rw [hr]; exact List.mem_reverse
  have ord : ∀ i j, (hi : i < os.length) → (hj : j < os.length) → i < j → Lt Pos px py os[i] os[j] := fun i j hi hj hij => List.pairwise_iff_getElem.1 hs i j hi hj hij
  have tri : ∀ p ∈ l :: r, ∀ p' ∈ l :: r, p = p' ∨ Lt Pos px py p p' ∨ Lt Pos px py p' p := by
    intro p hp p' hp'
    obtain ⟨i, hi, rfl⟩ := List.getElem_of_mem ((hmem p).1 hp)
    obtain ⟨j, hj, rfl⟩ := List.getElem_of_mem ((hmem p').1 hp')
    rcases Nat.lt_trichotomy i j with k | k | k
    · exact .inr (.inl (ord i j hi hj k))
    · subst k; exact .inl rfl
    · exact .inr (.inr (ord j i hj hi k))
  have sub : ∀ y ∈ l :: q, y ∈ l :: r := fun y hy => by
    rw [hmem]
    have : y ∈ stk (T px py) os := by rw [g1]; exact hy
    exact stk_mem (T px py) os os.length (Nat.le_refl _) y (by rw [List.take_length]; exact this)
  have gd : Gd Pos px py (l :: r) (l :: q) := by
    have := good_gd (l :: q) g3
    have up : ∀ t : List Nat, Gd Pos px py os t → Gd Pos px py (l :: r) t := by
      intro t
      induction t with
      | nil => intro _; trivial
      | cons a t ih =>
        cases t with
        | nil => intro _; trivial
        | cons b t => intro h; exact ⟨h.1, fun p hp => h.2.1 p ((hmem p).1 hp), ih h.2.2⟩
    exact up _ this
  have hq : q ≠ [] := by
    have := stk_two (T px py) os h2
    rw [g1] at this
    intro h
    subst h
    simp at this
  have f0 : os.getD 0 0 ∈ os := by
    rw [List.getD_eq_getElem?_getD, List.getElem?_eq_getElem (by omega)]
    exact List.getElem_mem _
  have lst : (l :: s).getLast? = some (os.getD 0 0) := by
    cases hm : (l :: s).getLast? with
    | none => simp at hm
    | some m =>
      have mr : m ∈ os := (hmem m).1 (hI.sub m (List.mem_of_getLast? hm))
      rcases hI.bot m hm (os.getD 0 0) ((hmem _).2 f0) with k | k
      · rw [k]
      · exfalso
        obtain ⟨i, hi, rfl⟩ := List.getElem_of_mem mr
        rw [List.getD_eq_getElem?_getD, List.getElem?_eq_getElem (by omega)] at k
        rcases Nat.eq_zero_or_pos i with z | z
        · subst z; exact lt_irrefl H k
        · exact lt_irrefl H (k.trans H (ord 0 i (by omega) hi z))
  refine ⟨q, g1, hq, g2, hl, ?_⟩
  rw [g1]
  exact shs_eq H tri _ s q l (Nat.le_refl _) hI.gd gd hI.sub sub (by rw [lst, g2])

/-- The mesh that two sweeps make. -/
def mesh0 (px py : Nat → Int) (os : List Nat) : Nat → Nat → Option Nat := (sweep px py (sweep px py no [] os).1 [] os.reverse).1

theorem mesh0_ok {os : List Nat} (h3 : 3 ≤ os.length) (hs : os.Pairwise (Lt Lex px py)) (hn : ∀ p, p ∈ os ↔ p < n) (hw : Wide px py os) :
    Mesh px py n (mesh0 px py os) ∧ Cor n (mesh0 px py os) ∧ Sd n (mesh0 px py os) (fun u v _ => c2 px py u v) = fanI px py (hullOf (T px py) os) ((hullOf (T px py) os).length - 2) := by
  obtain ⟨x, xs, hx⟩ : ∃ x xs, os = x :: xs := by cases os with | nil => simp at h3 | cons x xs => exact ⟨x, xs, rfl⟩
  obtain ⟨y, ys, hy⟩ : ∃ y ys, os.reverse = y :: ys := by
    cases h : os.reverse with
    | nil => have : os.reverse.length = 0 := by rw [h]; rfl
             simp at this; rw [this] at h3; simp at h3
    | cons y ys => exact ⟨y, ys, rfl⟩
  have hsr : os.reverse.Pairwise (Lt Back px py) := by
    rw [List.pairwise_reverse]
    exact hs.imp fun h => lt_back.2 h
  obtain ⟨l1, r1, s1, a1, a2, a3⟩ := sweep_all (n := n) half_lex (hx ▸ hs) (fun p hp => (hn p).1 (by rw [hx]; exact hp))
  obtain ⟨l2, r2, s2, b1, b2, b3⟩ := sweep_all (n := n) half_back' (hy ▸ hsr) (fun p hp => (hn p).1 (by rw [← hy] at hp; exact List.mem_reverse.1 hp))
  rw [← hx] at a1 a2 a3
  rw [← hy] at b1 b2 b3
  rw [List.reverse_reverse] at b2
  have ord : ∀ i j, (hi : i < os.length) → (hj : j < os.length) → i < j → Lt Lex px py os[i] os[j] := fun i j hi hj hij => List.pairwise_iff_getElem.1 hs i j hi hj hij
  have mem1 : ∀ p, p ∈ l1 :: r1 ↔ p ∈ os := fun p => by rw [a2]; exact List.mem_reverse
  have two : Two Lex Back px py n l1 r1 s1 (sweep px py no [] os).1 l2 r2 s2 (sweep px py no [] os.reverse).1 := by
    refine ⟨a3, b3, fun a b => lt_back, fun u v => ?_, fun p => ?_, ?_, ?_⟩
    · rw [a2, b2]; exact Ed_rev os u v
    · rw [mem1, b2]
    · intro p hp q hq
      obtain ⟨i, hi, rfl⟩ := List.getElem_of_mem ((mem1 p).1 hp)
      obtain ⟨j, hj, rfl⟩ := List.getElem_of_mem ((mem1 q).1 hq)
      rcases Nat.lt_trichotomy i j with k | k | k
      · exact .inr (.inl (ord i j hi hj k))
      · subst k; exact .inl rfl
      · exact .inr (.inr (ord j i hj hi k))
    · intro u v e
      exact (Ed_con half_lex (l1 :: r1) (by rw [a2, List.pairwise_reverse]; exact hs) u v e).2
  have eM : mesh0 px py os = ov (sweep px py no [] os.reverse).1 (sweep px py no [] os).1 := by
    unfold mesh0
    have := sweep_ov (px := px) (py := py) (sweep px py no [] os).1 os.reverse [] no
    rw [ov_no] at this
    rw [this]
  rw [eM]
  have hn1 : ∀ p, p ∈ l1 :: r1 ↔ p < n := fun p => by rw [mem1]; exact hn p
  refine ⟨two.mesh hn1, two.cor hn1 (by rw [a2, List.length_reverse]; omega) ?_, ?_⟩
  · obtain ⟨i, hi, j, hj, k, hk, ht⟩ := hw
    exact ⟨i, (mem1 i).2 hi, j, (mem1 j).2 hj, k, (mem1 k).2 hk, ht⟩
  · rw [two.sum (by rw [a2, b2])]
    obtain ⟨q1, c1, c2', c3, c4, c5⟩ := weak_strict half_lex (by omega) hs a3 a2
    obtain ⟨q2, d1, d2, d3, d4, d5⟩ := weak_strict half_back' (by rw [List.length_reverse]; omega) hsr b3 (by rw [b2, List.reverse_reverse])
    rw [c5, d5]
    have e1 : os.reverse.getD 0 0 = os.getD (os.length - 1) 0 := by rw [getD_rev _ _ (by omega)]; rfl
    have e2 : os.reverse.getD (os.reverse.length - 1) 0 = os.getD 0 0 := by rw [List.length_reverse, getD_rev _ _ (by omega), show os.length - 1 - (os.length - 1) = 0 by omega]
    unfold hullOf
    exact (fan_two q1 q2 c1 d1 (by rw [d1, d3, e1, ← c4]) (by rw [c1, c3, ← e2, ← d4]) c2' d2).symm

end Go.Proofs.YtdbebbbceeopaaaGreat

set_option linter.unusedSimpArgs false
namespace Go.Proofs.YtdbebbbceeopaaaGreat
open Geo
variable {Pos : Int → Int → Prop} {px py : Nat → Int} {n : Nat}

end Go.Proofs.YtdbebbbceeopaaaGreat
