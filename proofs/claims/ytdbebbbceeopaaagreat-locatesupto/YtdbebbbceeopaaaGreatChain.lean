namespace Go.Proofs.YtdbebbbceeopaaaGreat

/-- How three points turn. -/
def tw (ax ay bx bya cx cy : Int) : Int := (bx - ax) * (cy - ay) - (bya - ay) * (cx - ax)

/-- How the points numbered a, b, c turn. -/
def T (px py : Nat → Int) (a b c : Nat) : Int := tw (px a) (py a) (px b) (py b) (px c) (py c)

/-- A walk (its end first) without what does not turn left towards x. -/
def popS (t : Nat → Nat → Nat → Int) (x : Nat) : List Nat → List Nat
  | l :: b :: r => if 0 < t b l x then l :: b :: r else popS t x (b :: r)
  | [l] => [l]
  | [] => []

/-- The walk along places in an order that keeps the left turns, its end first. -/
def stk (t : Nat → Nat → Nat → Int) (os : List Nat) : List Nat := os.foldl (fun s x => x :: popS t x s) []

theorem stk_snoc (t : Nat → Nat → Nat → Int) (os : List Nat) (x : Nat) : stk t (os ++ [x]) = x :: popS t x (stk t os) := by
  unfold stk; rw [List.foldl_append]; rfl

theorem stk_take (t : Nat → Nat → Nat → Int) (os : List Nat) (k : Nat) (h : k < os.length) : stk t (os.take (k + 1)) = os[k] :: popS t os[k] (stk t (os.take k)) := by
  rw [List.take_succ_eq_append_getElem h, stk_snoc]

theorem popS_len (t : Nat → Nat → Nat → Int) (x : Nat) (s : List Nat) : (popS t x s).length ≤ s.length := by
  induction s with
  | nil => exact Nat.le_refl _
  | cons l r ih =>
    cases r with
    | nil => exact Nat.le_refl _
    | cons b r =>
      unfold popS
      split
      · exact Nat.le_refl _
      · exact Nat.le_trans ih (Nat.le_succ _)

theorem stk_len (t : Nat → Nat → Nat → Int) (os : List Nat) (k : Nat) (hk : k ≤ os.length) : (stk t (os.take k)).length ≤ k := by
  induction k with
  | zero => simp [stk]
  | succ k ih =>
    rw [stk_take t os k (by omega)]
    have := popS_len t os[k] (stk t (os.take k))
    have := ih (by omega)
    simp only [List.length_cons]
    omega

theorem popS_mem (t : Nat → Nat → Nat → Int) (x : Nat) (s : List Nat) : ∀ y ∈ popS t x s, y ∈ s := by
  induction s with
  | nil => exact fun y h => h
  | cons l r ih =>
    cases r with
    | nil => exact fun y h => h
    | cons b r =>
      unfold popS
      split
      · exact fun y h => h
      · exact fun y h => List.mem_cons_of_mem _ (ih y h)

theorem stk_mem (t : Nat → Nat → Nat → Int) (os : List Nat) (k : Nat) (hk : k ≤ os.length) : ∀ y ∈ stk t (os.take k), y ∈ os := by
  induction k with
  | zero => simp [stk]
  | succ k ih =>
    intro y hy
    rw [stk_take t os k (by omega)] at hy
    rcases List.mem_cons.1 hy with rfl | hy
    · exact List.getElem_mem _
    · exact ih (by omega) y (popS_mem t _ _ y hy)

end Go.Proofs.YtdbebbbceeopaaaGreat
