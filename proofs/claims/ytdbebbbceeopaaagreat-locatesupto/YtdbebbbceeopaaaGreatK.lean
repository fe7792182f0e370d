import Derived.Test.YtdbebbbceeopaaaGreatJ
import Derived.Test.YtdbebbbceeopaaaGreatHul
namespace Go.Proofs.YtdbebbbceeopaaaGreat
open Go.RowKit
open Go.Sort (SortedIn)
open Geo

theorem walk_ends {Pos : Int → Int → Prop} {px py : Nat → Int} (H : Half Pos) (os : List Nat) (h2 : 2 ≤ os.length) (hos : os.Pairwise (Lt Pos px py)) :
    ∃ m, (stk (T px py) os).reverse.length = m + 1 ∧ 1 ≤ m ∧ Walk Pos px py os (stk (T px py) os).reverse ∧ (stk (T px py) os).reverse.getD 0 0 = os.getD 0 0 ∧ (stk (T px py) os).reverse.getD m 0 = os.getD (os.length - 1) 0 ∧
      ∀ i, i < (stk (T px py) os).reverse.length → (stk (T px py) os).reverse.getD i 0 ∈ os := by
  obtain ⟨s, e1, e2, e3⟩ := stk_good H os hos os.length (by omega) (Nat.le_refl _)
  rw [List.take_length] at e1 e3
  have hl := stk_two (T px py) os h2
  rw [e1] at hl ⊢
  obtain ⟨l, hl'⟩ : ∃ l, l = os[os.length - 1]! := ⟨_, rfl⟩
  rw [← hl'] at e1 e2 e3 hl ⊢
  have hlast : l = os.getD (os.length - 1) 0 := by
    rw [hl', List.getD_eq_getElem?_getD, List.getElem!_eq_getElem?_getD]; rfl
  have hfirst : os[0]! = os.getD 0 0 := by
    rw [List.getD_eq_getElem?_getD, List.getElem!_eq_getElem?_getD]; rfl
  refine ⟨s.length, by simp, by simp at hl; omega, walk_of e3, ?_, ?_, ?_⟩
  · rw [getD_rev _ _ (by simp), ← hfirst]
    rw [List.getLast?_eq_getElem?] at e2
    rw [List.getD_eq_getElem?_getD, Nat.sub_zero, e2]
    rfl
  · rw [getD_rev _ _ (by simp), ← hlast]
    simp
  · intro i hi
    have hm : (l :: s).reverse.getD i 0 ∈ (l :: s).reverse := by
      rw [List.getD_eq_getElem?_getD, List.getElem?_eq_getElem hi]
      exact List.getElem_mem _
    have : (l :: s).reverse.getD i 0 ∈ stk (T px py) os := by rw [e1]; exact List.mem_reverse.1 hm
    have := stk_mem (T px py) os os.length (Nat.le_refl _) _ (by rw [List.take_length]; exact this)
    exact this

theorem nums_mem {n : Nat} {d : Array (Fin n)} (hp : d.toList.Perm (List.finRange n)) (p : Nat) : p ∈ nums d ↔ p < n := by
  constructor
  · exact nums_lt d p
  · intro h
    unfold nums
    rw [List.mem_map]
    exact ⟨⟨p, h⟩, hp.mem_iff.2 (List.mem_finRange _), rfl⟩

theorem nums_sorted {px py : Nat → Int} {n : Nat} [NeZero n] {d : Array (Fin n)} (hd : d.size = n) (hp : d.toList.Perm (List.finRange n)) (hs : SortedIn (ltOf (cfI px py)) 0 n d)
    (hne : ∀ i j, i < n → j < n → i ≠ j → ¬ (px i = px j ∧ py i = py j)) : (nums d).Pairwise (Lt Lex px py) := by
  rw [List.pairwise_iff_getElem]
  intro i j hi hj hij
  have hi' : i < d.size := by rw [nums_len] at hi; exact hi
  have hj' : j < d.size := by rw [nums_len] at hj; exact hj
  have h := hs i j (Nat.zero_le _) hij (by omega)
  have ei : (nums d)[i] = (d[i]!).val := by simp [nums, hi']
  have ej : (nums d)[j] = (d[j]!).val := by simp [nums, hj']
  rw [ei, ej]
  unfold ltOf at h
  rw [decide_eq_false_iff_not, cfI_lt] at h
  have hnd : d.toList.Nodup := hp.nodup_iff.2 (List.nodup_finRange n)
  have hneq : d[i]! ≠ d[j]! := by
    have := List.pairwise_iff_getElem.1 hnd i j (by simpa using hi') (by simpa using hj') hij
    simpa [hi', hj'] using this
  have hv : (d[i]!).val ≠ (d[j]!).val := fun e => hneq (Fin.ext e)
  have := hne _ _ (d[i]!).isLt (d[j]!).isLt hv
  unfold Lt Lex
  omega

/-- THE PROGRAM's CORNERS ARE THE HULL's. -/
theorem hullOf_isHull {px py : Nat → Int} {n : Nat} [NeZero n] {d : Array (Fin n)} (h3 : 3 ≤ n) (hd : d.size = n) (hp : d.toList.Perm (List.finRange n)) (hs : SortedIn (ltOf (cfI px py)) 0 n d)
    (hne : ∀ i j, i < n → j < n → i ≠ j → ¬ (px i = px j ∧ py i = py j)) (hw : ∃ i, i < n ∧ T px py 0 1 i ≠ 0) : IsHull px py n (hullOf (T px py) (nums d)) := by
  have hsort := nums_sorted hd hp hs hne
  have hmem := nums_mem hp
  have hl : (nums d).length = n := by rw [nums_len, hd]
  obtain ⟨m1, a1, a2, a3, a4, a5, a6⟩ := walk_ends half_lex (nums d) (by omega) hsort
  have hrev : (nums d).reverse.Pairwise (Lt Back px py) := by
    rw [List.pairwise_reverse, List.pairwise_iff_getElem]
    intro i j hi hj hij
    exact lt_back.2 (List.pairwise_iff_getElem.1 hsort i j hi hj hij)
  obtain ⟨m2, b1, b2, b3, b4, b5, b6⟩ := walk_ends half_back' (nums d).reverse (by rw [List.length_reverse]; omega) hrev
  have c4 : (nums d).reverse.getD 0 0 = (nums d).getD (n - 1) 0 := by rw [getD_rev _ _ (by omega), hl]; rfl
  have c5 : (nums d).reverse.getD ((nums d).reverse.length - 1) 0 = (nums d).getD 0 0 := by rw [List.length_reverse, getD_rev _ _ (by omega), Nat.sub_self]
  have b3' : Walk Back px py (nums d) (stk (T px py) (nums d).reverse).reverse := ⟨b3.lt, fun j hj p hp => b3.side j hj p (List.mem_reverse.2 hp), b3.turn⟩
  have ord : ∀ i j, i < j → j < n → Lt Lex px py ((nums d).getD i 0) ((nums d).getD j 0) := by
    intro i j hij hj
    have := List.pairwise_iff_getElem.1 hsort i j (by omega) (by omega) hij
    rw [List.getD_eq_getElem?_getD, List.getD_eq_getElem?_getD, List.getElem?_eq_getElem (by omega), List.getElem?_eq_getElem (by omega)]
    exact this
  have idx : ∀ p ∈ nums d, ∃ i, i < n ∧ p = (nums d).getD i 0 := by
    intro p hp
    obtain ⟨i, hi, rfl⟩ := List.getElem_of_mem hp
    refine ⟨i, by omega, ?_⟩
    rw [List.getD_eq_getElem?_getD, List.getElem?_eq_getElem hi]; rfl
  refine isHull_of hmem ?_ a3 b3' m1 m2 a1 b1 a2 b2 a6 (fun i hi => List.mem_reverse.1 (b6 i hi)) ?_ ?_ ?_ ?_
  · obtain ⟨i, hi, ht⟩ := hw
    exact ⟨0, (hmem 0).2 (by omega), 1, (hmem 1).2 (by omega), i, (hmem i).2 hi, ht⟩
  · rw [b5, c5, a4]
  · rw [b4, c4, a5, hl]
  · intro p hp
    obtain ⟨i, hi, rfl⟩ := idx p hp
    rw [a4]
    by_cases h : i = 0
    · subst h; exact Or.inl rfl
    · exact Or.inr (ord 0 i (by omega) hi)
  · intro p hp
    obtain ⟨i, hi, rfl⟩ := idx p hp
    rw [a5, hl]
    by_cases h : i = n - 1
    · subst h; exact Or.inl rfl
    · exact Or.inr (ord i (n - 1) (by omega) (by omega))
end Go.Proofs.YtdbebbbceeopaaaGreat
