import Derived.Test.YtdbebbbceeopaaaGreatG11
import Derived.Test.YtdbebbbceeopaaaGreatG5
import Derived.Deep.AppendLies
import Derived.Deep.RegionLaw
set_option linter.unusedSimpArgs false
namespace Go.Proofs.YtdbebbbceeopaaaGreat
open Go.RowKit

def marks (n : Nat) (m : Int) : List Value := List.replicate n (.int .i64 m)

theorem grownBy_wider {w w' : World} (h : w.grownBy w' none) (row : Option Nat) : w.grownBy w' row :=
  ⟨h.os, h.tape, h.output, h.size, fun k hk _ => h.block k hk (by simp)⟩

/-- How long a list is. -/
def FullN (w : World) (v : Value) (m : Int) (n : Nat) : Prop := (∃ c, v = .slice none 0 c) ∨ ∃ g n' c, v = .slice (some ⟨g, 0, none⟩) n' c ∧ n' ≤ n ∧ g < w.heap.size ∧ ∀ j, j < n' → w.cell? ⟨g, j, none⟩ = some (.int .i64 m)

theorem owns_setCell {w : World} {base : Nat} {e : TypeId} {size : Nat} {v : Value} {n : Nat} {xs : List Value} (h : w.ownsRow base e size v n xs) {X o : Nat} {u : Value} (hX : v.ownBlock ≠ some X) : (w.setCell ⟨X, o, none⟩ u).ownsRow base e size v n xs := by
  refine ⟨h.1, ?_⟩
  rcases h.2 with h2 | ⟨g, cap, cur, hv, hg, hh, r⟩
  · exact Or.inl h2
  · refine Or.inr ⟨g, cap, cur, hv, hg, ?_, r⟩
    rw [Below.heap_setCell _ _ _ _ (by intro e; subst hv; exact hX (by rw [e]; rfl))]
    exact hh

theorem owns_belowS {w w' : World} {S base : Nat} {e : TypeId} {size : Nat} {v : Value} {n : Nat} {xs : List Value} (h : w.ownsRow base e size v n xs) (hb : Below S w w') (hv : ∀ g, v.ownBlock = some g → g < S) : w'.ownsRow base e size v n xs := by
  refine ⟨h.1, ?_⟩
  rcases h.2 with h2 | ⟨g, cap, cur, h1, h2, h3, h4⟩
  · exact .inl h2
  · exact .inr ⟨g, cap, cur, h1, h2, by rw [hb.block g (hv g (by rw [h1]; rfl))]; exact h3, h4⟩

theorem frozen_grown {w w' : World} {row : Option Nat} (hg : w.grownBy w' row) {b : Nat} (i : Nat) (hb : b < w.heap.size) (hr : some b ≠ row) : w'.frozen? ⟨b, i, none⟩ = w.frozen? ⟨b, i, none⟩ :=
  World.frozen?_of_block (w := w) (hg.block b hb hr)

/-- The list behind k rounds of the loop that writes the marks. -/
def mk (xs : List Value) (m : Int) (k : Nat) : List Value := marks k m ++ xs.drop k

/-- What a step of the law leaves as it was: all below S but the book's own cells. -/
structure Kp (w w' : World) (S bk : Nat) (vi : Value) : Prop where
  os : w'.os = w.os
  tape : w'.tape = w.tape
  output : w'.output = w.output
  size : w.heap.size ≤ w'.heap.size
  block : ∀ k, k < S → k ≠ bk → vi.ownBlock ≠ some k → w'.heap[k]? = w.heap[k]?

theorem Kp.cell {w w' : World} {S bk : Nat} {vi : Value} (h : Kp w w' S bk vi) (g j : Nat) (h1 : g < S) (h2 : g ≠ bk) (h3 : vi.ownBlock ≠ some g) : w'.cell? ⟨g, j, none⟩ = w.cell? ⟨g, j, none⟩ :=
  World.cell?_of_block (w := w) (a := ⟨g, j, none⟩) (h.block g h1 h2 h3)

/-- Where a new entry of the book lies: behind S; and the book's list, where it lay or behind S. -/
structure Ap (S : Nat) (vi vi' : Value) (e' : List Value) : Prop where
  ent : ∀ x ∈ e', ∀ g, x.ownBlock = some g → S ≤ g
  list : ∀ g, vi'.ownBlock = some g → vi.ownBlock = some g ∨ S ≤ g

theorem hx4 {W : World} {L : Value} {S K ga na ca gb nb cb gc nc cc : Nat} {m : Int} (h0 : FullN W L m K) (h1 : FullN W (.slice (some ⟨ga, 0, none⟩) na ca) m K) (h2 : FullN W (.slice (some ⟨gb, 0, none⟩) nb cb) m K) (h3 : FullN W (.slice (some ⟨gc, 0, none⟩) nc cc) m K)
    (hL : ∀ g, L.ownBlock = some g → S ≤ g) (ha : S ≤ ga) (hb : S ≤ gb) (hc : S ≤ gc) : ∀ x ∈ [L, .slice (some ⟨ga, 0, none⟩) na ca, .slice (some ⟨gb, 0, none⟩) nb cb, .slice (some ⟨gc, 0, none⟩) nc cc], FullN W x m K ∧ ∀ g, x.ownBlock = some g → S ≤ g := by
  intro x hx
  simp only [List.mem_cons, List.not_mem_nil, or_false] at hx
  rcases hx with rfl | rfl | rfl | rfl
  · exact ⟨h0, hL⟩
  · exact ⟨h1, fun g e => by cases e; exact ha⟩
  · exact ⟨h2, fun g e => by cases e; exact hb⟩
  · exact ⟨h3, fun g e => by cases e; exact hc⟩

end Go.Proofs.YtdbebbbceeopaaaGreat

set_option linter.unusedSimpArgs false
namespace Go.Proofs.YtdbebbbceeopaaaGreat
open Go.RowKit

theorem flat_get (es : List (List Value)) (h5 : ∀ (i : Nat) (e : List Value), es[i]? = some e → e.length = 5) : ∀ (i : Nat) (e : List Value), es[i]? = some e → ∀ j, j < 5 → es.flatten[i * 5 + j]? = e[j]? := by
  induction es with
  | nil => intro i e h; simp at h
  | cons x r ih =>
    intro i e hi j hj
    have hx : x.length = 5 := h5 0 x rfl
    have hr : ∀ (i : Nat) (e : List Value), r[i]? = some e → e.length = 5 := fun i e h => h5 (i + 1) e (by simpa using h)
    cases i with
    | zero =>
      simp at hi
      subst hi
      rw [List.flatten_cons, Nat.zero_mul, Nat.zero_add, List.getElem?_append_left (by omega)]
    | succ i =>
      have := ih hr i e (by simpa using hi) j hj
      rw [List.flatten_cons, List.getElem?_append_right (by omega), hx, show (i + 1) * 5 + j - 5 = i * 5 + j by omega]
      exact this

end Go.Proofs.YtdbebbbceeopaaaGreat
