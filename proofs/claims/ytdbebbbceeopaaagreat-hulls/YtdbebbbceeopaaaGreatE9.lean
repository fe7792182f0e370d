import Derived.Test.YtdbebbbceeopaaaGreatE8
import Derived.Test.YtdbebbbceeopaaaGreatE7
import Derived.Test.YtdbebbbceeopaaaGreatE2
import Derived.Deep.AppendLies
import Derived.Deep.RegionLaw
set_option linter.unusedSimpArgs false
namespace Go.Proofs.YtdbebbbceeopaaaGreat
open Go.RowKit

def marks (n : Nat) (m : Int) : List Value := List.replicate n (.int .i64 m)

theorem own_prefix {w : World} {B g N cap n : Nat} {m : Int} (h : w.ownsRow B 3 1 (.slice (some ⟨g, 0, none⟩) N cap) N (marks N m)) (hn : n ≤ N) : w.ownsRow B 3 1 (.slice (some ⟨g, 0, none⟩) n cap) n (marks n m) := by
  refine ⟨by simp [marks], ?_⟩
  rcases h.2 with ⟨h0, _⟩ | ⟨g', cap', cur, hv, hb, hh, hN, hc, hs, ht⟩
  · cases h0
  · cases hv
    refine .inr ⟨g, cap, cur, rfl, hb, hh, by omega, hc, hs, ?_⟩
    have : cur.toList.take (n * 1) = (cur.toList.take (N * 1)).take (n * 1) := by rw [List.take_take, Nat.min_eq_left (by omega)]
    rw [this, ht]
    simp [marks, List.take_replicate, Nat.min_eq_left hn]

theorem grownBy_wider {w w' : World} (h : w.grownBy w' none) (row : Option Nat) : w.grownBy w' row :=
  ⟨h.os, h.tape, h.output, h.size, fun k hk _ => h.block k hk (by simp)⟩

theorem marks_append (n k : Nat) (m : Int) : marks n m ++ marks k m = marks (n + k) m := by
  unfold marks; rw [List.replicate_append_replicate]

theorem marks_get {k j : Nat} {m : Int} {u : Value} (h : (marks k m)[j]? = some u) : j < k ∧ u = .int .i64 m := by
  unfold marks at h
  rw [List.getElem?_replicate] at h
  split at h
  · rename_i hj; cases h; exact ⟨hj, rfl⟩
  · cases h

/-- How long a list is. -/
def FullN (w : World) (v : Value) (m : Int) (n : Nat) : Prop := (∃ c, v = .slice none 0 c) ∨ ∃ g n' c, v = .slice (some ⟨g, 0, none⟩) n' c ∧ n' ≤ n ∧ g < w.heap.size ∧ ∀ j, j < n' → w.cell? ⟨g, j, none⟩ = some (.int .i64 m)

/-- A list that was full of the mark still is, behind an append of the mark to the list l. -/
theorem FullN.mark {w w' : World} {v l : Value} {m : Int} {n N : Nat} (h : FullN w v m n) (hn : n ≤ N) (hg : w.grownBy w' l.ownBlock) (hk : ∀ g j, l.ownBlock = some g → j < N → w.cell? ⟨g, j, none⟩ = some (.int .i64 m) → w'.cell? ⟨g, j, none⟩ = some (.int .i64 m)) : FullN w' v m n := by
  rcases h with h | ⟨g, n', c, h1, h2, h3, h4⟩
  · exact Or.inl h
  · refine Or.inr ⟨g, n', c, h1, h2, Nat.lt_of_lt_of_le h3 hg.size, fun j hj => ?_⟩
    by_cases e : l.ownBlock = some g
    · exact hk g j e (by omega) (h4 j hj)
    · exact hg.cell (a := ⟨g, j, none⟩) (h4 j hj) (fun e' => e e'.symm)

theorem FullN.alloc {w : World} {v : Value} {m : Int} {n : Nat} (h : FullN w v m n) (o : Obj) : FullN (w.alloc o) v m n := by
  rcases h with h | ⟨g, n', c, h1, h2, h3, h4⟩
  · exact Or.inl h
  · refine Or.inr ⟨g, n', c, h1, h2, by simp; omega, fun j hj => ?_⟩
    exact (((Below.refl w.heap.size w).alloc (Nat.le_refl _) o).cell (p := ⟨g, j, none⟩) h3).trans (h4 j hj)

theorem FullN.setCell {w : World} {v : Value} {m : Int} {n : Nat} (h : FullN w v m n) (X o : Nat) (u : Value) (hX : v.ownBlock ≠ some X) : FullN (w.setCell ⟨X, o, none⟩ u) v m n := by
  rcases h with h | ⟨g, n', c, rfl, h2, h3, h4⟩
  · exact Or.inl h
  · refine Or.inr ⟨g, n', c, rfl, h2, by simpa [World.setCell] using h3, fun j hj => ?_⟩
    rw [World.cell?_setCell_other _ _ _ _ (by intro e; cases e; exact hX rfl)]
    exact h4 j hj

theorem fullN_of {w : World} {B : Nat} {v : Value} {n : Nat} {m : Int} (h : w.ownsRow B 3 1 v n (marks n m)) : FullN w v m n := by
  rcases h.2 with ⟨rfl, _⟩ | ⟨g, cap, cur, rfl, _, hh, _⟩
  · exact Or.inl ⟨0, rfl⟩
  · refine Or.inr ⟨g, n, cap, rfl, Nat.le_refl _, (Array.getElem?_eq_some_iff.1 hh).1, fun j hj => ?_⟩
    rw [h.cellAt j (by omega)]
    simp [marks, hj]

theorem wpList_mark {ops : Array Oper} {rest : List Oper} {o : Oper} {a : Act} {Q : Exit → Act → World → Prop} (w : World) (hgd : o.guard = none) (s x : Operand)
    (ho : o.op = .call { callee := .builtin .append, args := #[s, x], argTypes := #[25, 25] })
    (B : Nat) (l : Value) (n : Nat) (m : Int) (hs : a.eval s = l) (hS : w.ownsRow B 3 1 l n (marks n m)) (ad : Addr) (k c : Nat) (hx : a.eval x = .slice (some ad) k c) (hnews : ∀ j, j < k → w.cell? (ad.add j) = some (.int .i64 m)) (hk : 0 < k) (hn : n + k ≤ 1000000)
    (hK : ∀ ga ca w', w'.ownsRow B 3 1 l n (marks n m) → FullN w' (.slice (some ⟨ga, 0, none⟩) (n + k) ca) m (n + k) → (l.ownBlock = some ga ∨ w.heap.size ≤ ga) → w.grownBy w' l.ownBlock → (∀ g j, l.ownBlock = some g → j < n + k → w.cell? ⟨g, j, none⟩ = some (.int .i64 m) → w'.cell? ⟨g, j, none⟩ = some (.int .i64 m)) → wpList Tryz.prog ops Q rest (a.put o.dst (.slice (some ⟨ga, 0, none⟩) (n + k) ca)) w') :
    wpList Tryz.prog ops Q (o :: rest) a w := by
  obtain ⟨i0, hi, hz0, hz1, hz2⟩ := info_parts Tryz.info3
  have hc : ∀ j u, (marks k m)[j]? = some u → w.cell? (ad.add j) = some u := by
    intro j u hj
    obtain ⟨h1, rfl⟩ := marks_get hj
    exact hnews j h1
  have h1c : ∀ u ∈ marks k m, u.oneCell' = true := by
    intro u hu
    have := List.eq_of_mem_replicate hu
    subst this; rfl
  have fin : ∀ (v' : Value) (w' : World), w'.ownsRow w.heap.size 3 1 v' (n + k) (marks (n + k) m) → w.grownBy w' none → w'.ownsRow B 3 1 l n (marks n m) → (∀ g j, l.ownBlock = some g → j < n + k → w.cell? ⟨g, j, none⟩ = some (.int .i64 m) → w'.cell? ⟨g, j, none⟩ = some (.int .i64 m)) → wpList Tryz.prog ops Q rest (a.put o.dst v') w' := by
    intro v' w' h hg hl hkk
    obtain ⟨g, cap, rfl, hb, _⟩ := ownsRow_shape h (by omega)
    exact hK g cap w' hl (fullN_of h) (Or.inr hb) (grownBy_wider hg _) hkk
  have kn : ∀ (w' : World), w.grownBy w' none → ∀ g j, l.ownBlock = some g → j < n + k → w.cell? ⟨g, j, none⟩ = some (.int .i64 m) → w'.cell? ⟨g, j, none⟩ = some (.int .i64 m) := fun w' hg g j _ _ h => hg.cell h (by simp)
  rcases hS.2 with ⟨rfl, rfl⟩ | ⟨g, cap, cur, rfl, _, hh, _⟩
  · refine wpList_append_grows w hgd s x 25 ho 3 i0 (.int .i64 0) 1 8 Tryz.underlying25 hi hz0 hz1 hz2 rfl (by decide) none 0 0 [] hs (fun _ => ⟨rfl, rfl⟩) rfl (fun b hb => by cases hb) ad k c (marks k m) hx (by simp [marks]) hc h1c (by omega) (by unfold maxLen; omega) (by omega) ?_
    intro v' w' ho' hg
    rw [List.nil_append] at ho'
    have hom : w'.ownsRow w.heap.size 3 1 v' (0 + k) (marks (0 + k) m) := by rw [Nat.zero_add] at ho' ⊢; exact ho'
    exact fin v' w' hom hg (World.ownsRow_nil _ _ _ _) (kn w' hg)
  · by_cases hfit : n + k ≤ cap
    · refine wpList_append_fits w hgd s x 25 ho B 3 i0 1 Tryz.underlying25 hi hz1 g n cap (marks n m) hs hS ad k c (marks k m) hx (by simp [marks]) hc h1c hfit ?_
      intro w' ho' hg
      rw [marks_append] at ho'
      refine hK g cap w' (own_prefix ho' (by omega)) (fullN_of ho') (Or.inl rfl) hg ?_
      intro g' j hg' hj _
      cases hg'
      rw [ho'.cellAt j (by omega)]
      simp [marks, hj]
    · refine wpList_append_grows w hgd s x 25 ho 3 i0 (.int .i64 0) 1 8 Tryz.underlying25 hi hz0 hz1 hz2 rfl (by decide) (some ⟨g, 0, none⟩) n cap (marks n m) hs (fun h => by cases h) (by simp [marks]) ?_ ad k c (marks k m) hx (by simp [marks]) hc h1c (by omega) (by unfold maxLen; omega) (by omega) ?_
      · intro b hb j u hj
        cases hb
        exact hS.cells (g := g) rfl j u hj
      · intro v' w' ho' hg
        rw [marks_append] at ho'
        exact fin v' w' ho' hg (hS.kept hg (Or.inr (by simp [Value.ownBlock]))) (kn w' hg)

theorem Tryz.info87 : (Tryz.prog.info? 87).map (fun i => (i.zero, i.size, i.bytes)) = some (some (.agg #[.slice none 0 0, .slice none 0 0, .slice none 0 0, .slice none 0 0, .int .i64 0]), 5, 104) := by kernel_rfl

theorem owns_len68 {w : World} {base : Nat} {v : Value} {n : Nat} {xs : List Value} (h : w.ownsRow base 87 5 v n xs) : ∃ a c, v = .slice a n c := by
  rcases h.2 with ⟨rfl, rfl⟩ | ⟨g', cap', cur, h', _⟩
  · exact ⟨_, _, rfl⟩
  · exact ⟨_, _, h'⟩

/-- What the law's book knows: its lists, each full of its own mark, in arrays of their own. -/
structure Bk (w : World) (B S bk : Nat) (vi : Value) (es : List (List Value)) (vt : Value := .slice none 0 0) : Prop where
  bB : B ≤ bk
  bS : bk < S
  Sw : S ≤ w.heap.size
  c0 : w.cell? ⟨bk, 0, none⟩ = some vi
  f0 : ∀ o, w.frozen? ⟨bk, o, none⟩ = false
  c1 : w.cell? ⟨bk, 1, none⟩ = some vt
  own : w.ownsRow B 87 5 vi es.length es.flatten
  vS : ∀ g, vi.ownBlock = some g → g < S ∧ g ≠ bk
  ent : ∀ (i : Nat) (e : List Value), es[i]? = some e → ∃ l a b c, e = [l, a, b, c, .int .i64 (-1000 - (i : Int))] ∧ ∀ x ∈ [l, a, b, c], Full w x (-1000 - (i : Int)) ∧ ∀ g, x.ownBlock = some g → g < S ∧ g ≠ bk ∧ vi.ownBlock ≠ some g

theorem owns_setCell {w : World} {base : Nat} {e : TypeId} {size : Nat} {v : Value} {n : Nat} {xs : List Value} (h : w.ownsRow base e size v n xs) {X o : Nat} {u : Value} (hX : v.ownBlock ≠ some X) : (w.setCell ⟨X, o, none⟩ u).ownsRow base e size v n xs := by
  refine ⟨h.1, ?_⟩
  rcases h.2 with h2 | ⟨g, cap, cur, hv, hg, hh, r⟩
  · exact Or.inl h2
  · refine Or.inr ⟨g, cap, cur, hv, hg, ?_, r⟩
    rw [Below.heap_setCell _ _ _ _ (by intro e; subst hv; exact hX (by rw [e]; rfl))]
    exact hh

/-- A block of five cells, the law's own 'Ints', whole. -/
def BoxIs (w : World) (X : Nat) (a b c d e : Value) : Prop := w.heap[X]? = some (.cells #[a, b, c, d, e] 87 (0, 0))

theorem BoxIs.cell {w : World} {X : Nat} {a b c d e : Value} (h : BoxIs w X a b c d e) (i : Nat) : w.cell? ⟨X, i, none⟩ = #[a, b, c, d, e][i]? := by
  unfold BoxIs at h
  simp [World.cell?, h]

theorem BoxIs.frozen {w : World} {X : Nat} {a b c d e : Value} (h : BoxIs w X a b c d e) (i : Nat) : w.frozen? ⟨X, i, none⟩ = false := by
  unfold BoxIs at h
  simp [World.frozen?, h]

theorem BoxIs.grown {w w' : World} {X : Nat} {a b c d e : Value} (h : BoxIs w X a b c d e) {row : Option Nat} (hg : w.grownBy w' row) (hr : row ≠ some X) : BoxIs w' X a b c d e := by
  unfold BoxIs at *
  rw [hg.block X (Array.getElem?_eq_some_iff.1 h).1 (fun e => hr e.symm)]
  exact h

theorem BoxIs.alloc {w : World} {X : Nat} {a b c d e : Value} (h : BoxIs w X a b c d e) (o : Obj) : BoxIs (w.alloc o) X a b c d e := by
  unfold BoxIs at *
  rw [Below.heap_alloc _ _ _ (Array.getElem?_eq_some_iff.1 h).1]
  exact h

theorem owns_belowS {w w' : World} {S base : Nat} {e : TypeId} {size : Nat} {v : Value} {n : Nat} {xs : List Value} (h : w.ownsRow base e size v n xs) (hb : Below S w w') (hv : ∀ g, v.ownBlock = some g → g < S) : w'.ownsRow base e size v n xs := by
  refine ⟨h.1, ?_⟩
  rcases h.2 with h2 | ⟨g, cap, cur, h1, h2, h3, h4⟩
  · exact .inl h2
  · exact .inr ⟨g, cap, cur, h1, h2, by rw [hb.block g (hv g (by rw [h1]; rfl))]; exact h3, h4⟩

theorem frozen_grown {w w' : World} {row : Option Nat} (hg : w.grownBy w' row) {b : Nat} (i : Nat) (hb : b < w.heap.size) (hr : some b ≠ row) : w'.frozen? ⟨b, i, none⟩ = w.frozen? ⟨b, i, none⟩ :=
  World.frozen?_of_block (w := w) (hg.block b hb hr)

theorem news5 (w : World) (a b c d e : Value) : ∀ (j : Nat) (u : Value), [a, b, c, d, e][j]? = some u → (w.alloc (.cells #[a, b, c, d, e] 87)).drew.cell? ((⟨w.heap.size, 0, none⟩ : Addr).add j) = some u := by
  intro j u hj
  rw [addr_add0]
  have := World.cell?_alloc_at (w := w) #[a, b, c, d, e] 87 w.heap.size j rfl
  rw [show (w.alloc (.cells #[a, b, c, d, e] 87)).drew.cell? ⟨w.heap.size, j, none⟩ = (w.alloc (.cells #[a, b, c, d, e] 87)).cell? ⟨w.heap.size, j, none⟩ from rfl, this]
  simpa using hj

theorem own_lt {w : World} {B : Nat} {l : Value} {n : Nat} {xs : List Value} (h : w.ownsRow B 3 1 l n xs) : ∀ g, l.ownBlock = some g → g < w.heap.size := by
  intro g hg
  rcases h.2 with ⟨rfl, _⟩ | ⟨g', cap', cur, rfl, _, hh, _⟩
  · cases hg
  · cases hg
    exact (Array.getElem?_eq_some_iff.1 hh).1

/-- The list behind k rounds of the loop that writes the marks. -/
def mk (xs : List Value) (m : Int) (k : Nat) : List Value := marks k m ++ xs.drop k

theorem mk_set (xs : List Value) (m : Int) (k : Nat) (hk : k < xs.length) : (mk xs m k).set k (.int .i64 m) = mk xs m (k + 1) := by
  unfold mk marks
  rw [List.set_append_right _ _ (by simp)]
  simp only [List.length_replicate, Nat.sub_self]
  rw [List.drop_eq_getElem_cons hk, List.set_cons_zero, List.replicate_succ', List.append_assoc]
  rfl

theorem BoxIs.set {w : World} {X : Nat} {a b c d e : Value} (h : BoxIs w X a b c d e) (i : Nat) (u : Value) : (w.setCell ⟨X, i, none⟩ u).heap[X]? = some (.cells (#[a, b, c, d, e].setIfInBounds i u) 87 (0, 0)) := by
  unfold BoxIs at h
  have hx := (Array.getElem?_eq_some_iff.1 h).1
  simp only [World.setCell, Array.getElem?_modify, if_true, h, Option.map_some]
  rfl

/-- What a step of the law leaves as it was: all below S but the book's own cells. -/
structure Kp (w w' : World) (S bk : Nat) (vi : Value) : Prop where
  os : w'.os = w.os
  tape : w'.tape = w.tape
  output : w'.output = w.output
  size : w.heap.size ≤ w'.heap.size
  block : ∀ k, k < S → k ≠ bk → vi.ownBlock ≠ some k → w'.heap[k]? = w.heap[k]?

theorem Kp.cell {w w' : World} {S bk : Nat} {vi : Value} (h : Kp w w' S bk vi) (g j : Nat) (h1 : g < S) (h2 : g ≠ bk) (h3 : vi.ownBlock ≠ some g) : w'.cell? ⟨g, j, none⟩ = w.cell? ⟨g, j, none⟩ :=
  World.cell?_of_block (w := w) (a := ⟨g, j, none⟩) (h.block g h1 h2 h3)

theorem Kp.full {w w' : World} {S bk : Nat} {vi x : Value} {m : Int} (h : Kp w w' S bk vi) (hf : Full w x m) (hb : ∀ g, x.ownBlock = some g → g < S ∧ g ≠ bk ∧ vi.ownBlock ≠ some g) : Full w' x m := by
  rcases hf with hf | ⟨g, n, c, rfl, hn, hg, hc⟩
  · exact Or.inl hf
  · obtain ⟨h1, h2, h3⟩ := hb g rfl
    exact Or.inr ⟨g, n, c, rfl, hn, Nat.lt_of_lt_of_le hg h.size, fun j hj => (h.cell g j h1 h2 h3).trans (hc j hj)⟩

/-- Where a new entry of the book lies: behind S; and the book's list, where it lay or behind S. -/
structure Ap (S : Nat) (vi vi' : Value) (e' : List Value) : Prop where
  ent : ∀ x ∈ e', ∀ g, x.ownBlock = some g → S ≤ g
  list : ∀ g, vi'.ownBlock = some g → vi.ownBlock = some g ∨ S ≤ g

theorem bk_post {w W4 w9 : World} {B S bk N K gi ci : Nat} {vi L va vb vc : Value} {es : List (List Value)} {m : Int} {o : Obj} {vt : Value} (hB : Bk w B S bk vi es vt) (hN : N = es.length) (hm : m = -1000 - (N : Int)) (hb4 : Below S w W4) (hK : K ≤ 1000000)
    (hx : ∀ x ∈ [L, va, vb, vc], FullN W4 x m K ∧ ∀ g, x.ownBlock = some g → S ≤ g) (hg9 : (W4.alloc o).drew.grownBy w9 vi.ownBlock) (ho9 : w9.ownsRow B 87 5 (.slice (some ⟨gi, 0, none⟩) (N + 1) ci) (N + 1) (es.flatten ++ [L, va, vb, vc, .int .i64 m]))
    (hat : vi.ownBlock = some gi ∨ gi = W4.heap.size + 1) (hlt : gi < w9.heap.size) :
    Bk (w9.setCell ⟨bk, 0, none⟩ (.slice (some ⟨gi, 0, none⟩) (N + 1) ci)) B (w9.setCell ⟨bk, 0, none⟩ (.slice (some ⟨gi, 0, none⟩) (N + 1) ci)).heap.size bk (.slice (some ⟨gi, 0, none⟩) (N + 1) ci) (es ++ [[L, va, vb, vc, .int .i64 m]]) vt ∧
      Kp w (w9.setCell ⟨bk, 0, none⟩ (.slice (some ⟨gi, 0, none⟩) (N + 1) ci)) S bk vi ∧ Ap S vi (.slice (some ⟨gi, 0, none⟩) (N + 1) ci) [L, va, vb, vc, .int .i64 m] := by
  have hs5 : (W4.alloc o).drew.heap.size = W4.heap.size + 1 := by show (W4.alloc o).heap.size = _; simp
  have hsz : W4.heap.size + 1 ≤ w9.heap.size := by have := hg9.size; omega
  have hS4 : S ≤ W4.heap.size := Nat.le_trans hB.Sw hb4.size
  have hbS := hB.bS
  have hzz : (w9.setCell ⟨bk, 0, none⟩ (.slice (some ⟨gi, 0, none⟩) (N + 1) ci)).heap.size = w9.heap.size := by simp [World.setCell]
  have hgb : gi ≠ bk := by
    rcases hat with e | e
    · exact (hB.vS gi e).2
    · omega
  have hblk9 : ∀ k, k < W4.heap.size → vi.ownBlock ≠ some k → w9.heap[k]? = W4.heap[k]? := by
    intro k hk hv
    rw [hg9.block k (by omega) (fun e => hv e.symm)]
    exact Below.heap_alloc W4 o k hk
  have hbn : vi.ownBlock ≠ some bk := fun e => (hB.vS bk e).2 rfl
  have hKp : Kp w (w9.setCell ⟨bk, 0, none⟩ (.slice (some ⟨gi, 0, none⟩) (N + 1) ci)) S bk vi := by
    refine ⟨?_, ?_, ?_, ?_, ?_⟩
    · exact (hg9.os).trans hb4.os
    · exact (hg9.tape).trans hb4.tape
    · exact (hg9.output).trans hb4.output
    · rw [hzz]; have := hb4.size; omega
    · intro k hk h1 h2
      rw [Below.heap_setCell _ _ _ _ h1, hblk9 k (by omega) h2, hb4.block k hk]
  have cell9 : ∀ i, w9.cell? ⟨bk, i, none⟩ = w.cell? ⟨bk, i, none⟩ := fun i =>
    (World.cell?_of_block (w := W4) (a := ⟨bk, i, none⟩) (hblk9 bk (by omega) hbn)).trans (hb4.cell (p := ⟨bk, i, none⟩) hbS)
  have froz9 : ∀ i, w9.frozen? ⟨bk, i, none⟩ = w.frozen? ⟨bk, i, none⟩ := fun i =>
    (World.frozen?_of_block (w := W4) (a := ⟨bk, i, none⟩) (hblk9 bk (by omega) hbn)).trans (hb4.frozen (p := ⟨bk, i, none⟩) hbS)
  have hap : Ap S vi (.slice (some ⟨gi, 0, none⟩) (N + 1) ci) [L, va, vb, vc, .int .i64 m] := by
    refine ⟨fun x hx' g hg => ?_, fun g hg => ?_⟩
    · by_cases he : x = .int .i64 m
      · subst he; cases hg
      · exact (hx x (by simp at hx' ⊢; rcases hx' with h | h | h | h | h <;> simp_all)).2 g hg
    · have e' : gi = g := by simpa [Value.ownBlock] using hg
      subst e'
      rcases hat with e | e
      · exact Or.inl e
      · exact Or.inr (by omega)
  refine ⟨⟨hB.bB, by rw [hzz]; omega, Nat.le_refl _, ?_, ?_, ?_, ?_, ?_, ?_⟩, hKp, hap⟩
  · exact World.cell?_setCell_same _ _ _ ((cell9 0).trans hB.c0)
  · intro i; rw [World.frozen?_setCell, froz9]; exact hB.f0 i
  · rw [World.cell?_setCell_other _ _ _ _ (by intro e; cases e), cell9 1]; exact hB.c1
  · have h := owns_setCell (o := 0) (u := .slice (some ⟨gi, 0, none⟩) (N + 1) ci) (X := bk) ho9 (by intro e; cases e; exact hgb rfl)
    rw [List.length_append, List.flatten_append, ← hN]
    simpa using h
  · intro g hg
    cases hg
    exact ⟨by rw [hzz]; exact hlt, hgb⟩
  · intro i e hi
    have gne : ∀ g, g < W4.heap.size → vi.ownBlock ≠ some g → (Value.slice (some ⟨gi, 0, none⟩) (N + 1) ci).ownBlock ≠ some g := by
      intro g hg h1 e
      have e' : gi = g := by simpa [Value.ownBlock] using e
      subst e'
      rcases hat with e | e
      · exact h1 e
      · omega
    by_cases hiN : i < es.length
    · rw [List.getElem?_append_left hiN] at hi
      obtain ⟨l, a, b, c, rfl, h⟩ := hB.ent i e hi
      refine ⟨l, a, b, c, rfl, fun x hx => ?_⟩
      obtain ⟨h1, h2⟩ := h x hx
      refine ⟨hKp.full h1 h2, fun g hg => ?_⟩
      obtain ⟨k1, k2, k3⟩ := h2 g hg
      exact ⟨by rw [hzz]; omega, k2, gne g (by omega) k3⟩
    · rw [List.getElem?_append_right (by omega)] at hi
      have hi0 : i = es.length := by
        rcases Nat.lt_or_ge (i - es.length) 1 with h | h
        · omega
        · rw [List.getElem?_eq_none (by simpa using h)] at hi; cases hi
      subst hi0
      rw [Nat.sub_self] at hi
      simp at hi
      subst hi
      refine ⟨L, va, vb, vc, by rw [hm, hN], fun x hx' => ?_⟩
      obtain ⟨h1, h2⟩ := hx x hx'
      rw [hm, hN] at h1
      have hlt4 : ∀ g, x.ownBlock = some g → g < W4.heap.size := by
        intro g hg
        rcases h1 with ⟨c, rfl⟩ | ⟨g', n', c, rfl, _, hgl, _⟩
        · cases hg
        · cases hg; exact hgl
      have vne : ∀ g, x.ownBlock = some g → vi.ownBlock ≠ some g := by
        intro g hg e
        have a1 := (hB.vS g e).1
        have a2 := h2 g hg
        omega
      refine ⟨?_, fun g hg => ⟨by rw [hzz]; have := hlt4 g hg; omega, by have := h2 g hg; omega, gne g (hlt4 g hg) (vne g hg)⟩⟩
      rcases h1 with h1 | ⟨g', n', c, rfl, hn', hgl, hc⟩
      · exact Or.inl h1
      · refine Or.inr ⟨g', n', c, rfl, by omega, by rw [hzz]; omega, fun j hj => ?_⟩
        have hgS := h2 g' rfl
        rw [World.cell?_setCell_other _ _ _ _ (by intro e; cases e; omega)]
        exact (World.cell?_of_block (w := W4) (a := ⟨g', j, none⟩) (hblk9 g' hgl (vne g' rfl))).trans (hc j hj)

theorem fullN_le {w : World} {v : Value} {m : Int} {n K : Nat} (h : FullN w v m n) (hn : n ≤ K) : FullN w v m K := by
  rcases h with h | ⟨g, n', c, h1, h2, h3⟩
  · exact Or.inl h
  · exact Or.inr ⟨g, n', c, h1, by omega, h3⟩

theorem hx4 {W : World} {L : Value} {S K ga na ca gb nb cb gc nc cc : Nat} {m : Int} (h0 : FullN W L m K) (h1 : FullN W (.slice (some ⟨ga, 0, none⟩) na ca) m K) (h2 : FullN W (.slice (some ⟨gb, 0, none⟩) nb cb) m K) (h3 : FullN W (.slice (some ⟨gc, 0, none⟩) nc cc) m K)
    (hL : ∀ g, L.ownBlock = some g → S ≤ g) (ha : S ≤ ga) (hb : S ≤ gb) (hc : S ≤ gc) : ∀ x ∈ [L, .slice (some ⟨ga, 0, none⟩) na ca, .slice (some ⟨gb, 0, none⟩) nb cb, .slice (some ⟨gc, 0, none⟩) nc cc], FullN W x m K ∧ ∀ g, x.ownBlock = some g → S ≤ g := by
  intro x hx
  simp only [List.mem_cons, List.not_mem_nil, or_false] at hx
  rcases hx with rfl | rfl | rfl | rfl
  · exact ⟨h0, hL⟩
  · exact ⟨h1, fun g e => by cases e; exact ha⟩
  · exact ⟨h2, fun g e => by cases e; exact hb⟩
  · exact ⟨h3, fun g e => by cases e; exact hc⟩

set_option maxRecDepth 100000 in
set_option maxHeartbeats 2000000 in
theorem keepInts_any (w : World) (B S bk : Nat) (vi : Value) (es : List (List Value)) (l : Value) (n : Nat) (xs : List Value) {vt : Value} (hB : Bk w B S bk vi es vt) (he : es.length ≤ 1466015504000) (hn : n ≤ 1000)
    (hl : (l = .slice none 0 0 ∧ n = 0) ∨ ∃ g cap, l = .slice (some ⟨g, 0, none⟩) n cap ∧ S ≤ g ∧ w.ownsRow B 3 1 l n xs) :
    Calls Tryz.prog 47 #[.pointer (some ⟨bk, 0, none⟩), l] w fun e w' => e = .returned (.tuple #[]) ∧ ∃ vi' e', Bk w' B w'.heap.size bk vi' (es ++ [e']) vt ∧ Kp w w' S bk vi ∧ Ap S vi vi' e' := by
  obtain ⟨a1, c1, hvi⟩ := owns_len68 hB.own
  have HBK := hid hB
  have c0 := hB.c0
  rw [hvi] at c0
  have HVI := hid hvi
  clear hB hvi
  obtain ⟨N, hN⟩ : ∃ N, N = es.length := ⟨_, rfl⟩
  have HN := hid hN
  rw [← hN] at c0 he
  clear hN
  obtain ⟨m, hm⟩ : ∃ m : Int, m = -1000 - (N : Int) := ⟨_, rfl⟩
  have hmb : -1466015506000 ≤ m ∧ m ≤ -1000 := by omega
  have HM := hid hm
  rcases hl with ⟨rfl, rfl⟩ | ⟨g, cap, rfl, hSg, ho⟩
  · have HS : Hid (w.ownsRow B 3 1 (.slice none 0 0) 0 (marks 0 m)) := World.ownsRow_nil _ _ _ _
    have HBl := hid (Below.refl S w)
    have HLS : Hid (∀ g, (Value.slice none 0 0).ownBlock = some g → S ≤ g) := fun g hg => by cases hg
    go_enter Tryz.func47, Tryz.ntmps47
    go_wp2
    rw [← HM.out]
    clear hm
    refine wp_loop_rounds 1 ?_
    rw [rounds_succ]
    have HLT : Hid (∀ g', (Value.slice none 0 0).ownBlock = some g' → g' < w.heap.size) := own_lt HS.out
    have HBX0 : Hid (BoxIs (w.alloc (.cells #[.slice none 0 0, .slice none 0 0, .slice none 0 0, .slice none 0 0, .int .i64 m] 87)) w.heap.size (.slice none 0 0) (.slice none 0 0) (.slice none 0 0) (.slice none 0 0) (.int .i64 m)) := heap_alloc_new _ _
    go_wp2_with (at_builtin; go_must (refine wpList_mark _ rfl (.tmp 26) (.tmp 28) rfl B _ _ m rfl ((HS.out.alloc _).alloc _) ⟨w.heap.size + 1, 0, none⟩ 1 1 rfl ?a1 (by decide) (by omega) ?_))
    case a1 =>
      intro j hj
      have : j = 0 := by omega
      subst this
      rw [addr_add0]
      exact World.cell?_alloc_at _ _ _ _ (by simp)
    intro ga ca w2 hl2 fa2 ba hg2 hk2
    have sz2 : w.heap.size + 2 ≤ w2.heap.size := by have := hg2.size; simp at this; omega
    have HXL : Hid ((Value.slice none 0 0).ownBlock ≠ some w.heap.size) := by intro e; have := HLT.out _ e; omega
    have HXA : Hid ((Value.slice (some ⟨ga, 0, none⟩) 1 ca).ownBlock ≠ some w.heap.size) := by
      intro e
      cases e
      rcases ba with e | e
      · exact HXL.out e
      · simp at e; omega
    have HBX2 := hid ((HBX0.out.alloc _).grown hg2 HXL.out)
    have x21 : w2.cell? ⟨w.heap.size, 1, none⟩ = some (.slice none 0 0) := HBX2.out.cell 1
    have f21 := HBX2.out.frozen 1
    have HB2 := hid (((HBl.out.alloc (by have := HBK.out.Sw; have := HBl.out.size; omega) (.cells #[.slice none 0 0, .slice none 0 0, .slice none 0 0, .slice none 0 0, .int .i64 m] 87)).alloc (by have := HBK.out.Sw; have := HBl.out.size; simp; omega) _).grown hg2 (by have := HBK.out.Sw; have := HBl.out.size; simp; omega) (fun g' e => HLS.out g' e))
    have HS2 := hid (owns_setCell hl2 (o := 1) (u := .slice (some ⟨ga, 0, none⟩) 1 ca) HXL.out)
    have HA2 := hid (fa2.setCell w.heap.size 1 (.slice (some ⟨ga, 0, none⟩) 1 ca) HXA.out)
    have HBB2 := hid (show BoxIs (w2.setCell ⟨w.heap.size, 1, none⟩ (.slice (some ⟨ga, 0, none⟩) 1 ca)) w.heap.size (.slice none 0 0) (.slice (some ⟨ga, 0, none⟩) 1 ca) (.slice none 0 0) (.slice none 0 0) (.int .i64 m) from HBX2.out.set 1 _)
    have HB2' := hid (HB2.out.setCell (p := ⟨w.heap.size, 1, none⟩) (by have := HBK.out.Sw; have := HBl.out.size; show _ ≤ w.heap.size; omega) (.slice (some ⟨ga, 0, none⟩) 1 ca))
    have z2 : (w2.setCell ⟨w.heap.size, 1, none⟩ (.slice (some ⟨ga, 0, none⟩) 1 ca)).heap.size = w2.heap.size := by simp [World.setCell]
    have Z2 := hid z2
    have BA := hid ba
    clear hl2 fa2 ba hg2 hk2 z2
    go_wp2_with (at_builtin; go_must (refine wpList_mark _ rfl (.tmp 31) (.tmp 34) rfl B _ _ m rfl (HS2.out.alloc _) ⟨w2.heap.size, 0, none⟩ 2 2 rfl ?b1 (by decide) (by omega) ?_))
    case b1 =>
      intro j hj
      rw [addr_add0]
      match j, hj with
      | 0, _ => exact World.cell?_alloc_at _ _ _ _ Z2.out.symm
      | 1, _ => exact World.cell?_alloc_at _ _ _ _ Z2.out.symm
    intro gb cb w3 hl3 fb3 bb hg3 hk3
    have sz3 : w2.heap.size + 1 ≤ w3.heap.size := by have := hg3.size; have := Z2.out; simp at *; omega
    have HXB : Hid ((Value.slice (some ⟨gb, 0, none⟩) 2 cb).ownBlock ≠ some w.heap.size) := by
      intro e
      cases e
      rcases bb with e | e
      · exact HXL.out e
      · have := Z2.out; simp at e; omega
    have HBX3 := hid ((HBB2.out.alloc _).grown hg3 HXL.out)
    have x31 : w3.cell? ⟨w.heap.size, 2, none⟩ = some (.slice none 0 0) := HBX3.out.cell 2
    have f31 := HBX3.out.frozen 2
    have HB3 := hid ((HB2'.out.alloc (by have := HBK.out.Sw; have := HBl.out.size; have := Z2.out; omega) _).grown hg3 (by have := HBK.out.Sw; have := HBl.out.size; have := Z2.out; simp; omega) (fun g' e => HLS.out g' e))
    have HS3 := hid (owns_setCell hl3 (o := 2) (u := .slice (some ⟨gb, 0, none⟩) 2 cb) HXL.out)
    have HA3 := hid (((HA2.out.alloc _).mark (by omega) hg3 hk3).setCell w.heap.size 2 (.slice (some ⟨gb, 0, none⟩) 2 cb) HXA.out)
    have HBv3 := hid (fb3.setCell w.heap.size 2 (.slice (some ⟨gb, 0, none⟩) 2 cb) HXB.out)
    have HBB3 := hid (show BoxIs (w3.setCell ⟨w.heap.size, 2, none⟩ (.slice (some ⟨gb, 0, none⟩) 2 cb)) w.heap.size (.slice none 0 0) (.slice (some ⟨ga, 0, none⟩) 1 ca) (.slice (some ⟨gb, 0, none⟩) 2 cb) (.slice none 0 0) (.int .i64 m) from HBX3.out.set 2 _)
    have HB3' := hid (HB3.out.setCell (p := ⟨w.heap.size, 2, none⟩) (by have := HBK.out.Sw; have := HBl.out.size; show _ ≤ w.heap.size; omega) (.slice (some ⟨gb, 0, none⟩) 2 cb))
    have Z3 := hid (show (w3.setCell ⟨w.heap.size, 2, none⟩ (.slice (some ⟨gb, 0, none⟩) 2 cb)).heap.size = w3.heap.size by simp [World.setCell])
    have BB := hid bb
    clear hl3 fb3 bb hg3 hk3 x21 f21
    go_wp2_with (at_builtin; go_must (refine wpList_mark _ rfl (.tmp 37) (.tmp 41) rfl B _ _ m rfl (HS3.out.alloc _) ⟨w3.heap.size, 0, none⟩ 3 3 rfl ?d1 (by decide) (by omega) ?_))
    case d1 =>
      intro j hj
      rw [addr_add0]
      match j, hj with
      | 0, _ => exact World.cell?_alloc_at _ _ _ _ Z3.out.symm
      | 1, _ => exact World.cell?_alloc_at _ _ _ _ Z3.out.symm
      | 2, _ => exact World.cell?_alloc_at _ _ _ _ Z3.out.symm
    intro gc cc w4 hl4 fc4 bc hg4 hk4
    have sz4 : w3.heap.size + 1 ≤ w4.heap.size := by have := hg4.size; have := Z3.out; simp at *; omega
    have HXC : Hid ((Value.slice (some ⟨gc, 0, none⟩) 3 cc).ownBlock ≠ some w.heap.size) := by
      intro e
      cases e
      rcases bc with e | e
      · exact HXL.out e
      · have := Z3.out; simp at e; omega
    have HBX4 := hid ((HBB3.out.alloc _).grown hg4 HXL.out)
    have x41 : w4.cell? ⟨w.heap.size, 3, none⟩ = some (.slice none 0 0) := HBX4.out.cell 3
    have f41 := HBX4.out.frozen 3
    have HB4 := hid (((HB3'.out.alloc (by have := HBK.out.Sw; have := HBl.out.size; have := Z3.out; omega) _).grown hg4 (by have := HBK.out.Sw; have := HBl.out.size; have := Z3.out; simp; omega) (fun g' e => HLS.out g' e)).setCell (p := ⟨w.heap.size, 3, none⟩) (by have := HBK.out.Sw; have := HBl.out.size; show _ ≤ w.heap.size; omega) (.slice (some ⟨gc, 0, none⟩) 3 cc))
    have HL4 := hid (fullN_of (owns_setCell hl4 (o := 3) (u := .slice (some ⟨gc, 0, none⟩) 3 cc) HXL.out))
    have HA4 := hid (((HA3.out.alloc _).mark (by omega) hg4 hk4).setCell w.heap.size 3 (.slice (some ⟨gc, 0, none⟩) 3 cc) HXA.out)
    have HB4v := hid (((HBv3.out.alloc _).mark (by omega) hg4 hk4).setCell w.heap.size 3 (.slice (some ⟨gc, 0, none⟩) 3 cc) HXB.out)
    have HC4 := hid (fc4.setCell w.heap.size 3 (.slice (some ⟨gc, 0, none⟩) 3 cc) HXC.out)
    have HBB4 := hid (show BoxIs (w4.setCell ⟨w.heap.size, 3, none⟩ (.slice (some ⟨gc, 0, none⟩) 3 cc)) w.heap.size (.slice none 0 0) (.slice (some ⟨ga, 0, none⟩) 1 ca) (.slice (some ⟨gb, 0, none⟩) 2 cb) (.slice (some ⟨gc, 0, none⟩) 3 cc) (.int .i64 m) from HBX4.out.set 3 _)
    have Z4 := hid (show (w4.setCell ⟨w.heap.size, 3, none⟩ (.slice (some ⟨gc, 0, none⟩) 3 cc)).heap.size = w4.heap.size by simp [World.setCell])
    have BC := hid bc
    clear hl4 fc4 bc hg4 hk4 x31 f31
    go_wp2
    have hXlt : w.heap.size < (w4.setCell ⟨w.heap.size, 3, none⟩ (.slice (some ⟨gc, 0, none⟩) 3 cc)).heap.size := (Array.getElem?_eq_some_iff.1 HBB4.out).1
    have HSA := hid (show S ≤ ga by
      rcases BA.out with e | e
      · exact HLS.out _ e
      · have := HBK.out.Sw; have := HBl.out.size; omega)
    have HSB := hid (show S ≤ gb by
      rcases BB.out with e | e
      · exact HLS.out _ e
      · have := HBK.out.Sw; have := HBl.out.size; have := Z2.out; omega)
    have HSC := hid (show S ≤ gc by
      rcases BC.out with e | e
      · exact HLS.out _ e
      · have := HBK.out.Sw; have := HBl.out.size; have := Z3.out; omega)
    obtain ⟨X, hX⟩ : ∃ X, X = w.heap.size := ⟨_, rfl⟩
    have hXS : S ≤ X := by have := HBK.out.Sw; have := HBl.out.size; omega
    rw [← hX] at HBB4 HL4 HA4 HB4v HC4 HB4 hXlt HXL HXA HXB HXC ⊢
    have HX := hid hX
    clear hX x41 f41 HB2 HB3 HB2' HB3' HBX2 HBX3 HBX4 HBX0 HS2 HS3 HA2 HA3 HBv3 HBB2 HBB3 sz2 sz3 sz4 Z2 Z3 Z4
    obtain ⟨W4, hW4⟩ : ∃ W4, W4 = w4.setCell ⟨X, 3, none⟩ (.slice (some ⟨gc, 0, none⟩) 3 cc) := ⟨_, rfl⟩
    rw [← hW4] at HBB4 HL4 HA4 HB4v HC4 HB4 hXlt ⊢
    clear hW4
    have cbk : W4.cell? ⟨bk, 0, none⟩ = some (.slice a1 N c1) := (HB4.out.cell (by exact HBK.out.bS)).trans c0
    have fbk : W4.frozen? ⟨bk, 0, none⟩ = false := (HB4.out.frozen (by exact HBK.out.bS)).trans (HBK.out.f0 0)
    have y0 : W4.cell? ⟨X, 0, none⟩ = some (.slice none 0 0) := HBB4.out.cell 0
    have y1 : W4.cell? ⟨X, 1, none⟩ = some (.slice (some ⟨ga, 0, none⟩) 1 ca) := HBB4.out.cell 1
    have y2 : W4.cell? ⟨X, 2, none⟩ = some (.slice (some ⟨gb, 0, none⟩) 2 cb) := HBB4.out.cell 2
    have y3 : W4.cell? ⟨X, 3, none⟩ = some (.slice (some ⟨gc, 0, none⟩) 3 cc) := HBB4.out.cell 3
    have y4 : W4.cell? ⟨X, 4, none⟩ = some (.int .i64 m) := HBB4.out.cell 4
    have HOW := hid (show W4.ownsRow B 87 5 (.slice a1 N c1) N es.flatten by
      have h := owns_belowS HBK.out.own HB4.out (fun g' e => (HBK.out.vS g' e).1)
      rw [HVI.out, ← HN.out] at h
      exact h)
    have hbkW : bk < W4.heap.size := by have := HBK.out.bS; omega
    have hne : ¬ bk = X := by have := HBK.out.bS; omega
    obtain ⟨i8, hi8, hz80, hz81, hz82⟩ := info_parts Tryz.info87
    have NW := hid (news5 W4 (.slice none 0 0) (.slice (some ⟨ga, 0, none⟩) 1 ca) (.slice (some ⟨gb, 0, none⟩) 2 cb) (.slice (some ⟨gc, 0, none⟩) 3 cc) (.int .i64 m))
    have VK := hid (show ∀ g', (Value.slice a1 N c1).ownBlock = some g' → g' ≠ bk ∧ g' ≠ X by
      intro g' e
      have := HBK.out.vS g' (by rw [HVI.out, ← HN.out]; exact e)
      omega)
    have NB := hid (show B ≤ (W4.alloc (.cells #[.slice none 0 0, .slice (some ⟨ga, 0, none⟩) 1 ca, .slice (some ⟨gb, 0, none⟩) 2 cb, .slice (some ⟨gc, 0, none⟩) 3 cc, .int .i64 m] 87)).drew.heap.size by have := HBK.out.bB; have := HBK.out.bS; show _ ≤ (W4.alloc _).heap.size; simp; omega)
    have NH := hid (show (W4.alloc (.cells #[.slice none 0 0, .slice (some ⟨ga, 0, none⟩) 1 ca, .slice (some ⟨gb, 0, none⟩) 2 cb, .slice (some ⟨gc, 0, none⟩) 3 cc, .int .i64 m] 87)).drew.heap.size = W4.heap.size + 1 by show (W4.alloc _).heap.size = _; simp)
    have N1 := hid (show ∀ u ∈ [.slice none 0 0, .slice (some ⟨ga, 0, none⟩) 1 ca, .slice (some ⟨gb, 0, none⟩) 2 cb, .slice (some ⟨gc, 0, none⟩) 3 cc, Value.int .i64 m], u.oneCell' = true by
      intro u hu
      simp at hu
      rcases hu with rfl | rfl | rfl | rfl | rfl <;> rfl)
    have CB := hid (show (W4.alloc (.cells #[.slice none 0 0, .slice (some ⟨ga, 0, none⟩) 1 ca, .slice (some ⟨gb, 0, none⟩) 2 cb, .slice (some ⟨gc, 0, none⟩) 3 cc, .int .i64 m] 87)).drew.cell? ⟨bk, 0, none⟩ = some (.slice a1 N c1) from (((Below.refl W4.heap.size W4).alloc (Nat.le_refl _) _).drew.cell (p := ⟨bk, 0, none⟩) hbkW).trans cbk)
    have FB := hid (show (W4.alloc (.cells #[.slice none 0 0, .slice (some ⟨ga, 0, none⟩) 1 ca, .slice (some ⟨gb, 0, none⟩) 2 cb, .slice (some ⟨gc, 0, none⟩) 3 cc, .int .i64 m] 87)).drew.frozen? ⟨bk, 0, none⟩ = false from (((Below.refl W4.heap.size W4).alloc (Nat.le_refl _) _).drew.frozen (p := ⟨bk, 0, none⟩) hbkW).trans fbk)
    have VB := hid (show some bk ≠ (Value.slice a1 N c1).ownBlock from fun e => (VK.out bk e.symm).1 rfl)
    go_region_law ((refine step_append_far _ (by rfl) (.tmp 48) (.tmp 50) 56 (by rfl) B 87 i8 (.agg #[.slice none 0 0, .slice none 0 0, .slice none 0 0, .slice none 0 0, .int .i64 0]) 5 104 Tryz.underlying56 hi8 hz80 hz81 hz82 (by rfl) (by decide) (.slice a1 N c1) N es.flatten (by rfl) (HOW.out.alloc _) ⟨W4.heap.size, 0, none⟩ 1 1 [.slice none 0 0, .slice (some ⟨ga, 0, none⟩) 1 ca, .slice (some ⟨gb, 0, none⟩) 2 cb, .slice (some ⟨gc, 0, none⟩) 3 cc, .int .i64 m] (by rfl) (by rfl) NW.out N1.out (by decide) (by unfold maxLen; omega) (by omega) NB.out (W4.heap.size + 1) NH.out ?_; intro gi ci w9 hown9 hgrow9 hat hlt9; have cb9 := hgrow9.cell (a := ⟨bk, 0, none⟩) CB.out VB.out; have fb9 := (frozen_grown hgrow9 (b := bk) 0 (by rw [NH.out]; omega) VB.out).trans FB.out))
    all_goals
      have HX4 := hid (hx4 (K := 0 + 3) (fullN_le HL4.out (by omega)) (fullN_le HA4.out (by omega)) (fullN_le HB4v.out (by omega)) (fullN_le HC4.out (by omega)) HLS.out HSA.out HSB.out HSC.out)
      have HPOST := hid (bk_post HBK.out HN.out HM.out HB4.out (by omega) HX4.out (by rw [HVI.out, ← HN.out]; exact hgrow9) hown9 (by rw [HVI.out, ← HN.out]; exact hat) hlt9)
      clear cb9 fb9 hown9 hgrow9 hat hlt9 y0 y1 y2 y3 y4 cbk fbk c0
      go_end0
      exact ⟨rfl, _, _, HPOST.out.1, HPOST.out.2.1, HPOST.out.2.2⟩
  · have HLS : Hid (∀ g', (Value.slice (some ⟨g, 0, none⟩) n cap).ownBlock = some g' → S ≤ g') := fun g' hg => by cases hg; exact hSg
    have HO := hid ho
    have hxl : xs.length = n := by have := ho.1; omega
    clear ho
    go_enter Tryz.func47, Tryz.ntmps47
    go_wp2
    rw [← HM.out]
    clear hm
    go_loopw [5] (fun i wr => ∃ k : Nat, k ≤ n ∧ i = .int .i64 k ∧ wr.ownsRow B 3 1 (.slice (some ⟨g, 0, none⟩) n cap) n (mk xs m k) ∧ Below S w wr) (fun i _ => n - (intOf i).toNat)
    case atStart => exact ⟨0, Nat.zero_le _, rfl, by simpa [mk, marks] using HO.out, Below.refl _ _⟩
    case round =>
      obtain ⟨k, hk, rfl, ho, hb⟩ := hrel
      by_cases hkn : k < n
      · have hcl := ho.cellAt k (by omega)
        have hfr := ho.frozenAt k
        obtain ⟨v0, hv0⟩ : ∃ v0, (mk xs m k)[k]? = some v0 := by
          have : k < (mk xs m k).length := by simp [mk, marks]; omega
          exact ⟨_, List.getElem?_eq_getElem this⟩
        rw [hv0] at hcl
        have HSt := ho.stored k (.int .i64 m)
        rw [mk_set xs m k (by omega)] at HSt
        have HS' := hid HSt.1
        have HB := hid (hb.setCell (p := ⟨g, k, none⟩) hSg (.int .i64 m))
        have hkn' : (k : Int) < n := by omega
        clear HSt hb ho hv0
        go_wp2
        go_roundw
        case rel => exact ⟨k + 1, by omega, by go_num, HS'.out, HB.out⟩
        case measure => simp [intOf]; omega
      · have : k = n := by omega
        subst this
        have HS : Hid (wr.ownsRow B 3 1 (.slice (some ⟨g, 0, none⟩) k cap) k (marks k m)) := by
          have h := ho
          rw [show mk xs m k = marks k m by unfold mk; rw [List.drop_of_length_le (by omega), List.append_nil]] at h
          exact h
        have HBl := hid hb
        clear ho hb
        have HLT : Hid (∀ g', (Value.slice (some ⟨g, 0, none⟩) k cap).ownBlock = some g' → g' < wr.heap.size) := own_lt HS.out
        have HBX0 : Hid (BoxIs (wr.alloc (.cells #[.slice (some ⟨g, 0, none⟩) k cap, .slice none 0 0, .slice none 0 0, .slice none 0 0, .int .i64 m] 87)) wr.heap.size (.slice (some ⟨g, 0, none⟩) k cap) (.slice none 0 0) (.slice none 0 0) (.slice none 0 0) (.int .i64 m)) := heap_alloc_new _ _
        go_wp2_with (at_builtin; go_must (refine wpList_mark _ rfl (.tmp 26) (.tmp 28) rfl B _ _ m rfl ((HS.out.alloc _).alloc _) ⟨wr.heap.size + 1, 0, none⟩ 1 1 rfl ?a1 (by decide) (by omega) ?_))
        case a1 =>
          intro j hj
          have : j = 0 := by omega
          subst this
          rw [addr_add0]
          exact World.cell?_alloc_at _ _ _ _ (by simp)
        intro ga ca w2 hl2 fa2 ba hg2 hk2
        have sz2 : wr.heap.size + 2 ≤ w2.heap.size := by have := hg2.size; simp at this; omega
        have HXL : Hid ((Value.slice (some ⟨g, 0, none⟩) k cap).ownBlock ≠ some wr.heap.size) := by intro e; have := HLT.out _ e; omega
        have HXA : Hid ((Value.slice (some ⟨ga, 0, none⟩) (k + 1) ca).ownBlock ≠ some wr.heap.size) := by
          intro e
          cases e
          rcases ba with e | e
          · exact HXL.out e
          · simp at e; omega
        have HBX2 := hid ((HBX0.out.alloc _).grown hg2 HXL.out)
        have x21 : w2.cell? ⟨wr.heap.size, 1, none⟩ = some (.slice none 0 0) := HBX2.out.cell 1
        have f21 := HBX2.out.frozen 1
        have HB2 := hid (((HBl.out.alloc (by have := HBK.out.Sw; have := HBl.out.size; omega) (.cells #[.slice (some ⟨g, 0, none⟩) k cap, .slice none 0 0, .slice none 0 0, .slice none 0 0, .int .i64 m] 87)).alloc (by have := HBK.out.Sw; have := HBl.out.size; simp; omega) _).grown hg2 (by have := HBK.out.Sw; have := HBl.out.size; simp; omega) (fun g' e => HLS.out g' e))
        have HS2 := hid (owns_setCell hl2 (o := 1) (u := .slice (some ⟨ga, 0, none⟩) (k + 1) ca) HXL.out)
        have HA2 := hid (fa2.setCell wr.heap.size 1 (.slice (some ⟨ga, 0, none⟩) (k + 1) ca) HXA.out)
        have HBB2 := hid (show BoxIs (w2.setCell ⟨wr.heap.size, 1, none⟩ (.slice (some ⟨ga, 0, none⟩) (k + 1) ca)) wr.heap.size (.slice (some ⟨g, 0, none⟩) k cap) (.slice (some ⟨ga, 0, none⟩) (k + 1) ca) (.slice none 0 0) (.slice none 0 0) (.int .i64 m) from HBX2.out.set 1 _)
        have HB2' := hid (HB2.out.setCell (p := ⟨wr.heap.size, 1, none⟩) (by have := HBK.out.Sw; have := HBl.out.size; show _ ≤ wr.heap.size; omega) (.slice (some ⟨ga, 0, none⟩) (k + 1) ca))
        have z2 : (w2.setCell ⟨wr.heap.size, 1, none⟩ (.slice (some ⟨ga, 0, none⟩) (k + 1) ca)).heap.size = w2.heap.size := by simp [World.setCell]
        have Z2 := hid z2
        have BA := hid ba
        clear hl2 fa2 ba hg2 hk2 z2
        go_wp2_with (at_builtin; go_must (refine wpList_mark _ rfl (.tmp 31) (.tmp 34) rfl B _ _ m rfl (HS2.out.alloc _) ⟨w2.heap.size, 0, none⟩ 2 2 rfl ?b1 (by decide) (by omega) ?_))
        case b1 =>
          intro j hj
          rw [addr_add0]
          match j, hj with
          | 0, _ => exact World.cell?_alloc_at _ _ _ _ Z2.out.symm
          | 1, _ => exact World.cell?_alloc_at _ _ _ _ Z2.out.symm
        intro gb cb w3 hl3 fb3 bb hg3 hk3
        have sz3 : w2.heap.size + 1 ≤ w3.heap.size := by have := hg3.size; have := Z2.out; simp at *; omega
        have HXB : Hid ((Value.slice (some ⟨gb, 0, none⟩) (k + 2) cb).ownBlock ≠ some wr.heap.size) := by
          intro e
          cases e
          rcases bb with e | e
          · exact HXL.out e
          · have := Z2.out; simp at e; omega
        have HBX3 := hid ((HBB2.out.alloc _).grown hg3 HXL.out)
        have x31 : w3.cell? ⟨wr.heap.size, 2, none⟩ = some (.slice none 0 0) := HBX3.out.cell 2
        have f31 := HBX3.out.frozen 2
        have HB3 := hid ((HB2'.out.alloc (by have := HBK.out.Sw; have := HBl.out.size; have := Z2.out; omega) _).grown hg3 (by have := HBK.out.Sw; have := HBl.out.size; have := Z2.out; simp; omega) (fun g' e => HLS.out g' e))
        have HS3 := hid (owns_setCell hl3 (o := 2) (u := .slice (some ⟨gb, 0, none⟩) (k + 2) cb) HXL.out)
        have HA3 := hid (((HA2.out.alloc _).mark (by omega) hg3 hk3).setCell wr.heap.size 2 (.slice (some ⟨gb, 0, none⟩) (k + 2) cb) HXA.out)
        have HBv3 := hid (fb3.setCell wr.heap.size 2 (.slice (some ⟨gb, 0, none⟩) (k + 2) cb) HXB.out)
        have HBB3 := hid (show BoxIs (w3.setCell ⟨wr.heap.size, 2, none⟩ (.slice (some ⟨gb, 0, none⟩) (k + 2) cb)) wr.heap.size (.slice (some ⟨g, 0, none⟩) k cap) (.slice (some ⟨ga, 0, none⟩) (k + 1) ca) (.slice (some ⟨gb, 0, none⟩) (k + 2) cb) (.slice none 0 0) (.int .i64 m) from HBX3.out.set 2 _)
        have HB3' := hid (HB3.out.setCell (p := ⟨wr.heap.size, 2, none⟩) (by have := HBK.out.Sw; have := HBl.out.size; show _ ≤ wr.heap.size; omega) (.slice (some ⟨gb, 0, none⟩) (k + 2) cb))
        have Z3 := hid (show (w3.setCell ⟨wr.heap.size, 2, none⟩ (.slice (some ⟨gb, 0, none⟩) (k + 2) cb)).heap.size = w3.heap.size by simp [World.setCell])
        have BB := hid bb
        clear hl3 fb3 bb hg3 hk3 x21 f21
        go_wp2_with (at_builtin; go_must (refine wpList_mark _ rfl (.tmp 37) (.tmp 41) rfl B _ _ m rfl (HS3.out.alloc _) ⟨w3.heap.size, 0, none⟩ 3 3 rfl ?d1 (by decide) (by omega) ?_))
        case d1 =>
          intro j hj
          rw [addr_add0]
          match j, hj with
          | 0, _ => exact World.cell?_alloc_at _ _ _ _ Z3.out.symm
          | 1, _ => exact World.cell?_alloc_at _ _ _ _ Z3.out.symm
          | 2, _ => exact World.cell?_alloc_at _ _ _ _ Z3.out.symm
        intro gc cc w4 hl4 fc4 bc hg4 hk4
        have sz4 : w3.heap.size + 1 ≤ w4.heap.size := by have := hg4.size; have := Z3.out; simp at *; omega
        have HXC : Hid ((Value.slice (some ⟨gc, 0, none⟩) (k + 3) cc).ownBlock ≠ some wr.heap.size) := by
          intro e
          cases e
          rcases bc with e | e
          · exact HXL.out e
          · have := Z3.out; simp at e; omega
        have HBX4 := hid ((HBB3.out.alloc _).grown hg4 HXL.out)
        have x41 : w4.cell? ⟨wr.heap.size, 3, none⟩ = some (.slice none 0 0) := HBX4.out.cell 3
        have f41 := HBX4.out.frozen 3
        have HB4 := hid (((HB3'.out.alloc (by have := HBK.out.Sw; have := HBl.out.size; have := Z3.out; omega) _).grown hg4 (by have := HBK.out.Sw; have := HBl.out.size; have := Z3.out; simp; omega) (fun g' e => HLS.out g' e)).setCell (p := ⟨wr.heap.size, 3, none⟩) (by have := HBK.out.Sw; have := HBl.out.size; show _ ≤ wr.heap.size; omega) (.slice (some ⟨gc, 0, none⟩) (k + 3) cc))
        have HL4 := hid (fullN_of (owns_setCell hl4 (o := 3) (u := .slice (some ⟨gc, 0, none⟩) (k + 3) cc) HXL.out))
        have HA4 := hid (((HA3.out.alloc _).mark (by omega) hg4 hk4).setCell wr.heap.size 3 (.slice (some ⟨gc, 0, none⟩) (k + 3) cc) HXA.out)
        have HB4v := hid (((HBv3.out.alloc _).mark (by omega) hg4 hk4).setCell wr.heap.size 3 (.slice (some ⟨gc, 0, none⟩) (k + 3) cc) HXB.out)
        have HC4 := hid (fc4.setCell wr.heap.size 3 (.slice (some ⟨gc, 0, none⟩) (k + 3) cc) HXC.out)
        have HBB4 := hid (show BoxIs (w4.setCell ⟨wr.heap.size, 3, none⟩ (.slice (some ⟨gc, 0, none⟩) (k + 3) cc)) wr.heap.size (.slice (some ⟨g, 0, none⟩) k cap) (.slice (some ⟨ga, 0, none⟩) (k + 1) ca) (.slice (some ⟨gb, 0, none⟩) (k + 2) cb) (.slice (some ⟨gc, 0, none⟩) (k + 3) cc) (.int .i64 m) from HBX4.out.set 3 _)
        have Z4 := hid (show (w4.setCell ⟨wr.heap.size, 3, none⟩ (.slice (some ⟨gc, 0, none⟩) (k + 3) cc)).heap.size = w4.heap.size by simp [World.setCell])
        have BC := hid bc
        clear hl4 fc4 bc hg4 hk4 x31 f31
        go_wp2
        have hXlt : wr.heap.size < (w4.setCell ⟨wr.heap.size, 3, none⟩ (.slice (some ⟨gc, 0, none⟩) (k + 3) cc)).heap.size := (Array.getElem?_eq_some_iff.1 HBB4.out).1
        have HSA := hid (show S ≤ ga by
          rcases BA.out with e | e
          · exact HLS.out _ e
          · have := HBK.out.Sw; have := HBl.out.size; omega)
        have HSB := hid (show S ≤ gb by
          rcases BB.out with e | e
          · exact HLS.out _ e
          · have := HBK.out.Sw; have := HBl.out.size; have := Z2.out; omega)
        have HSC := hid (show S ≤ gc by
          rcases BC.out with e | e
          · exact HLS.out _ e
          · have := HBK.out.Sw; have := HBl.out.size; have := Z3.out; omega)
        obtain ⟨X, hX⟩ : ∃ X, X = wr.heap.size := ⟨_, rfl⟩
        have hXS : S ≤ X := by have := HBK.out.Sw; have := HBl.out.size; omega
        rw [← hX] at HBB4 HL4 HA4 HB4v HC4 HB4 hXlt HXL HXA HXB HXC ⊢
        have HX := hid hX
        clear hX x41 f41 HB2 HB3 HB2' HB3' HBX2 HBX3 HBX4 HBX0 HS2 HS3 HA2 HA3 HBv3 HBB2 HBB3 sz2 sz3 sz4 Z2 Z3 Z4
        obtain ⟨W4, hW4⟩ : ∃ W4, W4 = w4.setCell ⟨X, 3, none⟩ (.slice (some ⟨gc, 0, none⟩) (k + 3) cc) := ⟨_, rfl⟩
        rw [← hW4] at HBB4 HL4 HA4 HB4v HC4 HB4 hXlt ⊢
        clear hW4
        have cbk : W4.cell? ⟨bk, 0, none⟩ = some (.slice a1 N c1) := (HB4.out.cell (by exact HBK.out.bS)).trans c0
        have fbk : W4.frozen? ⟨bk, 0, none⟩ = false := (HB4.out.frozen (by exact HBK.out.bS)).trans (HBK.out.f0 0)
        have y0 : W4.cell? ⟨X, 0, none⟩ = some (.slice (some ⟨g, 0, none⟩) k cap) := HBB4.out.cell 0
        have y1 : W4.cell? ⟨X, 1, none⟩ = some (.slice (some ⟨ga, 0, none⟩) (k + 1) ca) := HBB4.out.cell 1
        have y2 : W4.cell? ⟨X, 2, none⟩ = some (.slice (some ⟨gb, 0, none⟩) (k + 2) cb) := HBB4.out.cell 2
        have y3 : W4.cell? ⟨X, 3, none⟩ = some (.slice (some ⟨gc, 0, none⟩) (k + 3) cc) := HBB4.out.cell 3
        have y4 : W4.cell? ⟨X, 4, none⟩ = some (.int .i64 m) := HBB4.out.cell 4
        have HOW := hid (show W4.ownsRow B 87 5 (.slice a1 N c1) N es.flatten by
          have h := owns_belowS HBK.out.own HB4.out (fun g' e => (HBK.out.vS g' e).1)
          rw [HVI.out, ← HN.out] at h
          exact h)
        have hbkW : bk < W4.heap.size := by have := HBK.out.bS; omega
        have hne : ¬ bk = X := by have := HBK.out.bS; omega
        obtain ⟨i8, hi8, hz80, hz81, hz82⟩ := info_parts Tryz.info87
        have NW := hid (news5 W4 (.slice (some ⟨g, 0, none⟩) k cap) (.slice (some ⟨ga, 0, none⟩) (k + 1) ca) (.slice (some ⟨gb, 0, none⟩) (k + 2) cb) (.slice (some ⟨gc, 0, none⟩) (k + 3) cc) (.int .i64 m))
        have VK := hid (show ∀ g', (Value.slice a1 N c1).ownBlock = some g' → g' ≠ bk ∧ g' ≠ X by
          intro g' e
          have := HBK.out.vS g' (by rw [HVI.out, ← HN.out]; exact e)
          omega)
        have NB := hid (show B ≤ (W4.alloc (.cells #[.slice (some ⟨g, 0, none⟩) k cap, .slice (some ⟨ga, 0, none⟩) (k + 1) ca, .slice (some ⟨gb, 0, none⟩) (k + 2) cb, .slice (some ⟨gc, 0, none⟩) (k + 3) cc, .int .i64 m] 87)).drew.heap.size by have := HBK.out.bB; have := HBK.out.bS; show _ ≤ (W4.alloc _).heap.size; simp; omega)
        have NH := hid (show (W4.alloc (.cells #[.slice (some ⟨g, 0, none⟩) k cap, .slice (some ⟨ga, 0, none⟩) (k + 1) ca, .slice (some ⟨gb, 0, none⟩) (k + 2) cb, .slice (some ⟨gc, 0, none⟩) (k + 3) cc, .int .i64 m] 87)).drew.heap.size = W4.heap.size + 1 by show (W4.alloc _).heap.size = _; simp)
        have N1 := hid (show ∀ u ∈ [.slice (some ⟨g, 0, none⟩) k cap, .slice (some ⟨ga, 0, none⟩) (k + 1) ca, .slice (some ⟨gb, 0, none⟩) (k + 2) cb, .slice (some ⟨gc, 0, none⟩) (k + 3) cc, Value.int .i64 m], u.oneCell' = true by
          intro u hu
          simp at hu
          rcases hu with rfl | rfl | rfl | rfl | rfl <;> rfl)
        have CB := hid (show (W4.alloc (.cells #[.slice (some ⟨g, 0, none⟩) k cap, .slice (some ⟨ga, 0, none⟩) (k + 1) ca, .slice (some ⟨gb, 0, none⟩) (k + 2) cb, .slice (some ⟨gc, 0, none⟩) (k + 3) cc, .int .i64 m] 87)).drew.cell? ⟨bk, 0, none⟩ = some (.slice a1 N c1) from (((Below.refl W4.heap.size W4).alloc (Nat.le_refl _) _).drew.cell (p := ⟨bk, 0, none⟩) hbkW).trans cbk)
        have FB := hid (show (W4.alloc (.cells #[.slice (some ⟨g, 0, none⟩) k cap, .slice (some ⟨ga, 0, none⟩) (k + 1) ca, .slice (some ⟨gb, 0, none⟩) (k + 2) cb, .slice (some ⟨gc, 0, none⟩) (k + 3) cc, .int .i64 m] 87)).drew.frozen? ⟨bk, 0, none⟩ = false from (((Below.refl W4.heap.size W4).alloc (Nat.le_refl _) _).drew.frozen (p := ⟨bk, 0, none⟩) hbkW).trans fbk)
        have VB := hid (show some bk ≠ (Value.slice a1 N c1).ownBlock from fun e => (VK.out bk e.symm).1 rfl)
        go_region_law ((refine step_append_far _ (by rfl) (.tmp 48) (.tmp 50) 56 (by rfl) B 87 i8 (.agg #[.slice none 0 0, .slice none 0 0, .slice none 0 0, .slice none 0 0, .int .i64 0]) 5 104 Tryz.underlying56 hi8 hz80 hz81 hz82 (by rfl) (by decide) (.slice a1 N c1) N es.flatten (by rfl) (HOW.out.alloc _) ⟨W4.heap.size, 0, none⟩ 1 1 [.slice (some ⟨g, 0, none⟩) k cap, .slice (some ⟨ga, 0, none⟩) (k + 1) ca, .slice (some ⟨gb, 0, none⟩) (k + 2) cb, .slice (some ⟨gc, 0, none⟩) (k + 3) cc, .int .i64 m] (by rfl) (by rfl) NW.out N1.out (by decide) (by unfold maxLen; omega) (by omega) NB.out (W4.heap.size + 1) NH.out ?_; intro gi ci w9 hown9 hgrow9 hat hlt9; have cb9 := hgrow9.cell (a := ⟨bk, 0, none⟩) CB.out VB.out; have fb9 := (frozen_grown hgrow9 (b := bk) 0 (by rw [NH.out]; omega) VB.out).trans FB.out))
        all_goals
          have HX4 := hid (hx4 (K := k + 3) (fullN_le HL4.out (by omega)) (fullN_le HA4.out (by omega)) (fullN_le HB4v.out (by omega)) (fullN_le HC4.out (by omega)) HLS.out HSA.out HSB.out HSC.out)
          have HPOST := hid (bk_post HBK.out HN.out HM.out HB4.out (by omega) HX4.out (by rw [HVI.out, ← HN.out]; exact hgrow9) hown9 (by rw [HVI.out, ← HN.out]; exact hat) hlt9)
          clear cb9 fb9 hown9 hgrow9 hat hlt9 y0 y1 y2 y3 y4 cbk fbk c0
          go_end0
          exact ⟨rfl, _, _, HPOST.out.1, HPOST.out.2.1, HPOST.out.2.2⟩
end Go.Proofs.YtdbebbbceeopaaaGreat

set_option linter.unusedSimpArgs false
namespace Go.Proofs.YtdbebbbceeopaaaGreat
open Go.RowKit

theorem flat_get (es : List (List Value)) (h5 : ∀ (i : Nat) (e : List Value), es[i]? = some e → e.length = 5) : ∀ (i : Nat) (e : List Value), es[i]? = some e → ∀ j, j < 5 → es.flatten[i * 5 + j]? = e[j]? := by
  induction es with
  | nil => intro i e h; simp at h
  | cons x r ih =>
    intro i e hi j hj
    have hx : x.length = 5 := h5 0 x rfl
    have hr : ∀ (i : Nat) (e : List Value), r[i]? = some e → e.length = 5 := fun i e h => h5 (i + 1) e (by simpa using h)
    cases i with
    | zero =>
      simp at hi
      subst hi
      rw [List.flatten_cons, Nat.zero_mul, Nat.zero_add, List.getElem?_append_left (by omega)]
    | succ i =>
      have := ih hr i e (by simpa using hi) j hj
      rw [List.flatten_cons, List.getElem?_append_right (by omega), hx, show (i + 1) * 5 + j - 5 = i * 5 + j by omega]
      exact this

theorem Full.shape {w : World} {v : Value} {m : Int} (h : Full w v m) : ∃ p n c, v = .slice p n c := by
  rcases h with ⟨c, rfl⟩ | ⟨g, n, c, rfl, _⟩
  · exact ⟨_, _, _, rfl⟩
  · exact ⟨_, _, _, rfl⟩

theorem Full.below {w w' : World} {v : Value} {m : Int} (h : Full w v m) (hb : Below w.heap.size w w') : Full w' v m := by
  rcases h with h | ⟨g, n, c, h1, h2, h3, h4⟩
  · exact Or.inl h
  · exact Or.inr ⟨g, n, c, h1, h2, Nat.lt_of_lt_of_le h3 hb.size, fun j hj => (hb.cell (by exact h3)).trans (h4 j hj)⟩

set_option maxRecDepth 100000 in
set_option maxHeartbeats 2000000 in
theorem looks_any (w : World) (B S bk : Nat) (vi : Value) (es : List (List Value)) (hB : Bk w B S bk vi es) (he : es.length ≤ 1466015504000) :
    Calls Tryz.prog 31 #[.pointer (some ⟨bk, 0, none⟩)] w fun e w' => e = .returned (.bool true) ∧ Below w.heap.size w w' := by
  obtain ⟨a1, c1, hvi⟩ := owns_len68 hB.own
  have HBK := hid hB
  have hbk : bk < w.heap.size := Nat.lt_of_lt_of_le hB.bS hB.Sw
  have HC0 : Hid (w.cell? ⟨bk, 0, none⟩ = some (.slice a1 es.length c1)) := by rw [← hvi]; exact hB.c0
  have HC1 := hid hB.c1
  have HVI := hid hvi
  clear hB hvi
  obtain ⟨N, hN⟩ : ∃ N, N = es.length := ⟨_, rfl⟩
  have HN := hid hN
  rw [← hN] at HC0 he
  clear hN
  go_enter Tryz.func31, Tryz.ntmps31
  go_wp2
  go_loopw [3] (fun i wr => ∃ k : Nat, k ≤ N ∧ i = .int .i64 k ∧ Below w.heap.size w wr) (fun i _ => N - (intOf i).toNat)
  case atStart => exact ⟨0, Nat.zero_le _, rfl, Below.refl _ _⟩
  case round =>
    obtain ⟨k, hk, rfl, hb⟩ := hrel
    have cb := (hb.cell (p := ⟨bk, 0, none⟩) hbk).trans HC0.out
    have cb1 := (hb.cell (p := ⟨bk, 1, none⟩) hbk).trans HC1.out
    by_cases hkN : k < N
    · obtain ⟨e, hek⟩ : ∃ e, es[k]? = some e := ⟨_, List.getElem?_eq_getElem (by rw [← HN.out]; exact hkN)⟩
      obtain ⟨l, a, b, c, rfl, hx⟩ := HBK.out.ent k e hek
      have h5 : ∀ (i : Nat) (e : List Value), es[i]? = some e → e.length = 5 := by
        intro i e h
        obtain ⟨_, _, _, _, rfl, _⟩ := HBK.out.ent i e h
        rfl
      have hfl := flat_get es h5 k _ hek
      have hown := HBK.out.own
      rcases hown.2 with ⟨_, h0⟩ | ⟨gi, cap, cur, hv, _, hh, _⟩
      · have := HN.out; omega
      · have hvv : (Value.slice a1 es.length c1) = .slice (some ⟨gi, 0, none⟩) es.length cap := by rw [← HVI.out]; exact hv
        simp only [Value.slice.injEq, true_and] at hvv
        obtain ⟨rfl, rfl⟩ := hvv
        rw [hv] at hown
        have hgi := (Array.getElem?_eq_some_iff.1 hh).1
        have ec : ∀ j, j < 5 → wr.cell? ⟨gi, k * 5 + j, none⟩ = [l, a, b, c, .int .i64 (-1000 - (k : Int))][j]? := by
          intro j hj
          rw [hb.cell (by exact hgi), hown.cellAt (k * 5 + j) (by rw [← HN.out]; omega), hfl j hj]
        have e0 : wr.cell? ⟨gi, k * 5, none⟩ = some l := ec 0 (by omega)
        have e1 : wr.cell? ⟨gi, k * 5 + 1, none⟩ = some a := ec 1 (by omega)
        have e2 : wr.cell? ⟨gi, k * 5 + 2, none⟩ = some b := ec 2 (by omega)
        have e3 : wr.cell? ⟨gi, k * 5 + 3, none⟩ = some c := ec 3 (by omega)
        have e4 : wr.cell? ⟨gi, k * 5 + 4, none⟩ = some (.int .i64 (-1000 - (k : Int))) := ec 4 (by omega)
        have fl := (hx l (by simp)).1
        have fa := (hx a (by simp)).1
        have fb := (hx b (by simp)).1
        have fc := (hx c (by simp)).1
        obtain ⟨p1, n1, q1, rfl⟩ := fl.shape
        obtain ⟨p2, n2, q2, rfl⟩ := fa.shape
        obtain ⟨p3, n3, q3, rfl⟩ := fb.shape
        obtain ⟨p4, n4, q4, rfl⟩ := fc.shape
        have F := hid (fun (W : World) (hW : Below w.heap.size w W) => And.intro (fullInts_any _ _ W (fl.below hW)) (And.intro (fullInts_any _ _ W (fa.below hW)) (And.intro (fullInts_any _ _ W (fb.below hW)) (fullInts_any _ _ W (fc.below hW)))))
        generalize -1000 - (k : Int) = m at *
        have HB := hid hb
        have hk' : (k : Int) < N := by omega
        clear hfl hown hh ec fl fa fb fc hx hek h5 hv hb
        have G := hid (F.out (wr.alloc (.cells #[.slice p1 n1 q1, .slice p2 n2 q2, .slice p3 n3 q3, .slice p4 n4 q4, .int .i64 m] 87)) (HB.out.alloc HB.out.size _))
        go_wp2_with fail
        refine (G.out.1).mono ?_
        rintro e w' ⟨rfl, rfl⟩
        go_wp2_with fail
        refine (G.out.2.1).mono ?_
        rintro e w' ⟨rfl, rfl⟩
        go_wp2_with fail
        refine (G.out.2.2.1).mono ?_
        rintro e w' ⟨rfl, rfl⟩
        go_wp2_with fail
        refine (G.out.2.2.2).mono ?_
        rintro e w' ⟨rfl, rfl⟩
        go_wp2_with fail
        go_roundw
        case rel => exact ⟨k + 1, by omega, by go_num, HB.out.alloc HB.out.size _⟩
        case measure => simp [intOf]; omega
    · have : k = N := by omega
      subst this
      have HB := hid hb
      clear hb
      go_wp2
      refine wp_loop_rounds 1 ?_
      rw [rounds_succ]
      go_wp2
      go_ret
      exact ⟨rfl, HB.out⟩
end Go.Proofs.YtdbebbbceeopaaaGreat
