import Derived.Test.YtdbebbbceeopaaaGreatG19
import Derived.Test.YtdbebbbceeopaaaGreatG13
import Derived.Test.YtdbebbbceeopaaaGreatG11
import Derived.Test.YtdbebbbceeopaaaGreatG14
set_option linter.unusedSimpArgs false
namespace Go.Proofs.YtdbebbbceeopaaaGreat
open Go.RowKit

theorem refI_ne {px py : Nat → Int} {n : Nat} (h : refI px py n = 0) : ∀ i j, i < n → j < n → i ≠ j → ¬ (px i = px j ∧ py i = py j) := by
  have ht : twB px py n = false := by
    cases h' : twB px py n with
    | false => rfl
    | true => simp [refI, h'] at h; split at h <;> simp_all
  intro i j hi hj hne ⟨e1, e2⟩
  have key : ∀ a b, a < n → b < a → px a = px b → py a = py b → False := by
    intro a b ha hb h1 h2
    have : twB px py n = true := (twB_iff px py n).2 ⟨a, ha, (twiceAt_iff px py a).2 ⟨b, hb, h1, h2⟩⟩
    rw [ht] at this
    cases this
  rcases Nat.lt_or_ge i j with h | h
  · exact key j i hj h e1.symm e2.symm
  · exact key i j hi (by omega) e1 e2

theorem refI_wide {px py : Nat → Int} {n : Nat} (h3 : 3 ≤ n) (h : refI px py n = 0) : ∃ i, i < n ∧ T px py 0 1 i ≠ 0 := by
  have hf : flatB px py (n - 2) = false := by
    cases h' : flatB px py (n - 2) with
    | false => rfl
    | true => simp [refI, h'] at h; split at h <;> (try split at h) <;> simp_all
  rcases Classical.em (∃ i, i < n ∧ T px py 0 1 i ≠ 0) with h1 | h1
  · exact h1
  · have : flatB px py (n - 2) = true := (flatB_iff px py (n - 2)).2 fun i hi => by
      rcases Classical.em (T px py 0 1 (i + 2) = 0) with h2 | h2
      · exact h2
      · exact absurd ⟨i + 2, by omega, h2⟩ h1
    rw [hf] at this
    cases this

def zx (zs : List Int) (i : Nat) : Int := zs.getD (i * 2) 0
def zy (zs : List Int) (i : Nat) : Int := zs.getD (i * 2 + 1) 0

theorem Src.pts {w : World} {v : Value} {n : Nat} {zs : List Int} (h : Src w v 2 n zs) (hn : 0 < n) : ∃ b o c, v = .slice (some ⟨b, o, none⟩) n c ∧ Pts w b o n (zx zs) (zy zs) := by
  obtain ⟨p, c, rfl⟩ : ∃ p c, v = .slice p n c := by obtain ⟨_, p, c, e, _⟩ := h; exact ⟨p, c, e⟩
  obtain ⟨b, o, rfl, hb, hc⟩ := h.at hn (by omega)
  exact ⟨b, o, c, rfl, hb, fun i hi => hc (i * 2) (by omega), fun i hi => hc (i * 2 + 1) (by omega)⟩

theorem owns_kept {w w' : World} {base : Nat} {e : TypeId} {size : Nat} {v : Value} {n : Nat} {xs : List Value} (h : w.ownsRow base e size v n xs) (hk : ∀ g, v.ownBlock = some g → w'.heap[g]? = w.heap[g]?) : w'.ownsRow base e size v n xs := by
  refine ⟨h.1, ?_⟩
  rcases h.2 with h0 | ⟨g, cap, cur, rfl, hb, hh, r⟩
  · exact .inl h0
  · exact .inr ⟨g, cap, cur, rfl, hb, (hk g rfl).trans hh, r⟩

theorem Src.kept {w w' : World} {v : Value} {sz n : Nat} {zs : List Int} (h : Src w v sz n zs) (hk : ∀ a c, v = .slice (some a) n c → 0 < n → w'.heap[a.block]? = w.heap[a.block]?) : Src w' v sz n zs := by
  obtain ⟨h1, p, c, rfl, h3, h4⟩ := h
  refine ⟨h1, p, c, rfl, h3, fun a ha j z hj => ?_⟩
  subst ha
  have hn : 0 < n := by
    rcases Nat.eq_zero_or_pos n with h | h
    · subst h
      rw [Nat.zero_mul] at h1
      rw [List.length_eq_zero_iff.1 h1] at hj
      simp at hj
    · exact h
  have e : (a.add j).block = a.block := by unfold Addr.add; split <;> rfl
  rw [World.cell?_of_block (w := w) (by rw [e]; exact hk a c rfl hn)]
  exact h4 a rfl j z hj

theorem pts_lent {w : World} {g n : Nat} {zs : List Int} (h : w.heap[g]? = some (.cells (ivs zs ++ List.replicate 6 (Value.int .i64 0)).toArray 35 (0, 0))) (hz : zs.length = n * 2) : Pts w g 0 n (zx zs) (zy zs) := by
  refine ⟨heap_lt h, fun i hi => ?_, fun i hi => ?_⟩
  · rw [Nat.zero_add, heap_cell h]
    simpa [zx] using lent_get zs 6 (i * 2) (by omega)
  · rw [Nat.zero_add, heap_cell h]
    simpa [zy] using lent_get zs 6 (i * 2 + 1) (by omega)

end Go.Proofs.YtdbebbbceeopaaaGreat

set_option linter.unusedSimpArgs false
namespace Go.Proofs.YtdbebbbceeopaaaGreat
open Go.RowKit

theorem Src.lt {w : World} {a : Addr} {sz n c m : Nat} {zs : List Int} (h : Src w (.slice (some a) n c) sz m zs) (hs : 0 < sz) (hn : 0 < n) : a.block < w.heap.size := by
  obtain ⟨h1, p, c', h2, h3, h4⟩ := h
  cases h2
  have hlen : 0 < zs.length := by rw [h1]; exact Nat.mul_pos hn hs
  have h0 := h4 a rfl 0 zs[0] (List.getElem?_eq_getElem hlen)
  have := World.block_lt_of_cell? w _ h0
  simpa [Addr.add] using this

/-- One step of a script, as it lies in memory. -/
structure OpAt (w : World) (b o : Nat) (kd x y : Int) (v1 v2 v3 : Value) (n1 n2 n3 : Nat) (z1 z2 z3 : List Int) : Prop where
  c0 : w.cell? ⟨b, o, none⟩ = some (.int .i64 kd)
  c1 : w.cell? ⟨b, o + 1, none⟩ = some v1
  c2 : w.cell? ⟨b, o + 2, none⟩ = some v2
  c3 : w.cell? ⟨b, o + 3, none⟩ = some v3
  c4 : w.cell? ⟨b, o + 4, none⟩ = some (.int .i64 x)
  c5 : w.cell? ⟨b, o + 5, none⟩ = some (.int .i64 y)
  h1 : n1 ≤ 8796093021952
  h2 : n2 ≤ 8796093021952
  h3 : n3 ≤ 8796093021952
  s1 : Src w v1 2 n1 z1
  s2 : Src w v2 2 n2 z2
  s3 : Src w v3 3 n3 z3

/-- A script. -/
def Ops (w : World) (p : Option Addr) (n : Nat) : Prop :=
  n ≤ 1466015503701 ∧ ∀ i, i < n → ∃ b o kd x y v1 v2 v3 n1 n2 n3 z1 z2 z3, p = some ⟨b, o, none⟩ ∧ OpAt w b (o + i * 6) kd x y v1 v2 v3 n1 n2 n3 z1 z2 z3

/-- The document's example: three corners. -/
theorem src_corners {w : World} {g : Nat} (h : ∀ j, w.cell? ⟨g, j, none⟩ = #[Value.int .i64 0, .int .i64 0, .int .i64 0, .int .i64 4, .int .i64 4, .int .i64 0][j]?) : Src w (.slice (some ⟨g, 0, none⟩) 3 3) 2 3 [0, 0, 0, 4, 4, 0] := by
  refine ⟨rfl, _, _, rfl, (fun e => by cases e), ?_⟩
  rintro a ha j z hj
  cases ha
  have e : (⟨g, 0, none⟩ : Addr).add j = ⟨g, j, none⟩ := by unfold Addr.add; split <;> simp_all
  rw [e, h j]
  have hl : j < 6 := by
    rcases Nat.lt_or_ge j 6 with h | h
    · exact h
    · rw [List.getElem?_eq_none (by simpa using h)] at hj; cases hj
  rcases (by omega : j = 0 ∨ j = 1 ∨ j = 2 ∨ j = 3 ∨ j = 4 ∨ j = 5) with rfl | rfl | rfl | rfl | rfl | rfl <;> (simp at hj; subst hj; rfl)

theorem src_one {w : World} {g : Nat} (h : ∀ j, w.cell? ⟨g, j, none⟩ = #[Value.int .i64 0, .int .i64 2, .int .i64 1][j]?) : Src w (.slice (some ⟨g, 0, none⟩) 1 1) 3 1 [0, 2, 1] := by
  refine ⟨rfl, _, _, rfl, (fun e => by cases e), ?_⟩
  rintro a ha j z hj
  cases ha
  have e : (⟨g, 0, none⟩ : Addr).add j = ⟨g, j, none⟩ := by unfold Addr.add; split <;> simp_all
  rw [e, h j]
  have hl : j < 3 := by
    rcases Nat.lt_or_ge j 3 with h | h
    · exact h
    · rw [List.getElem?_eq_none (by simpa using h)] at hj; cases hj
  rcases (by omega : j = 0 ∨ j = 1 ∨ j = 2) with rfl | rfl | rfl <;> (simp at hj; subst hj; rfl)

theorem src_nil (w : World) (sz : Nat) : Src w (.slice none 0 0) sz 0 [] := ⟨by simp, none, 0, rfl, fun _ => rfl, fun a h => by cases h⟩

end Go.Proofs.YtdbebbbceeopaaaGreat

set_option linter.unusedSimpArgs false
namespace Go.Proofs.YtdbebbbceeopaaaGreat
open Go.RowKit

set_option maxRecDepth 100000 in
set_option maxHeartbeats 1000000 in
theorem corners_kd (kd : Int) (w : World) :
    Calls Tryz.prog 30 #[.int .i64 kd] w fun e w' => Below w.heap.size w w' ∧ w.heap.size + 2 < w'.heap.size ∧
      e = .returned (.agg #[.int .i64 kd, .slice (some ⟨w.heap.size + 1, 0, none⟩) 3 3, .slice none 0 0, .slice (some ⟨w.heap.size + 2, 0, none⟩) 1 1, .int .i64 1, .int .i64 1]) ∧
      (∀ j, w'.cell? ⟨w.heap.size + 1, j, none⟩ = #[.int .i64 0, .int .i64 0, .int .i64 0, .int .i64 4, .int .i64 4, .int .i64 0][j]?) ∧ (∀ j, w'.cell? ⟨w.heap.size + 2, j, none⟩ = #[.int .i64 0, .int .i64 2, .int .i64 1][j]?) := by
  go_enter Tryz.func30, Tryz.ntmps30
  go_wp2
  refine bodyPost_ret (v := .agg #[.int .i64 kd, .slice (some ⟨w.heap.size + 1, 0, none⟩) 3 3, .slice none 0 0, .slice (some ⟨w.heap.size + 2, 0, none⟩) 1 1, .int .i64 1, .int .i64 1]) ?r rfl ?q
  case r => simp [results, Tryz.results30, go_sem]
  case q =>
    refine ⟨(((Below.refl _ _).alloc (Nat.le_refl _) _).alloc (by simp) _).alloc (by simp; omega) _, by simp, rfl, fun j => ?_, fun j => ?_⟩
    · rw [World.cell?_alloc_past _ _ _ (by simp), World.cell?_alloc_at _ _ _ _ (by simp)]
    · rw [World.cell?_alloc_at _ _ _ _ (by simp)]

end Go.Proofs.YtdbebbbceeopaaaGreat

set_option linter.unusedSimpArgs false
namespace Go.Proofs.YtdbebbbceeopaaaGreat
open Go.RowKit

/-! The law's book, of lists of triangles: as of lists of numbers, three cells each. -/

/-- The cell numbered j of a list of triangles that are the mark. -/
def mc (m : Int) (j : Nat) : Value := if j % 3 = 0 then .int .i64 m else .int .i64 0
def marks3 (n : Nat) (m : Int) : List Value := (List.range (n * 3)).map (mc m)

theorem marks3_len (n : Nat) (m : Int) : (marks3 n m).length = n * 3 := by simp [marks3]
theorem marks3_get {k j : Nat} {m : Int} (h : j < k * 3) : (marks3 k m)[j]? = some (mc m j) := by simp [marks3, h]
theorem marks3_get' {k j : Nat} {m : Int} {u : Value} (h : (marks3 k m)[j]? = some u) : j < k * 3 ∧ u = mc m j := by
  by_cases hj : j < k * 3
  · rw [marks3_get hj] at h; cases h; exact ⟨hj, rfl⟩
  · rw [List.getElem?_eq_none (by rw [marks3_len]; omega)] at h; cases h
theorem mc_one (m : Int) (j : Nat) : (mc m j).oneCell' = true := by unfold mc; split <;> rfl
theorem mc_shift (m : Int) (n j : Nat) : mc m (n * 3 + j) = mc m j := by unfold mc; rw [show (n * 3 + j) % 3 = j % 3 by omega]

theorem marks3_append (n k : Nat) (m : Int) : marks3 n m ++ marks3 k m = marks3 (n + k) m := by
  apply List.ext_getElem?
  intro j
  by_cases h1 : j < n * 3
  · rw [List.getElem?_append_left (by rw [marks3_len]; exact h1), marks3_get h1, marks3_get (by omega)]
  · rw [List.getElem?_append_right (by rw [marks3_len]; omega), marks3_len]
    by_cases h2 : j < (n + k) * 3
    · rw [marks3_get h2, marks3_get (by omega)]
      have := mc_shift m n (j - n * 3)
      rw [show n * 3 + (j - n * 3) = j by omega] at this
      rw [this]
    · rw [List.getElem?_eq_none (by rw [marks3_len]; omega), List.getElem?_eq_none (by rw [marks3_len]; omega)]

theorem marks3_take (n N : Nat) (m : Int) (h : n ≤ N) : (marks3 N m).take (n * 3) = marks3 n m := by
  obtain ⟨k, rfl⟩ : ∃ k, N = n + k := ⟨N - n, by omega⟩
  rw [← marks3_append, List.take_left' (marks3_len n m)]

theorem own_prefix3 {w : World} {B g N cap n : Nat} {m : Int} (h : w.ownsRow B 46 3 (.slice (some ⟨g, 0, none⟩) N cap) N (marks3 N m)) (hn : n ≤ N) : w.ownsRow B 46 3 (.slice (some ⟨g, 0, none⟩) n cap) n (marks3 n m) := by
  refine ⟨marks3_len n m, ?_⟩
  rcases h.2 with ⟨h0, _⟩ | ⟨g', cap', cur, hv, hb, hh, hN, hc, hs, ht⟩
  · cases h0
  · cases hv
    refine .inr ⟨g, cap, cur, rfl, hb, hh, by omega, hc, hs, ?_⟩
    have : cur.toList.take (n * 3) = (cur.toList.take (N * 3)).take (n * 3) := by rw [List.take_take, Nat.min_eq_left (by omega)]
    rw [this, ht, marks3_take n N m hn]

/-- A list of triangles all of whose cells are the mark's. -/
def Full3 (w : World) (v : Value) (m : Int) : Prop :=
  (∃ c, v = .slice none 0 c) ∨ ∃ g n c, v = .slice (some ⟨g, 0, none⟩) n c ∧ n ≤ 1000000 ∧ g < w.heap.size ∧ ∀ j, j < n * 3 → w.cell? ⟨g, j, none⟩ = some (mc m j)

def FullN3 (w : World) (v : Value) (m : Int) (n : Nat) : Prop := (∃ c, v = .slice none 0 c) ∨ ∃ g n' c, v = .slice (some ⟨g, 0, none⟩) n' c ∧ n' ≤ n ∧ g < w.heap.size ∧ ∀ j, j < n' * 3 → w.cell? ⟨g, j, none⟩ = some (mc m j)

theorem FullN3.mark {w w' : World} {v l : Value} {m : Int} {n N : Nat} (h : FullN3 w v m n) (hn : n ≤ N) (hg : w.grownBy w' l.ownBlock) (hk : ∀ g j, l.ownBlock = some g → j < N * 3 → w.cell? ⟨g, j, none⟩ = some (mc m j) → w'.cell? ⟨g, j, none⟩ = some (mc m j)) : FullN3 w' v m n := by
  rcases h with h | ⟨g, n', c, h1, h2, h3, h4⟩
  · exact Or.inl h
  · refine Or.inr ⟨g, n', c, h1, h2, Nat.lt_of_lt_of_le h3 hg.size, fun j hj => ?_⟩
    by_cases e : l.ownBlock = some g
    · exact hk g j e (by omega) (h4 j hj)
    · exact hg.cell (a := ⟨g, j, none⟩) (h4 j hj) (fun e' => e e'.symm)

theorem FullN3.alloc {w : World} {v : Value} {m : Int} {n : Nat} (h : FullN3 w v m n) (o : Obj) : FullN3 (w.alloc o) v m n := by
  rcases h with h | ⟨g, n', c, h1, h2, h3, h4⟩
  · exact Or.inl h
  · refine Or.inr ⟨g, n', c, h1, h2, by simp; omega, fun j hj => ?_⟩
    exact (((Below.refl w.heap.size w).alloc (Nat.le_refl _) o).cell (p := ⟨g, j, none⟩) h3).trans (h4 j hj)

theorem FullN3.setCell {w : World} {v : Value} {m : Int} {n : Nat} (h : FullN3 w v m n) (X o : Nat) (u : Value) (hX : v.ownBlock ≠ some X) : FullN3 (w.setCell ⟨X, o, none⟩ u) v m n := by
  rcases h with h | ⟨g, n', c, rfl, h2, h3, h4⟩
  · exact Or.inl h
  · refine Or.inr ⟨g, n', c, rfl, h2, by simpa [World.setCell] using h3, fun j hj => ?_⟩
    rw [World.cell?_setCell_other _ _ _ _ (by intro e; cases e; exact hX rfl)]
    exact h4 j hj

theorem fullN3_of {w : World} {B : Nat} {v : Value} {n : Nat} {m : Int} (h : w.ownsRow B 46 3 v n (marks3 n m)) : FullN3 w v m n := by
  rcases h.2 with ⟨rfl, _⟩ | ⟨g, cap, cur, rfl, _, hh, _⟩
  · exact Or.inl ⟨0, rfl⟩
  · refine Or.inr ⟨g, n, cap, rfl, Nat.le_refl _, (Array.getElem?_eq_some_iff.1 hh).1, fun j hj => ?_⟩
    rw [h.cellAt j hj, marks3_get hj]

theorem shape3 {w : World} {base n : Nat} {v : Value} {xs : List Value} (h : w.ownsRow base 46 3 v n xs) (hn : 0 < n) : ∃ g c, v = .slice (some ⟨g, 0, none⟩) n c ∧ base ≤ g ∧ g < w.heap.size ∧ n ≤ c := by
  rcases h.2 with ⟨_, rfl⟩ | ⟨g', cap', cur, h', hb, hg, hc, _⟩
  · omega
  · exact ⟨g', cap', h', hb, (Array.getElem?_eq_some_iff.1 hg).1, hc⟩

theorem wpList_mark3 {ops : Array Oper} {rest : List Oper} {o : Oper} {a : Act} {Q : Exit → Act → World → Prop} (w : World) (hgd : o.guard = none) (s x : Operand)
    (ho : o.op = .call { callee := .builtin .append, args := #[s, x], argTypes := #[28, 28] })
    (B : Nat) (l : Value) (n : Nat) (m : Int) (hs : a.eval s = l) (hS : w.ownsRow B 46 3 l n (marks3 n m)) (ad : Addr) (k c : Nat) (hx : a.eval x = .slice (some ad) k c) (hnews : ∀ j, j < k * 3 → w.cell? (ad.add j) = some (mc m j)) (hk : 0 < k) (hn : n + k ≤ 1000000)
    (hK : ∀ ga ca w', w'.ownsRow B 46 3 l n (marks3 n m) → FullN3 w' (.slice (some ⟨ga, 0, none⟩) (n + k) ca) m (n + k) → (l.ownBlock = some ga ∨ w.heap.size ≤ ga) → w.grownBy w' l.ownBlock → (∀ g j, l.ownBlock = some g → j < (n + k) * 3 → w.cell? ⟨g, j, none⟩ = some (mc m j) → w'.cell? ⟨g, j, none⟩ = some (mc m j)) → wpList Tryz.prog ops Q rest (a.put o.dst (.slice (some ⟨ga, 0, none⟩) (n + k) ca)) w') :
    wpList Tryz.prog ops Q (o :: rest) a w := by
  obtain ⟨i0, hi, hz0, hz1, hz2⟩ := info_parts Tryz.info46
  have hc : ∀ j u, (marks3 k m)[j]? = some u → w.cell? (ad.add j) = some u := by
    intro j u hj
    obtain ⟨h1, rfl⟩ := marks3_get' hj
    exact hnews j h1
  have h1c : ∀ u ∈ marks3 k m, u.oneCell' = true := by
    intro u hu
    unfold marks3 at hu
    obtain ⟨j, _, rfl⟩ := List.mem_map.1 hu
    exact mc_one m j
  have fin : ∀ (v' : Value) (w' : World), w'.ownsRow w.heap.size 46 3 v' (n + k) (marks3 (n + k) m) → w.grownBy w' none → w'.ownsRow B 46 3 l n (marks3 n m) → (∀ g j, l.ownBlock = some g → j < (n + k) * 3 → w.cell? ⟨g, j, none⟩ = some (mc m j) → w'.cell? ⟨g, j, none⟩ = some (mc m j)) → wpList Tryz.prog ops Q rest (a.put o.dst v') w' := by
    intro v' w' h hg hl hkk
    obtain ⟨g, cap, rfl, hb, _⟩ := shape3 h (by omega)
    exact hK g cap w' hl (fullN3_of h) (Or.inr hb) (grownBy_wider hg _) hkk
  have kn : ∀ (w' : World), w.grownBy w' none → ∀ g j, l.ownBlock = some g → j < (n + k) * 3 → w.cell? ⟨g, j, none⟩ = some (mc m j) → w'.cell? ⟨g, j, none⟩ = some (mc m j) := fun w' hg g j _ _ h => hg.cell h (by simp)
  rcases hS.2 with ⟨rfl, rfl⟩ | ⟨g, cap, cur, rfl, _, hh, _⟩
  · refine wpList_append_grows w hgd s x 28 ho 46 i0 (.agg #[.int .i64 0, .int .i64 0, .int .i64 0]) 3 24 Tryz.underlying28 hi hz0 hz1 hz2 rfl (by decide) none 0 0 [] hs (fun _ => ⟨rfl, rfl⟩) rfl (fun b hb => by cases hb) ad k c (marks3 k m) hx (marks3_len k m) hc h1c (by omega) (by unfold maxLen; omega) (by omega) ?_
    intro v' w' ho' hg
    rw [List.nil_append] at ho'
    have hom : w'.ownsRow w.heap.size 46 3 v' (0 + k) (marks3 (0 + k) m) := by rw [Nat.zero_add] at ho' ⊢; exact ho'
    exact fin v' w' hom hg (World.ownsRow_nil _ _ _ _) (kn w' hg)
  · by_cases hfit : n + k ≤ cap
    · refine wpList_append_fits w hgd s x 28 ho B 46 i0 3 Tryz.underlying28 hi hz1 g n cap (marks3 n m) hs hS ad k c (marks3 k m) hx (marks3_len k m) hc h1c hfit ?_
      intro w' ho' hg
      rw [marks3_append] at ho'
      refine hK g cap w' (own_prefix3 ho' (by omega)) (fullN3_of ho') (Or.inl rfl) hg ?_
      intro g' j hg' hj _
      cases hg'
      rw [ho'.cellAt j hj, marks3_get hj]
    · refine wpList_append_grows w hgd s x 28 ho 46 i0 (.agg #[.int .i64 0, .int .i64 0, .int .i64 0]) 3 24 Tryz.underlying28 hi hz0 hz1 hz2 rfl (by decide) (some ⟨g, 0, none⟩) n cap (marks3 n m) hs (fun h => by cases h) (marks3_len n m) ?_ ad k c (marks3 k m) hx (marks3_len k m) hc h1c (by omega) (by unfold maxLen; omega) (by omega) ?_
      · intro b hb j u hj
        cases hb
        exact hS.cells (g := g) rfl j u hj
      · intro v' w' ho' hg
        rw [marks3_append] at ho'
        exact fin v' w' ho' hg (hS.kept hg (Or.inr (by simp [Value.ownBlock]))) (kn w' hg)
end Go.Proofs.YtdbebbbceeopaaaGreat

set_option linter.unusedSimpArgs false
namespace Go.Proofs.YtdbebbbceeopaaaGreat
open Go.RowKit

theorem Tryz.info89 : (Tryz.prog.info? 89).map (fun i => (i.zero, i.size, i.bytes)) = some (some (.agg #[.slice none 0 0, .slice none 0 0, .slice none 0 0, .slice none 0 0, .int .i64 0]), 5, 104) := by kernel_rfl

theorem owns_len89 {w : World} {base : Nat} {v : Value} {n : Nat} {xs : List Value} (h : w.ownsRow base 89 5 v n xs) : ∃ a c, v = .slice a n c := by
  rcases h.2 with ⟨rfl, rfl⟩ | ⟨g', cap', cur, h', _⟩
  · exact ⟨_, _, rfl⟩
  · exact ⟨_, _, h'⟩

/-- What the law's book knows: its lists, each full of its own mark, in arrays of their own. -/
structure Bt (w : World) (B S bk : Nat) (vi : Value) (es : List (List Value)) (vt : Value := .slice none 0 0) : Prop where
  bB : B ≤ bk
  bS : bk < S
  Sw : S ≤ w.heap.size
  c1 : w.cell? ⟨bk, 1, none⟩ = some vi
  f1 : ∀ o, w.frozen? ⟨bk, o, none⟩ = false
  c0 : w.cell? ⟨bk, 0, none⟩ = some vt
  own : w.ownsRow B 89 5 vi es.length es.flatten
  vS : ∀ g, vi.ownBlock = some g → g < S ∧ g ≠ bk
  ent : ∀ (i : Nat) (e : List Value), es[i]? = some e → ∃ l a b c, e = [l, a, b, c, .int .i64 (-1000 - (i : Int))] ∧ ∀ x ∈ [l, a, b, c], Full3 w x (-1000 - (i : Int)) ∧ ∀ g, x.ownBlock = some g → g < S ∧ g ≠ bk ∧ vi.ownBlock ≠ some g

/-- A block of five cells, the law's own 'Threes', whole. -/
def BoxT (w : World) (X : Nat) (a b c d e : Value) : Prop := w.heap[X]? = some (.cells #[a, b, c, d, e] 89 (0, 0))

theorem BoxT.cell {w : World} {X : Nat} {a b c d e : Value} (h : BoxT w X a b c d e) (i : Nat) : w.cell? ⟨X, i, none⟩ = #[a, b, c, d, e][i]? := by
  unfold BoxT at h
  simp [World.cell?, h]

theorem BoxT.frozen {w : World} {X : Nat} {a b c d e : Value} (h : BoxT w X a b c d e) (i : Nat) : w.frozen? ⟨X, i, none⟩ = false := by
  unfold BoxT at h
  simp [World.frozen?, h]

theorem BoxT.grown {w w' : World} {X : Nat} {a b c d e : Value} (h : BoxT w X a b c d e) {row : Option Nat} (hg : w.grownBy w' row) (hr : row ≠ some X) : BoxT w' X a b c d e := by
  unfold BoxT at *
  rw [hg.block X (Array.getElem?_eq_some_iff.1 h).1 (fun e => hr e.symm)]
  exact h

theorem BoxT.alloc {w : World} {X : Nat} {a b c d e : Value} (h : BoxT w X a b c d e) (o : Obj) : BoxT (w.alloc o) X a b c d e := by
  unfold BoxT at *
  rw [Below.heap_alloc _ _ _ (Array.getElem?_eq_some_iff.1 h).1]
  exact h

theorem news5t (w : World) (a b c d e : Value) : ∀ (j : Nat) (u : Value), [a, b, c, d, e][j]? = some u → (w.alloc (.cells #[a, b, c, d, e] 89)).drew.cell? ((⟨w.heap.size, 0, none⟩ : Addr).add j) = some u := by
  intro j u hj
  rw [addr_add0]
  have := World.cell?_alloc_at (w := w) #[a, b, c, d, e] 89 w.heap.size j rfl
  rw [show (w.alloc (.cells #[a, b, c, d, e] 89)).drew.cell? ⟨w.heap.size, j, none⟩ = (w.alloc (.cells #[a, b, c, d, e] 89)).cell? ⟨w.heap.size, j, none⟩ from rfl, this]
  simpa using hj

theorem BoxT.set {w : World} {X : Nat} {a b c d e : Value} (h : BoxT w X a b c d e) (i : Nat) (u : Value) : (w.setCell ⟨X, i, none⟩ u).heap[X]? = some (.cells (#[a, b, c, d, e].setIfInBounds i u) 89 (0, 0)) := by
  unfold BoxT at h
  have hx := (Array.getElem?_eq_some_iff.1 h).1
  simp only [World.setCell, Array.getElem?_modify, if_true, h, Option.map_some]
  rfl

theorem Kp.full3 {w w' : World} {S bk : Nat} {vi x : Value} {m : Int} (h : Kp w w' S bk vi) (hf : Full3 w x m) (hb : ∀ g, x.ownBlock = some g → g < S ∧ g ≠ bk ∧ vi.ownBlock ≠ some g) : Full3 w' x m := by
  rcases hf with hf | ⟨g, n, c, rfl, hn, hg, hc⟩
  · exact Or.inl hf
  · obtain ⟨h1, h2, h3⟩ := hb g rfl
    exact Or.inr ⟨g, n, c, rfl, hn, Nat.lt_of_lt_of_le hg h.size, fun j hj => (h.cell g j h1 h2 h3).trans (hc j hj)⟩

theorem bt_post {w W4 w9 : World} {B S bk N K gi ci : Nat} {vi L va vb vc : Value} {es : List (List Value)} {m : Int} {o : Obj} {vt : Value} (hB : Bt w B S bk vi es vt) (hN : N = es.length) (hm : m = -1000 - (N : Int)) (hb4 : Below S w W4) (hK : K ≤ 1000000)
    (hx : ∀ x ∈ [L, va, vb, vc], FullN3 W4 x m K ∧ ∀ g, x.ownBlock = some g → S ≤ g) (hg9 : (W4.alloc o).drew.grownBy w9 vi.ownBlock) (ho9 : w9.ownsRow B 89 5 (.slice (some ⟨gi, 0, none⟩) (N + 1) ci) (N + 1) (es.flatten ++ [L, va, vb, vc, .int .i64 m]))
    (hat : vi.ownBlock = some gi ∨ gi = W4.heap.size + 1) (hlt : gi < w9.heap.size) :
    Bt (w9.setCell ⟨bk, 1, none⟩ (.slice (some ⟨gi, 0, none⟩) (N + 1) ci)) B (w9.setCell ⟨bk, 1, none⟩ (.slice (some ⟨gi, 0, none⟩) (N + 1) ci)).heap.size bk (.slice (some ⟨gi, 0, none⟩) (N + 1) ci) (es ++ [[L, va, vb, vc, .int .i64 m]]) vt ∧
      Kp w (w9.setCell ⟨bk, 1, none⟩ (.slice (some ⟨gi, 0, none⟩) (N + 1) ci)) S bk vi ∧ Ap S vi (.slice (some ⟨gi, 0, none⟩) (N + 1) ci) [L, va, vb, vc, .int .i64 m] := by
  have hs5 : (W4.alloc o).drew.heap.size = W4.heap.size + 1 := by show (W4.alloc o).heap.size = _; simp
  have hsz : W4.heap.size + 1 ≤ w9.heap.size := by have := hg9.size; omega
  have hS4 : S ≤ W4.heap.size := Nat.le_trans hB.Sw hb4.size
  have hbS := hB.bS
  have hzz : (w9.setCell ⟨bk, 1, none⟩ (.slice (some ⟨gi, 0, none⟩) (N + 1) ci)).heap.size = w9.heap.size := by simp [World.setCell]
  have hgb : gi ≠ bk := by
    rcases hat with e | e
    · exact (hB.vS gi e).2
    · omega
  have hblk9 : ∀ k, k < W4.heap.size → vi.ownBlock ≠ some k → w9.heap[k]? = W4.heap[k]? := by
    intro k hk hv
    rw [hg9.block k (by omega) (fun e => hv e.symm)]
    exact Below.heap_alloc W4 o k hk
  have hbn : vi.ownBlock ≠ some bk := fun e => (hB.vS bk e).2 rfl
  have hKp : Kp w (w9.setCell ⟨bk, 1, none⟩ (.slice (some ⟨gi, 0, none⟩) (N + 1) ci)) S bk vi := by
    refine ⟨?_, ?_, ?_, ?_, ?_⟩
    · exact (hg9.os).trans hb4.os
    · exact (hg9.tape).trans hb4.tape
    · exact (hg9.output).trans hb4.output
    · rw [hzz]; have := hb4.size; omega
    · intro k hk h1 h2
      rw [Below.heap_setCell _ _ _ _ h1, hblk9 k (by omega) h2, hb4.block k hk]
  have cell9 : ∀ i, w9.cell? ⟨bk, i, none⟩ = w.cell? ⟨bk, i, none⟩ := fun i =>
    (World.cell?_of_block (w := W4) (a := ⟨bk, i, none⟩) (hblk9 bk (by omega) hbn)).trans (hb4.cell (p := ⟨bk, i, none⟩) hbS)
  have froz9 : ∀ i, w9.frozen? ⟨bk, i, none⟩ = w.frozen? ⟨bk, i, none⟩ := fun i =>
    (World.frozen?_of_block (w := W4) (a := ⟨bk, i, none⟩) (hblk9 bk (by omega) hbn)).trans (hb4.frozen (p := ⟨bk, i, none⟩) hbS)
  have hap : Ap S vi (.slice (some ⟨gi, 0, none⟩) (N + 1) ci) [L, va, vb, vc, .int .i64 m] := by
    refine ⟨fun x hx' g hg => ?_, fun g hg => ?_⟩
    · by_cases he : x = .int .i64 m
      · subst he; cases hg
      · exact (hx x (by simp at hx' ⊢; rcases hx' with h | h | h | h | h <;> simp_all)).2 g hg
    · have e' : gi = g := by simpa [Value.ownBlock] using hg
      subst e'
      rcases hat with e | e
      · exact Or.inl e
      · exact Or.inr (by omega)
  refine ⟨⟨hB.bB, by rw [hzz]; omega, Nat.le_refl _, ?_, ?_, ?_, ?_, ?_, ?_⟩, hKp, hap⟩
  · exact World.cell?_setCell_same _ _ _ ((cell9 1).trans hB.c1)
  · intro i; rw [World.frozen?_setCell, froz9]; exact hB.f1 i
  · rw [World.cell?_setCell_other _ _ _ _ (by intro e; cases e), cell9 0]; exact hB.c0
  · have h := owns_setCell (o := 1) (u := .slice (some ⟨gi, 0, none⟩) (N + 1) ci) (X := bk) ho9 (by intro e; cases e; exact hgb rfl)
    rw [List.length_append, List.flatten_append, ← hN]
    simpa using h
  · intro g hg
    cases hg
    exact ⟨by rw [hzz]; exact hlt, hgb⟩
  · intro i e hi
    have gne : ∀ g, g < W4.heap.size → vi.ownBlock ≠ some g → (Value.slice (some ⟨gi, 0, none⟩) (N + 1) ci).ownBlock ≠ some g := by
      intro g hg h1 e
      have e' : gi = g := by simpa [Value.ownBlock] using e
      subst e'
      rcases hat with e | e
      · exact h1 e
      · omega
    by_cases hiN : i < es.length
    · rw [List.getElem?_append_left hiN] at hi
      obtain ⟨l, a, b, c, rfl, h⟩ := hB.ent i e hi
      refine ⟨l, a, b, c, rfl, fun x hx => ?_⟩
      obtain ⟨h1, h2⟩ := h x hx
      refine ⟨hKp.full3 h1 h2, fun g hg => ?_⟩
      obtain ⟨k1, k2, k3⟩ := h2 g hg
      exact ⟨by rw [hzz]; omega, k2, gne g (by omega) k3⟩
    · rw [List.getElem?_append_right (by omega)] at hi
      have hi0 : i = es.length := by
        rcases Nat.lt_or_ge (i - es.length) 1 with h | h
        · omega
        · rw [List.getElem?_eq_none (by simpa using h)] at hi; cases hi
      subst hi0
      rw [Nat.sub_self] at hi
      simp at hi
      subst hi
      refine ⟨L, va, vb, vc, by rw [hm, hN], fun x hx' => ?_⟩
      obtain ⟨h1, h2⟩ := hx x hx'
      rw [hm, hN] at h1
      have hlt4 : ∀ g, x.ownBlock = some g → g < W4.heap.size := by
        intro g hg
        rcases h1 with ⟨c, rfl⟩ | ⟨g', n', c, rfl, _, hgl, _⟩
        · cases hg
        · cases hg; exact hgl
      have vne : ∀ g, x.ownBlock = some g → vi.ownBlock ≠ some g := by
        intro g hg e
        have a1 := (hB.vS g e).1
        have a2 := h2 g hg
        omega
      refine ⟨?_, fun g hg => ⟨by rw [hzz]; have := hlt4 g hg; omega, by have := h2 g hg; omega, gne g (hlt4 g hg) (vne g hg)⟩⟩
      rcases h1 with h1 | ⟨g', n', c, rfl, hn', hgl, hc⟩
      · exact Or.inl h1
      · refine Or.inr ⟨g', n', c, rfl, by omega, by rw [hzz]; omega, fun j hj => ?_⟩
        have hgS := h2 g' rfl
        rw [World.cell?_setCell_other _ _ _ _ (by intro e; cases e; omega)]
        exact (World.cell?_of_block (w := W4) (a := ⟨g', j, none⟩) (hblk9 g' hgl (vne g' rfl))).trans (hc j hj)

theorem fullN3_le {w : World} {v : Value} {m : Int} {n K : Nat} (h : FullN3 w v m n) (hn : n ≤ K) : FullN3 w v m K := by
  rcases h with h | ⟨g, n', c, h1, h2, h3⟩
  · exact Or.inl h
  · exact Or.inr ⟨g, n', c, h1, by omega, h3⟩

theorem hx4t {W : World} {L : Value} {S K ga na ca gb nb cb gc nc cc : Nat} {m : Int} (h0 : FullN3 W L m K) (h1 : FullN3 W (.slice (some ⟨ga, 0, none⟩) na ca) m K) (h2 : FullN3 W (.slice (some ⟨gb, 0, none⟩) nb cb) m K) (h3 : FullN3 W (.slice (some ⟨gc, 0, none⟩) nc cc) m K)
    (hL : ∀ g, L.ownBlock = some g → S ≤ g) (ha : S ≤ ga) (hb : S ≤ gb) (hc : S ≤ gc) : ∀ x ∈ [L, .slice (some ⟨ga, 0, none⟩) na ca, .slice (some ⟨gb, 0, none⟩) nb cb, .slice (some ⟨gc, 0, none⟩) nc cc], FullN3 W x m K ∧ ∀ g, x.ownBlock = some g → S ≤ g := by
  intro x hx
  simp only [List.mem_cons, List.not_mem_nil, or_false] at hx
  rcases hx with rfl | rfl | rfl | rfl
  · exact ⟨h0, hL⟩
  · exact ⟨h1, fun g e => by cases e; exact ha⟩
  · exact ⟨h2, fun g e => by cases e; exact hb⟩
  · exact ⟨h3, fun g e => by cases e; exact hc⟩

end Go.Proofs.YtdbebbbceeopaaaGreat

set_option linter.unusedSimpArgs false
namespace Go.Proofs.YtdbebbbceeopaaaGreat
open Go.RowKit

theorem own_lt3 {w : World} {B : Nat} {l : Value} {n : Nat} {xs : List Value} (h : w.ownsRow B 46 3 l n xs) : ∀ g, l.ownBlock = some g → g < w.heap.size := by
  intro g hg
  rcases h.2 with ⟨rfl, _⟩ | ⟨g', cap', cur, rfl, _, hh, _⟩
  · cases hg
  · cases hg
    exact (Array.getElem?_eq_some_iff.1 hh).1

theorem owns_len46 {w : World} {base : Nat} {v : Value} {n : Nat} {xs : List Value} (h : w.ownsRow base 46 3 v n xs) : ∃ a c, v = .slice a n c := by
  rcases h.2 with ⟨rfl, rfl⟩ | ⟨g', cap', cur, h', _⟩
  · exact ⟨_, _, rfl⟩
  · exact ⟨_, _, h'⟩

theorem over_marks (xs : List Value) (m : Int) (n : Nat) (h : xs.length = n * 3) : over xs [.int .i64 m, .int .i64 0, .int .i64 0] n = marks3 n m := by
  unfold over
  rw [List.drop_of_length_le (by simp; omega), List.append_nil]
  clear h
  induction n with
  | zero => rfl
  | succ n ih =>
    rw [List.replicate_succ', List.flatten_append, ih]
    have : marks3 1 m = [.int .i64 m, .int .i64 0, .int .i64 0] := rfl
    rw [← marks3_append, this]
    simp

set_option maxRecDepth 100000 in
set_option maxHeartbeats 4000000 in
theorem keepThrees_any (w : World) (B S bk : Nat) (vi : Value) (es : List (List Value)) (l : Value) (n : Nat) (xs : List Value) {vt : Value} (hB : Bt w B S bk vi es vt) (he : es.length ≤ 1466015504000) (hn : n ≤ 10000)
    (ho : w.ownsRow B 46 3 l n xs) (hS : ∀ g, l.ownBlock = some g → S ≤ g) :
    Calls Tryz.prog 51 #[.pointer (some ⟨bk, 0, none⟩), l] w fun e w' => e = .returned (.tuple #[]) ∧ ∃ vi' e', Bt w' B w'.heap.size bk vi' (es ++ [e']) vt ∧ Kp w w' S bk vi ∧ Ap S vi vi' e' := by
  obtain ⟨a1, c1, hvi⟩ := owns_len89 hB.own
  have HBK := hid hB
  have cc1 := hB.c1
  rw [hvi] at cc1
  have HVI := hid hvi
  clear hB hvi
  obtain ⟨N, hN⟩ : ∃ N, N = es.length := ⟨_, rfl⟩
  have HN := hid hN
  rw [← hN] at cc1 he
  clear hN
  obtain ⟨m, hm⟩ : ∃ m : Int, m = -1000 - (N : Int) := ⟨_, rfl⟩
  have hmb : -1466015506000 ≤ m ∧ m ≤ -1000 := by omega
  have HM := hid hm
  obtain ⟨al, cl, hlv⟩ := owns_len46 ho
  subst hlv
  have HO := hid ho
  have HLS := hid hS
  have HLL := hid (own_lt3 ho)
  have hxl : xs.length = n * 3 := ho.1
  clear ho hS
  obtain ⟨O, hO⟩ : ∃ O, O = w.heap.size := ⟨_, rfl⟩
  have HOW := hid hO
  go_enter Tryz.func51, Tryz.ntmps51
  go_wp2_with fail
  rw [← HM.out, ← hO]
  clear hm
  obtain ⟨W0, hW0⟩ : ∃ W0, W0 = w.alloc (.cells #[.int .i64 m, .int .i64 0, .int .i64 0] 46) := ⟨_, rfl⟩
  have B0 : Hid (Below S w W0) := hid (by rw [hW0]; exact (Below.refl _ _).alloc HBK.out.Sw _)
  have OB : Hid (W0.heap[O]? = some (.cells #[.int .i64 m, .int .i64 0, .int .i64 0] 46 (0, 0))) := hid (by rw [hW0, hO]; exact heap_new _ _)
  have HO0 : Hid (W0.ownsRow B 46 3 (.slice al n cl) n xs) := hid (by rw [hW0]; exact HO.out.alloc _)
  rw [← hW0]
  have NO : Hid (∀ g, (Value.slice al n cl).ownBlock = some g → g ≠ O) := hid (fun g e => by have := HLL.out g e; omega)
  clear hW0 hO HO HLL
  go_loopw [6] (fun i wr => ∃ k : Nat, k ≤ n ∧ i = .int .i64 k ∧ Hid (wr.ownsRow B 46 3 (.slice al n cl) n (over xs [.int .i64 m, .int .i64 0, .int .i64 0] k)) ∧ Hid (Below S w wr) ∧ Hid (wr.heap[O]? = some (.cells #[.int .i64 m, .int .i64 0, .int .i64 0] 46 (0, 0)))) (fun i _ => n - (intOf i).toNat)
  case atStart => exact ⟨0, Nat.zero_le _, rfl, by rw [over_zero]; exact HO0, B0, OB⟩
  case round =>
    obtain ⟨k, hk, rfl, ho, HBl, OB0⟩ := hrel
    clear HO0 B0 OB
    by_cases hkn : k < n
    · obtain ⟨g, cp, hv, hg1, hg2, hcp⟩ := shape3 ho.out (by omega)
      simp only [Value.slice.injEq, true_and] at hv
      obtain ⟨rfl, rfl⟩ := hv
      have hkl : k * 3 + 2 < xs.length := by omega
      have hin : ∀ j, j < n * 3 → ∃ v0, (over xs [.int .i64 m, .int .i64 0, .int .i64 0] k)[j]? = some v0 := fun j hj => ⟨_, List.getElem?_eq_getElem (by rw [ho.out.1]; exact hj)⟩
      obtain ⟨v0, hv0⟩ := hin (k * 3) (by omega)
      obtain ⟨v1, hv1⟩ := hin (k * 3 + 1) (by omega)
      obtain ⟨v2, hv2⟩ := hin (k * 3 + 2) (by omega)
      have k0 := (ho.out.cellAt (k * 3) (by omega)).trans hv0
      have k1 := (ho.out.cellAt (k * 3 + 1) (by omega)).trans hv1
      have k2 := (ho.out.cellAt (k * 3 + 2) (by omega)).trans hv2
      have f0 := ho.out.frozenAt (k * 3)
      have f1 := ho.out.frozenAt (k * 3 + 1)
      have f2 := ho.out.frozenAt (k * 3 + 2)
      have s1 := ho.out.stored (k * 3) (.int .i64 m)
      have s2 := s1.1.stored (k * 3 + 1) (.int .i64 0)
      have s3 := s2.1.stored (k * 3 + 2) (.int .i64 0)
      have hset := s3.1
      rw [over_three xs _ _ _ k hkl] at hset
      have HS' := hid hset
      have gO : g ≠ O := NO.out g rfl
      have hSg : S ≤ g := HLS.out g rfl
      have HB' := hid (((HBl.out.setCell (p := ⟨g, k * 3, none⟩) hSg (.int .i64 m)).setCell (p := ⟨g, k * 3 + 1, none⟩) hSg (.int .i64 0)).setCell (p := ⟨g, k * 3 + 2, none⟩) hSg (.int .i64 0))
      have OB' : Hid ((((wr.setCell ⟨g, k * 3, none⟩ (.int .i64 m)).setCell ⟨g, k * 3 + 1, none⟩ (.int .i64 0)).setCell ⟨g, k * 3 + 2, none⟩ (.int .i64 0)).heap[O]? = some (.cells #[.int .i64 m, .int .i64 0, .int .i64 0] 46 (0, 0))) := hid ((Below.heap_setCell _ _ _ _ (by show O ≠ g; omega)).trans ((Below.heap_setCell _ _ _ _ (by show O ≠ g; omega)).trans ((Below.heap_setCell _ _ _ _ (by show O ≠ g; omega)).trans OB0.out)))
      have p0 : wr.cell? ⟨O, 0, none⟩ = some (.int .i64 m) := heap_cell OB0.out 0
      have p1 : wr.cell? ⟨O, 1, none⟩ = some (.int .i64 0) := heap_cell OB0.out 1
      have p2 : wr.cell? ⟨O, 2, none⟩ = some (.int .i64 0) := heap_cell OB0.out 2
      have hkn' : (k : Int) < n := by omega
      clear s1 s2 s3 hset hv0 hv1 hv2 hin
      go_wp2_with fail
      go_roundw
      case rel => exact ⟨k + 1, by omega, by go_num, HS', HB', OB'⟩
      case measure => simp [intOf]; omega
    · have : k = n := by omega
      subst this
      have HS : Hid (wr.ownsRow B 46 3 (.slice al k cl) k (marks3 k m)) := hid (by
        have h := ho.out
        rw [over_marks xs m k hxl] at h
        exact h)
      clear ho
      have HOL : Hid (O < wr.heap.size) := hid (heap_lt OB0.out)
      have HLO : Hid (some O ≠ (Value.slice al k cl).ownBlock) := hid (fun e => NO.out O e.symm rfl)
      have p0 : wr.cell? ⟨O, 0, none⟩ = some (.int .i64 m) := heap_cell OB0.out 0
      have p1 : wr.cell? ⟨O, 1, none⟩ = some (.int .i64 0) := heap_cell OB0.out 1
      have p2 : wr.cell? ⟨O, 2, none⟩ = some (.int .i64 0) := heap_cell OB0.out 2
      have p0' := new_cell p0
      have p1' := new_cell p1
      have p2' := new_cell p2
      have hOX : ¬ O = wr.heap.size := by have := HOL.out; omega
      have hOX' : ¬ wr.heap.size = O := by have := HOL.out; omega
      have HLT : Hid (∀ g', (Value.slice al k cl).ownBlock = some g' → g' < wr.heap.size) := own_lt3 HS.out
      have HBX0 : Hid (BoxT (wr.alloc (.cells #[.slice al k cl, .slice none 0 0, .slice none 0 0, .slice none 0 0, .int .i64 m] 89)) wr.heap.size (.slice al k cl) (.slice none 0 0) (.slice none 0 0) (.slice none 0 0) (.int .i64 m)) := heap_alloc_new _ _
      go_wp2_with (at_builtin; go_must (refine wpList_mark3 _ rfl (.tmp 29) (.tmp 31) rfl B _ _ m rfl ((HS.out.alloc _).alloc _) ⟨wr.heap.size + 1, 0, none⟩ 1 1 rfl ?a1 (by decide) (by omega) ?_))
      case a1 =>
        intro j hj
        rw [addr_add0]
        match j, hj with
        | 0, _ => exact World.cell?_alloc_at _ _ _ _ (by simp)
        | 1, _ => exact World.cell?_alloc_at _ _ _ _ (by simp)
        | 2, _ => exact World.cell?_alloc_at _ _ _ _ (by simp)
      intro ga ca w2 hl2 fa2 ba hg2 hk2
      have sz2 : wr.heap.size + 2 ≤ w2.heap.size := by have := hg2.size; simp at this; omega
      have HXL : Hid ((Value.slice al k cl).ownBlock ≠ some wr.heap.size) := by intro e; have := HLT.out _ e; omega
      have HXA : Hid ((Value.slice (some ⟨ga, 0, none⟩) (k + 1) ca).ownBlock ≠ some wr.heap.size) := by
        intro e
        cases e
        rcases ba with e | e
        · exact HXL.out e
        · simp at e; omega
      have HBX2 := hid ((HBX0.out.alloc _).grown hg2 HXL.out)
      have OB2 : Hid (w2.heap[O]? = some (.cells #[.int .i64 m, .int .i64 0, .int .i64 0] 46 (0, 0))) := hid ((hg2.block O (by have := HOL.out; simp; omega) HLO.out).trans ((Below.heap_alloc _ _ O (by have := HOL.out; simp; omega)).trans ((Below.heap_alloc _ _ O HOL.out).trans OB0.out)))
      have o20 : w2.cell? ⟨O, 0, none⟩ = some (.int .i64 m) := heap_cell OB2.out 0
      have o21 : w2.cell? ⟨O, 1, none⟩ = some (.int .i64 0) := heap_cell OB2.out 1
      have o22 : w2.cell? ⟨O, 2, none⟩ = some (.int .i64 0) := heap_cell OB2.out 2
      have x21 : w2.cell? ⟨wr.heap.size, 1, none⟩ = some (.slice none 0 0) := HBX2.out.cell 1
      have f21 := HBX2.out.frozen 1
      have HB2 := hid (((HBl.out.alloc (by have := HBK.out.Sw; have := HBl.out.size; omega) (.cells #[.slice al k cl, .slice none 0 0, .slice none 0 0, .slice none 0 0, .int .i64 m] 89)).alloc (by have := HBK.out.Sw; have := HBl.out.size; simp; omega) _).grown hg2 (by have := HBK.out.Sw; have := HBl.out.size; simp; omega) (fun g' e => HLS.out g' e))
      have HS2 := hid (owns_setCell hl2 (o := 1) (u := .slice (some ⟨ga, 0, none⟩) (k + 1) ca) HXL.out)
      have HA2 := hid (fa2.setCell wr.heap.size 1 (.slice (some ⟨ga, 0, none⟩) (k + 1) ca) HXA.out)
      have HBB2 := hid (show BoxT (w2.setCell ⟨wr.heap.size, 1, none⟩ (.slice (some ⟨ga, 0, none⟩) (k + 1) ca)) wr.heap.size (.slice al k cl) (.slice (some ⟨ga, 0, none⟩) (k + 1) ca) (.slice none 0 0) (.slice none 0 0) (.int .i64 m) from HBX2.out.set 1 _)
      have HB2' := hid (HB2.out.setCell (p := ⟨wr.heap.size, 1, none⟩) (by have := HBK.out.Sw; have := HBl.out.size; show _ ≤ wr.heap.size; omega) (.slice (some ⟨ga, 0, none⟩) (k + 1) ca))
      have z2 : (w2.setCell ⟨wr.heap.size, 1, none⟩ (.slice (some ⟨ga, 0, none⟩) (k + 1) ca)).heap.size = w2.heap.size := by simp [World.setCell]
      have Z2 := hid z2
      have BA := hid ba
      clear hl2 fa2 ba hg2 hk2 z2
      go_wp2_with (at_builtin; go_must (refine wpList_mark3 _ rfl (.tmp 34) (.tmp 37) rfl B _ _ m rfl (HS2.out.alloc _) ⟨w2.heap.size, 0, none⟩ 2 2 rfl ?b1 (by decide) (by omega) ?_))
      case b1 =>
        intro j hj
        rw [addr_add0]
        match j, hj with
        | 0, _ => exact World.cell?_alloc_at _ _ _ _ Z2.out.symm
        | 1, _ => exact World.cell?_alloc_at _ _ _ _ Z2.out.symm
        | 2, _ => exact World.cell?_alloc_at _ _ _ _ Z2.out.symm
        | 3, _ => exact World.cell?_alloc_at _ _ _ _ Z2.out.symm
        | 4, _ => exact World.cell?_alloc_at _ _ _ _ Z2.out.symm
        | 5, _ => exact World.cell?_alloc_at _ _ _ _ Z2.out.symm
      intro gb cb w3 hl3 fb3 bb hg3 hk3
      have sz3 : w2.heap.size + 1 ≤ w3.heap.size := by have := hg3.size; have := Z2.out; simp at *; omega
      have HXB : Hid ((Value.slice (some ⟨gb, 0, none⟩) (k + 2) cb).ownBlock ≠ some wr.heap.size) := by
        intro e
        cases e
        rcases bb with e | e
        · exact HXL.out e
        · have := Z2.out; simp at e; omega
      have HBX3 := hid ((HBB2.out.alloc _).grown hg3 HXL.out)
      have OB3 : Hid (w3.heap[O]? = some (.cells #[.int .i64 m, .int .i64 0, .int .i64 0] 46 (0, 0))) := hid ((hg3.block O (by have := HOL.out; have := Z2.out; simp; omega) HLO.out).trans ((Below.heap_alloc _ _ O (by have := HOL.out; have := Z2.out; omega)).trans ((Below.heap_setCell _ _ _ _ (by show O ≠ wr.heap.size; have := HOL.out; omega)).trans OB2.out)))
      have o30 : w3.cell? ⟨O, 0, none⟩ = some (.int .i64 m) := heap_cell OB3.out 0
      have o31 : w3.cell? ⟨O, 1, none⟩ = some (.int .i64 0) := heap_cell OB3.out 1
      have o32 : w3.cell? ⟨O, 2, none⟩ = some (.int .i64 0) := heap_cell OB3.out 2
      have x31 : w3.cell? ⟨wr.heap.size, 2, none⟩ = some (.slice none 0 0) := HBX3.out.cell 2
      have f31 := HBX3.out.frozen 2
      have HB3 := hid ((HB2'.out.alloc (by have := HBK.out.Sw; have := HBl.out.size; have := Z2.out; omega) _).grown hg3 (by have := HBK.out.Sw; have := HBl.out.size; have := Z2.out; simp; omega) (fun g' e => HLS.out g' e))
      have HS3 := hid (owns_setCell hl3 (o := 2) (u := .slice (some ⟨gb, 0, none⟩) (k + 2) cb) HXL.out)
      have HA3 := hid (((HA2.out.alloc _).mark (by omega) hg3 hk3).setCell wr.heap.size 2 (.slice (some ⟨gb, 0, none⟩) (k + 2) cb) HXA.out)
      have HBv3 := hid (fb3.setCell wr.heap.size 2 (.slice (some ⟨gb, 0, none⟩) (k + 2) cb) HXB.out)
      have HBB3 := hid (show BoxT (w3.setCell ⟨wr.heap.size, 2, none⟩ (.slice (some ⟨gb, 0, none⟩) (k + 2) cb)) wr.heap.size (.slice al k cl) (.slice (some ⟨ga, 0, none⟩) (k + 1) ca) (.slice (some ⟨gb, 0, none⟩) (k + 2) cb) (.slice none 0 0) (.int .i64 m) from HBX3.out.set 2 _)
      have HB3' := hid (HB3.out.setCell (p := ⟨wr.heap.size, 2, none⟩) (by have := HBK.out.Sw; have := HBl.out.size; show _ ≤ wr.heap.size; omega) (.slice (some ⟨gb, 0, none⟩) (k + 2) cb))
      have Z3 := hid (show (w3.setCell ⟨wr.heap.size, 2, none⟩ (.slice (some ⟨gb, 0, none⟩) (k + 2) cb)).heap.size = w3.heap.size by simp [World.setCell])
      have BB := hid bb
      clear hl3 fb3 bb hg3 hk3 x21 f21 o20 o21 o22
      go_wp2_with (at_builtin; go_must (refine wpList_mark3 _ rfl (.tmp 40) (.tmp 44) rfl B _ _ m rfl (HS3.out.alloc _) ⟨w3.heap.size, 0, none⟩ 3 3 rfl ?d1 (by decide) (by omega) ?_))
      case d1 =>
        intro j hj
        rw [addr_add0]
        match j, hj with
        | 0, _ => exact World.cell?_alloc_at _ _ _ _ Z3.out.symm
        | 1, _ => exact World.cell?_alloc_at _ _ _ _ Z3.out.symm
        | 2, _ => exact World.cell?_alloc_at _ _ _ _ Z3.out.symm
        | 3, _ => exact World.cell?_alloc_at _ _ _ _ Z3.out.symm
        | 4, _ => exact World.cell?_alloc_at _ _ _ _ Z3.out.symm
        | 5, _ => exact World.cell?_alloc_at _ _ _ _ Z3.out.symm
        | 6, _ => exact World.cell?_alloc_at _ _ _ _ Z3.out.symm
        | 7, _ => exact World.cell?_alloc_at _ _ _ _ Z3.out.symm
        | 8, _ => exact World.cell?_alloc_at _ _ _ _ Z3.out.symm
      intro gc cc w4 hl4 fc4 bc hg4 hk4
      have sz4 : w3.heap.size + 1 ≤ w4.heap.size := by have := hg4.size; have := Z3.out; simp at *; omega
      have HXC : Hid ((Value.slice (some ⟨gc, 0, none⟩) (k + 3) cc).ownBlock ≠ some wr.heap.size) := by
        intro e
        cases e
        rcases bc with e | e
        · exact HXL.out e
        · have := Z3.out; simp at e; omega
      have HBX4 := hid ((HBB3.out.alloc _).grown hg4 HXL.out)
      have x41 : w4.cell? ⟨wr.heap.size, 3, none⟩ = some (.slice none 0 0) := HBX4.out.cell 3
      have f41 := HBX4.out.frozen 3
      have HB4 := hid (((HB3'.out.alloc (by have := HBK.out.Sw; have := HBl.out.size; have := Z3.out; omega) _).grown hg4 (by have := HBK.out.Sw; have := HBl.out.size; have := Z3.out; simp; omega) (fun g' e => HLS.out g' e)).setCell (p := ⟨wr.heap.size, 3, none⟩) (by have := HBK.out.Sw; have := HBl.out.size; show _ ≤ wr.heap.size; omega) (.slice (some ⟨gc, 0, none⟩) (k + 3) cc))
      have HL4 := hid (fullN3_of (owns_setCell hl4 (o := 3) (u := .slice (some ⟨gc, 0, none⟩) (k + 3) cc) HXL.out))
      have HA4 := hid (((HA3.out.alloc _).mark (by omega) hg4 hk4).setCell wr.heap.size 3 (.slice (some ⟨gc, 0, none⟩) (k + 3) cc) HXA.out)
      have HB4v := hid (((HBv3.out.alloc _).mark (by omega) hg4 hk4).setCell wr.heap.size 3 (.slice (some ⟨gc, 0, none⟩) (k + 3) cc) HXB.out)
      have HC4 := hid (fc4.setCell wr.heap.size 3 (.slice (some ⟨gc, 0, none⟩) (k + 3) cc) HXC.out)
      have HBB4 := hid (show BoxT (w4.setCell ⟨wr.heap.size, 3, none⟩ (.slice (some ⟨gc, 0, none⟩) (k + 3) cc)) wr.heap.size (.slice al k cl) (.slice (some ⟨ga, 0, none⟩) (k + 1) ca) (.slice (some ⟨gb, 0, none⟩) (k + 2) cb) (.slice (some ⟨gc, 0, none⟩) (k + 3) cc) (.int .i64 m) from HBX4.out.set 3 _)
      have Z4 := hid (show (w4.setCell ⟨wr.heap.size, 3, none⟩ (.slice (some ⟨gc, 0, none⟩) (k + 3) cc)).heap.size = w4.heap.size by simp [World.setCell])
      have BC := hid bc
      clear hl4 fc4 bc hg4 hk4 x31 f31 o30 o31 o32
      go_wp2
      have hXlt : wr.heap.size < (w4.setCell ⟨wr.heap.size, 3, none⟩ (.slice (some ⟨gc, 0, none⟩) (k + 3) cc)).heap.size := (Array.getElem?_eq_some_iff.1 HBB4.out).1
      have HSA := hid (show S ≤ ga by
        rcases BA.out with e | e
        · exact HLS.out _ e
        · have := HBK.out.Sw; have := HBl.out.size; omega)
      have HSB := hid (show S ≤ gb by
        rcases BB.out with e | e
        · exact HLS.out _ e
        · have := HBK.out.Sw; have := HBl.out.size; have := Z2.out; omega)
      have HSC := hid (show S ≤ gc by
        rcases BC.out with e | e
        · exact HLS.out _ e
        · have := HBK.out.Sw; have := HBl.out.size; have := Z3.out; omega)
      obtain ⟨X, hX⟩ : ∃ X, X = wr.heap.size := ⟨_, rfl⟩
      have hXS : S ≤ X := by have := HBK.out.Sw; have := HBl.out.size; omega
      rw [← hX] at HBB4 HL4 HA4 HB4v HC4 HB4 hXlt HXL HXA HXB HXC ⊢
      have HX := hid hX
      clear hX x41 f41 HB2 HB3 HB2' HB3' HBX2 HBX3 HBX4 HBX0 HS2 HS3 HA2 HA3 HBv3 HBB2 HBB3 sz2 sz3 sz4 Z2 Z3 Z4
      obtain ⟨W4, hW4⟩ : ∃ W4, W4 = w4.setCell ⟨X, 3, none⟩ (.slice (some ⟨gc, 0, none⟩) (k + 3) cc) := ⟨_, rfl⟩
      rw [← hW4] at HBB4 HL4 HA4 HB4v HC4 HB4 hXlt ⊢
      clear hW4
      have cbk : W4.cell? ⟨bk, 1, none⟩ = some (.slice a1 N c1) := (HB4.out.cell (by exact HBK.out.bS)).trans cc1
      have fbk : W4.frozen? ⟨bk, 1, none⟩ = false := (HB4.out.frozen (by exact HBK.out.bS)).trans (HBK.out.f1 1)
      have y0 : W4.cell? ⟨X, 0, none⟩ = some (.slice al k cl) := HBB4.out.cell 0
      have y1 : W4.cell? ⟨X, 1, none⟩ = some (.slice (some ⟨ga, 0, none⟩) (k + 1) ca) := HBB4.out.cell 1
      have y2 : W4.cell? ⟨X, 2, none⟩ = some (.slice (some ⟨gb, 0, none⟩) (k + 2) cb) := HBB4.out.cell 2
      have y3 : W4.cell? ⟨X, 3, none⟩ = some (.slice (some ⟨gc, 0, none⟩) (k + 3) cc) := HBB4.out.cell 3
      have y4 : W4.cell? ⟨X, 4, none⟩ = some (.int .i64 m) := HBB4.out.cell 4
      have HOW := hid (show W4.ownsRow B 89 5 (.slice a1 N c1) N es.flatten by
        have h := owns_belowS HBK.out.own HB4.out (fun g' e => (HBK.out.vS g' e).1)
        rw [HVI.out, ← HN.out] at h
        exact h)
      have hbkW : bk < W4.heap.size := by have := HBK.out.bS; omega
      have hne : ¬ bk = X := by have := HBK.out.bS; omega
      obtain ⟨i8, hi8, hz80, hz81, hz82⟩ := info_parts Tryz.info89
      have NW := hid (news5t W4 (.slice al k cl) (.slice (some ⟨ga, 0, none⟩) (k + 1) ca) (.slice (some ⟨gb, 0, none⟩) (k + 2) cb) (.slice (some ⟨gc, 0, none⟩) (k + 3) cc) (.int .i64 m))
      have VK := hid (show ∀ g', (Value.slice a1 N c1).ownBlock = some g' → g' ≠ bk ∧ g' ≠ X by
        intro g' e
        have := HBK.out.vS g' (by rw [HVI.out, ← HN.out]; exact e)
        omega)
      have NB := hid (show B ≤ (W4.alloc (.cells #[.slice al k cl, .slice (some ⟨ga, 0, none⟩) (k + 1) ca, .slice (some ⟨gb, 0, none⟩) (k + 2) cb, .slice (some ⟨gc, 0, none⟩) (k + 3) cc, .int .i64 m] 89)).drew.heap.size by have := HBK.out.bB; have := HBK.out.bS; show _ ≤ (W4.alloc _).heap.size; simp; omega)
      have NH := hid (show (W4.alloc (.cells #[.slice al k cl, .slice (some ⟨ga, 0, none⟩) (k + 1) ca, .slice (some ⟨gb, 0, none⟩) (k + 2) cb, .slice (some ⟨gc, 0, none⟩) (k + 3) cc, .int .i64 m] 89)).drew.heap.size = W4.heap.size + 1 by show (W4.alloc _).heap.size = _; simp)
      have N1 := hid (show ∀ u ∈ [.slice al k cl, .slice (some ⟨ga, 0, none⟩) (k + 1) ca, .slice (some ⟨gb, 0, none⟩) (k + 2) cb, .slice (some ⟨gc, 0, none⟩) (k + 3) cc, Value.int .i64 m], u.oneCell' = true by
        intro u hu
        simp at hu
        rcases hu with rfl | rfl | rfl | rfl | rfl <;> rfl)
      have CB := hid (show (W4.alloc (.cells #[.slice al k cl, .slice (some ⟨ga, 0, none⟩) (k + 1) ca, .slice (some ⟨gb, 0, none⟩) (k + 2) cb, .slice (some ⟨gc, 0, none⟩) (k + 3) cc, .int .i64 m] 89)).drew.cell? ⟨bk, 1, none⟩ = some (.slice a1 N c1) from (((Below.refl W4.heap.size W4).alloc (Nat.le_refl _) _).drew.cell (p := ⟨bk, 1, none⟩) hbkW).trans cbk)
      have FB := hid (show (W4.alloc (.cells #[.slice al k cl, .slice (some ⟨ga, 0, none⟩) (k + 1) ca, .slice (some ⟨gb, 0, none⟩) (k + 2) cb, .slice (some ⟨gc, 0, none⟩) (k + 3) cc, .int .i64 m] 89)).drew.frozen? ⟨bk, 1, none⟩ = false from (((Below.refl W4.heap.size W4).alloc (Nat.le_refl _) _).drew.frozen (p := ⟨bk, 1, none⟩) hbkW).trans fbk)
      have VB := hid (show some bk ≠ (Value.slice a1 N c1).ownBlock from fun e => (VK.out bk e.symm).1 rfl)
      go_region_law ((refine step_append_far _ (by rfl) (.tmp 51) (.tmp 53) 57 (by rfl) B 89 i8 (.agg #[.slice none 0 0, .slice none 0 0, .slice none 0 0, .slice none 0 0, .int .i64 0]) 5 104 Tryz.underlying57 hi8 hz80 hz81 hz82 (by rfl) (by decide) (.slice a1 N c1) N es.flatten (by rfl) (HOW.out.alloc _) ⟨W4.heap.size, 0, none⟩ 1 1 [.slice al k cl, .slice (some ⟨ga, 0, none⟩) (k + 1) ca, .slice (some ⟨gb, 0, none⟩) (k + 2) cb, .slice (some ⟨gc, 0, none⟩) (k + 3) cc, .int .i64 m] (by rfl) (by rfl) NW.out N1.out (by decide) (by unfold maxLen; omega) (by omega) NB.out (W4.heap.size + 1) NH.out ?_; intro gi ci w9 hown9 hgrow9 hat hlt9; have cb9 := hgrow9.cell (a := ⟨bk, 1, none⟩) CB.out VB.out; have fb9 := (frozen_grown hgrow9 (b := bk) 1 (by rw [NH.out]; omega) VB.out).trans FB.out))
      all_goals
        have HX4 := hid (hx4t (K := k + 3) (fullN3_le HL4.out (by omega)) (fullN3_le HA4.out (by omega)) (fullN3_le HB4v.out (by omega)) (fullN3_le HC4.out (by omega)) HLS.out HSA.out HSB.out HSC.out)
        have HPOST := hid (bt_post HBK.out HN.out HM.out HB4.out (by omega) HX4.out (by rw [HVI.out, ← HN.out]; exact hgrow9) hown9 (by rw [HVI.out, ← HN.out]; exact hat) hlt9)
        clear cb9 fb9 hown9 hgrow9 hat hlt9 y0 y1 y2 y3 y4 cbk fbk cc1
        go_end0
        exact ⟨rfl, _, _, HPOST.out.1, HPOST.out.2.1, HPOST.out.2.2⟩
end Go.Proofs.YtdbebbbceeopaaaGreat

set_option linter.unusedSimpArgs false
namespace Go.Proofs.YtdbebbbceeopaaaGreat
open Go.RowKit

theorem ne66 (a b c : Int) (W : World) : (binOp .neq 46 (.agg #[.int .i64 a, .int .i64 b, .int .i64 c]) (.agg #[.int .i64 a, .int .i64 b, .int .i64 c])).run Tryz.prog W = .ok (.bool false) W := by
  have u3 := Tryz.underlying3
  have a3 := Tryz.isAgg3
  have z3 := Tryz.sizeOf3
  have hS : Tryz.prog.underlying 46 = some (.struct (Tryz.prog.fieldsOf 46)) := by kernel_rfl
  have hp : Tryz.prog.stoodInHeld 46 = false := by kernel_rfl
  rw [run_neq_struct, show (10000 : Nat) = 9999 + 1 from rfl, run_equalIn_agg W 9999 46 _ _ hS hp]
  simp only [Program.fieldsOf, Tryz.underlying46]
  go_simp

set_option maxHeartbeats 1000000 in
theorem fullThrees_any (v : Value) (m : Int) (w : World) (h : Full3 w v m) :
    Calls Tryz.prog 57 #[v, .int .i64 m] w fun e w' => e = .returned (.bool true) ∧ w' = w := by
  rcases h with ⟨c, rfl⟩ | ⟨g, n, c, rfl, hn, hg, hc⟩
  · go_enter Tryz.func57, Tryz.ntmps57
    go_wp2
    refine wp_loop_rounds 1 ?_
    rw [rounds_succ]
    go_wp2
    go_ret
    exact ⟨rfl, rfl⟩
  · have HC := hid hc
    have E := ne66 m 0 0
    clear hc
    go_enter Tryz.func57, Tryz.ntmps57
    go_wp2
    go_loop [5] (fun i => ∃ k : Nat, k ≤ n ∧ i = .int .i64 k) (fun i => n - (intOf i).toNat)
    case atStart => exact ⟨0, Nat.zero_le _, rfl⟩
    case round =>
      obtain ⟨k, hk, rfl⟩ := hrel
      by_cases hkn : k < n
      · have c0 : w.cell? ⟨g, k * 3, none⟩ = some (.int .i64 m) := by
          rw [HC.out (k * 3) (by omega)]; unfold mc; rw [if_pos (by omega)]
        have c1 : w.cell? ⟨g, k * 3 + 1, none⟩ = some (.int .i64 0) := by
          rw [HC.out (k * 3 + 1) (by omega)]; unfold mc; rw [if_neg (by omega)]
        have c2 : w.cell? ⟨g, k * 3 + 2, none⟩ = some (.int .i64 0) := by
          rw [HC.out (k * 3 + 2) (by omega)]; unfold mc; rw [if_neg (by omega)]
        have hkn' : (k : Int) < n := by omega
        go_wp2
        go_round
        case rel => exact ⟨k + 1, by omega, by go_num⟩
        case measure => simp [intOf]; omega
      · have : k = n := by omega
        subst this
        go_wp2
        go_ret
        exact ⟨rfl, rfl⟩

theorem Full3.shape {w : World} {v : Value} {m : Int} (h : Full3 w v m) : ∃ p n c, v = .slice p n c := by
  rcases h with ⟨c, rfl⟩ | ⟨g, n, c, rfl, _⟩
  · exact ⟨_, _, _, rfl⟩
  · exact ⟨_, _, _, rfl⟩

theorem Full3.below {w w' : World} {v : Value} {m : Int} (h : Full3 w v m) (hb : Below w.heap.size w w') : Full3 w' v m := by
  rcases h with h | ⟨g, n, c, h1, h2, h3, h4⟩
  · exact Or.inl h
  · exact Or.inr ⟨g, n, c, h1, h2, Nat.lt_of_lt_of_le h3 hb.size, fun j hj => (hb.cell (by exact h3)).trans (h4 j hj)⟩

set_option maxRecDepth 100000 in
set_option maxHeartbeats 2000000 in
theorem looksT_any (w : World) (B S bk : Nat) (vi : Value) (es : List (List Value)) (hB : Bt w B S bk vi es) (he : es.length ≤ 1466015504000) :
    Calls Tryz.prog 31 #[.pointer (some ⟨bk, 0, none⟩)] w fun e w' => e = .returned (.bool true) ∧ Below w.heap.size w w' := by
  obtain ⟨a1, c1, hvi⟩ := owns_len89 hB.own
  have HBK := hid hB
  have hbk : bk < w.heap.size := Nat.lt_of_lt_of_le hB.bS hB.Sw
  have HC1 : Hid (w.cell? ⟨bk, 1, none⟩ = some (.slice a1 es.length c1)) := by rw [← hvi]; exact hB.c1
  have hc0 := hB.c0
  have HVI := hid hvi
  clear hB hvi
  obtain ⟨N, hN⟩ : ∃ N, N = es.length := ⟨_, rfl⟩
  have HN := hid hN
  rw [← hN] at HC1 he
  clear hN
  go_enter Tryz.func31, Tryz.ntmps31
  go_wp2
  refine wp_loop_rounds 1 ?_
  rw [rounds_succ]
  go_wp2
  go_loopw [5] (fun i wr => ∃ k : Nat, k ≤ N ∧ i = .int .i64 k ∧ Below w.heap.size w wr) (fun i _ => N - (intOf i).toNat)
  case atStart => exact ⟨0, Nat.zero_le _, rfl, Below.refl _ _⟩
  case round =>
    obtain ⟨k, hk, rfl, hb⟩ := hrel
    have cb := (hb.cell (p := ⟨bk, 1, none⟩) hbk).trans HC1.out
    by_cases hkN : k < N
    · obtain ⟨e, hek⟩ : ∃ e, es[k]? = some e := ⟨_, List.getElem?_eq_getElem (by rw [← HN.out]; exact hkN)⟩
      obtain ⟨l, a, b, c, rfl, hx⟩ := HBK.out.ent k e hek
      have h5 : ∀ (i : Nat) (e : List Value), es[i]? = some e → e.length = 5 := by
        intro i e h
        obtain ⟨_, _, _, _, rfl, _⟩ := HBK.out.ent i e h
        rfl
      have hfl := flat_get es h5 k _ hek
      have hown := HBK.out.own
      rcases hown.2 with ⟨_, h0⟩ | ⟨gi, cap, cur, hv, _, hh, _⟩
      · have := HN.out; omega
      · have hvv : (Value.slice a1 es.length c1) = .slice (some ⟨gi, 0, none⟩) es.length cap := by rw [← HVI.out]; exact hv
        simp only [Value.slice.injEq, true_and] at hvv
        obtain ⟨rfl, rfl⟩ := hvv
        rw [hv] at hown
        have hgi := (Array.getElem?_eq_some_iff.1 hh).1
        have ec : ∀ j, j < 5 → wr.cell? ⟨gi, k * 5 + j, none⟩ = [l, a, b, c, .int .i64 (-1000 - (k : Int))][j]? := by
          intro j hj
          rw [hb.cell (by exact hgi), hown.cellAt (k * 5 + j) (by rw [← HN.out]; omega), hfl j hj]
        have e0 : wr.cell? ⟨gi, k * 5, none⟩ = some l := ec 0 (by omega)
        have e1 : wr.cell? ⟨gi, k * 5 + 1, none⟩ = some a := ec 1 (by omega)
        have e2 : wr.cell? ⟨gi, k * 5 + 2, none⟩ = some b := ec 2 (by omega)
        have e3 : wr.cell? ⟨gi, k * 5 + 3, none⟩ = some c := ec 3 (by omega)
        have e4 : wr.cell? ⟨gi, k * 5 + 4, none⟩ = some (.int .i64 (-1000 - (k : Int))) := ec 4 (by omega)
        have fl := (hx l (by simp)).1
        have fa := (hx a (by simp)).1
        have fb := (hx b (by simp)).1
        have fc := (hx c (by simp)).1
        obtain ⟨p1, n1, q1, rfl⟩ := fl.shape
        obtain ⟨p2, n2, q2, rfl⟩ := fa.shape
        obtain ⟨p3, n3, q3, rfl⟩ := fb.shape
        obtain ⟨p4, n4, q4, rfl⟩ := fc.shape
        have F := hid (fun (W : World) (hW : Below w.heap.size w W) => And.intro (fullThrees_any _ _ W (fl.below hW)) (And.intro (fullThrees_any _ _ W (fa.below hW)) (And.intro (fullThrees_any _ _ W (fb.below hW)) (fullThrees_any _ _ W (fc.below hW)))))
        generalize -1000 - (k : Int) = m at *
        have HB := hid hb
        have hk' : (k : Int) < N := by omega
        clear hfl hown hh ec fl fa fb fc hx hek h5 hv hb
        have G := hid (F.out (wr.alloc (.cells #[.slice p1 n1 q1, .slice p2 n2 q2, .slice p3 n3 q3, .slice p4 n4 q4, .int .i64 m] 89)) (HB.out.alloc HB.out.size _))
        go_wp2_with fail
        refine (G.out.1).mono ?_
        rintro e w' ⟨rfl, rfl⟩
        go_wp2_with fail
        refine (G.out.2.1).mono ?_
        rintro e w' ⟨rfl, rfl⟩
        go_wp2_with fail
        refine (G.out.2.2.1).mono ?_
        rintro e w' ⟨rfl, rfl⟩
        go_wp2_with fail
        refine (G.out.2.2.2).mono ?_
        rintro e w' ⟨rfl, rfl⟩
        go_wp2_with fail
        go_roundw
        case rel => exact ⟨k + 1, by omega, by go_num, HB.out.alloc HB.out.size _⟩
        case measure => simp [intOf]; omega
    · have : k = N := by omega
      subst this
      have HB := hid hb
      clear hb
      go_wp2
      go_ret
      exact ⟨rfl, HB.out⟩
end Go.Proofs.YtdbebbbceeopaaaGreat
