import Derived.Test.YtdbebbbceeopaaaGreatY
import Derived.Laws.StructEq
import Derived.Deep.QuietTactic
set_option linter.unusedSimpArgs false
namespace Go.Proofs.YtdbebbbceeopaaaGreat
open Go.RowKit

theorem eq33 (a b : Int) (W : World) : (binOp .eql 35 (.agg #[.int .i64 a, .int .i64 b]) (.agg #[.int .i64 a, .int .i64 b])).run Tryz.prog W = .ok (.bool true) W := by
  have := eqPt.1 (a, b) (a, b) W
  simpa [encPt] using this

/-- A list that is written over from its head on, k elements of it so far. -/
def over (l c : List Value) (k : Nat) : List Value := (List.replicate k c).flatten ++ l.drop (k * c.length)

theorem over_zero (l c : List Value) : over l c 0 = l := by simp [over]

theorem flat_len (c : List Value) (k : Nat) : (List.replicate k c).flatten.length = k * c.length := by simp [List.length_flatten]

theorem over_get (l c : List Value) (k j : Nat) (hj : k * c.length ≤ j) : (over l c k)[j]? = l[j]? := by
  unfold over
  rw [List.getElem?_append_right (by rw [flat_len]; exact hj), flat_len, List.getElem?_drop]
  congr 1
  omega

theorem over_two (l : List Value) (a b : Value) (k : Nat) (h : k * 2 + 1 < l.length) : ((over l [a, b] k).set (k * 2) a).set (k * 2 + 1) b = over l [a, b] (k + 1) := by
  have e : l.drop (k * 2) = l[k * 2] :: l[k * 2 + 1] :: l.drop ((k + 1) * 2) := by
    rw [List.drop_eq_getElem_cons (by omega), List.drop_eq_getElem_cons (by omega)]
    congr 3
    omega
  have f : (List.replicate k [a, b]).flatten.length = k * 2 := flat_len [a, b] k
  unfold over
  rw [List.replicate_succ', List.flatten_append]
  simp only [List.length_cons, List.length_nil, List.flatten_cons, List.flatten_nil, List.append_nil]
  rw [show (0 + 1 + 1 : Nat) = 2 from rfl, e, List.set_append_right (k * 2) _ (by omega), f, Nat.sub_self, List.set_append_right (k * 2 + 1) _ (by omega), f, show k * 2 + 1 - k * 2 = 1 by omega]
  simp

theorem over_three (l : List Value) (a b c : Value) (k : Nat) (h : k * 3 + 2 < l.length) : (((over l [a, b, c] k).set (k * 3) a).set (k * 3 + 1) b).set (k * 3 + 2) c = over l [a, b, c] (k + 1) := by
  have e : l.drop (k * 3) = l[k * 3] :: l[k * 3 + 1] :: l[k * 3 + 2] :: l.drop ((k + 1) * 3) := by
    rw [List.drop_eq_getElem_cons (by omega), List.drop_eq_getElem_cons (by omega), List.drop_eq_getElem_cons (by omega)]
    congr 4
    omega
  have f : (List.replicate k [a, b, c]).flatten.length = k * 3 := flat_len [a, b, c] k
  unfold over
  rw [List.replicate_succ', List.flatten_append]
  simp only [List.length_cons, List.length_nil, List.flatten_cons, List.flatten_nil, List.append_nil]
  rw [show (0 + 1 + 1 + 1 : Nat) = 3 from rfl, e, List.set_append_right (k * 3) _ (by omega), f, Nat.sub_self, List.set_append_right (k * 3 + 1) _ (by omega), f, show k * 3 + 1 - k * 3 = 1 by omega, List.set_append_right (k * 3 + 2) _ (by omega), f, show k * 3 + 2 - k * 3 = 2 by omega]
  simp

theorem heap_set {w : World} {g : Nat} {l : List Value} {t : TypeId} (h : w.heap[g]? = some (.cells l.toArray t (0, 0))) (o : Nat) (u : Value) : (w.setCell ⟨g, o, none⟩ u).heap[g]? = some (.cells (l.set o u).toArray t (0, 0)) := by
  simp only [World.setCell, Array.getElem?_modify, if_true, h, Option.map_some]
  simp

/-- A list of its owner's, k elements written over; nothing else that was there has turned. -/
structure Ov (W wr : World) (g t : Nat) (l c : List Value) (k : Nat) : Prop where
  heap : wr.heap[g]? = some (.cells (over l c k).toArray t (0, 0))
  grown : W.grownBy wr (some g)

theorem grown_trans {a b c : World} {g : Nat} (h : a.grownBy b (some g)) (k : b.grownBy c (some g)) : a.grownBy c (some g) :=
  ⟨k.os.trans h.os, k.tape.trans h.tape, k.output.trans h.output, Nat.le_trans h.size k.size, fun i hi hne => (k.block i (Nat.lt_of_lt_of_le hi h.size) hne).trans (h.block i hi hne)⟩

theorem grown_set (w : World) (g o : Nat) (u : Value) : w.grownBy (w.setCell ⟨g, o, none⟩ u) (some g) :=
  ⟨rfl, rfl, rfl, by simp [World.setCell], fun k _ hne => Below.heap_setCell _ _ _ _ (fun e => hne (by rw [e]))⟩

theorem grown_drew {a b : World} {r : Option Nat} (h : a.grownBy b r) : a.grownBy b.drew r := ⟨h.os, h.tape, h.output, h.size, h.block⟩

theorem Ov.alloc {W wr : World} {g t k : Nat} {l c : List Value} (h : Ov W wr g t l c k) (o : Obj) : Ov W (wr.alloc o) g t l c k :=
  ⟨(Below.heap_alloc _ _ _ (heap_lt h.heap)).trans h.heap, grown_trans h.grown (World.grownBy_alloc _ _ _)⟩

theorem Ov.drew {W wr : World} {g t k : Nat} {l c : List Value} (h : Ov W wr g t l c k) : Ov W wr.drew g t l c k := ⟨h.heap, grown_drew h.grown⟩

theorem Ov.two {W wr : World} {g t k : Nat} {l : List Value} {a b : Value} (h : Ov W wr g t l [a, b] k) (hk : k * 2 + 1 < l.length) : Ov W ((wr.setCell ⟨g, k * 2, none⟩ a).setCell ⟨g, k * 2 + 1, none⟩ b) g t l [a, b] (k + 1) := by
  refine ⟨?_, grown_trans (grown_trans h.grown (grown_set _ _ _ _)) (grown_set _ _ _ _)⟩
  rw [← over_two l a b k hk]
  exact heap_set (heap_set h.heap _ _) _ _

theorem Ov.three {W wr : World} {g t k : Nat} {l : List Value} {a b c : Value} (h : Ov W wr g t l [a, b, c] k) (hk : k * 3 + 2 < l.length) : Ov W (((wr.setCell ⟨g, k * 3, none⟩ a).setCell ⟨g, k * 3 + 1, none⟩ b).setCell ⟨g, k * 3 + 2, none⟩ c) g t l [a, b, c] (k + 1) := by
  refine ⟨?_, grown_trans (grown_trans (grown_trans h.grown (grown_set _ _ _ _)) (grown_set _ _ _ _)) (grown_set _ _ _ _)⟩
  rw [← over_three l a b c k hk]
  exact heap_set (heap_set (heap_set h.heap _ _) _ _) _ _

theorem Ov.cell {W wr : World} {g t k : Nat} {l c : List Value} (h : Ov W wr g t l c k) (j : Nat) (hj : k * c.length ≤ j) : wr.cell? ⟨g, j, none⟩ = l[j]? := by
  rw [heap_cell h.heap]
  simpa using over_get l c k j hj

theorem Ov.other {W wr : World} {g t k : Nat} {l c : List Value} (h : Ov W wr g t l c k) {b o : Nat} (hb : b < W.heap.size) (hne : b ≠ g) : wr.cell? ⟨b, o, none⟩ = W.cell? ⟨b, o, none⟩ :=
  World.cell?_of_block (w := W) (a := ⟨b, o, none⟩) (h.grown.block b hb (by simpa using hne))

theorem Ov.lt {W wr : World} {g t k : Nat} {l c : List Value} (h : Ov W wr g t l c k) {b : Nat} (hb : b < W.heap.size) : b < wr.heap.size := Nat.lt_of_lt_of_le hb h.grown.size

theorem new_cell {w : World} {b o : Nat} {v : Value} (h : w.cell? ⟨b, o, none⟩ = some v) : ∀ x, (w.alloc x).cell? ⟨b, o, none⟩ = some v := fun _ => (World.cell?_alloc_lt _ _ _ (World.block_lt_of_cell? w _ h)).trans h

theorem new_free {w : World} {b o : Nat} (hb : b < w.heap.size) (h : w.frozen? ⟨b, o, none⟩ = false) : ∀ x, (w.alloc x).frozen? ⟨b, o, none⟩ = false := fun _ => (World.frozen?_of_block (w := w) (a := ⟨b, o, none⟩) (Below.heap_alloc _ _ _ hb)).trans h

/-- What the list holds at j: the given number, or zero. -/
theorem lent_get (zs : List Int) (m j : Nat) (hj : j < zs.length + m) : (ivs zs ++ List.replicate m (Value.int .i64 0))[j]? = some (.int .i64 (zs.getD j 0)) := by
  by_cases h : j < zs.length
  · rw [List.getElem?_append_left (by simpa [ivs] using h)]
    simp [ivs, h]
  · rw [List.getElem?_append_right (by simpa [ivs] using h)]
    simp [ivs, List.getElem?_replicate, List.getD]
    rw [List.getElem?_eq_none (by omega)]
    simp
    omega

theorem Src.at {w : World} {p : Option Addr} {sz n c : Nat} {zs : List Int} (h : Src w (.slice p n c) sz n zs) (hn : 0 < n) (hs : 0 < sz) : ∃ b o, p = some ⟨b, o, none⟩ ∧ b < w.heap.size ∧ ∀ j, j < n * sz → w.cell? ⟨b, o + j, none⟩ = some (.int .i64 (zs.getD j 0)) := by
  obtain ⟨h1, p', c', h2, h3, h4⟩ := h
  cases h2
  cases p with
  | none => have := h3 rfl; omega
  | some a =>
    have h6 := h4 a rfl
    have hlen : 0 < zs.length := by rw [h1]; exact Nat.mul_pos hn hs
    have h0 := h6 0 zs[0] (List.getElem?_eq_getElem hlen)
    have hsp := World.cell?_spot h0
    obtain ⟨b, o, sp⟩ := a
    simp [Addr.add] at hsp
    subst hsp
    refine ⟨b, o, rfl, World.block_lt_of_cell? w _ h0, fun j hj => ?_⟩
    have := h6 j zs[j] (List.getElem?_eq_getElem (by omega))
    have hd : zs.getD j 0 = zs[j] := by simp [List.getD, List.getElem?_eq_getElem (show j < zs.length by omega)]
    rw [hd]
    unfold Addr.add at this
    split at this
    · rename_i h; subst h; exact this
    · exact this

theorem eq83 (a b : Int) (W : World) : (binOp .eql 54 (.agg #[.int .i64 a, .int .i64 b]) (.agg #[.int .i64 a, .int .i64 b])).run Tryz.prog W = .ok (.bool true) W := by
  have u3 := Tryz.underlying3
  have a3 := Tryz.isAgg3
  have z3 := Tryz.sizeOf3
  have hS : Tryz.prog.underlying 54 = some (.struct (Tryz.prog.fieldsOf 54)) := by kernel_rfl
  have hp : Tryz.prog.stoodInHeld 54 = false := by kernel_rfl
  rw [run_eql_struct, show (10000 : Nat) = 9999 + 1 from rfl, run_equalIn_agg W 9999 54 _ _ hS hp]
  simp only [Program.fieldsOf, Tryz.underlying54]
  go_simp

theorem eq66 (a b c : Int) (W : World) : (binOp .eql 46 (.agg #[.int .i64 a, .int .i64 b, .int .i64 c]) (.agg #[.int .i64 a, .int .i64 b, .int .i64 c])).run Tryz.prog W = .ok (.bool true) W := by
  have u3 := Tryz.underlying3
  have a3 := Tryz.isAgg3
  have z3 := Tryz.sizeOf3
  have hS : Tryz.prog.underlying 46 = some (.struct (Tryz.prog.fieldsOf 46)) := by kernel_rfl
  have hp : Tryz.prog.stoodInHeld 46 = false := by kernel_rfl
  rw [run_eql_struct, show (10000 : Nat) = 9999 + 1 from rfl, run_equalIn_agg W 9999 46 _ _ hS hp]
  simp only [Program.fieldsOf, Tryz.underlying46]
  go_simp

/-- What 'still' finds where it begins its next loop: its two arguments in blocks of their own; of what was there nothing has turned but the lent lists. -/
structure Sb (w W : World) (b0 g1 g2 g3 : Nat) (bx bo : Array Value) : Prop where
  hbx : W.heap[b0]? = some (.cells bx 80 (0, 0))
  hbo : W.heap[b0 + 1]? = some (.cells bo 62 (0, 0))
  b0w : b0 = w.heap.size
  os : W.os = w.os
  tape : W.tape = w.tape
  output : W.output = w.output
  size : w.heap.size + 2 ≤ W.heap.size
  kept : ∀ k, k < w.heap.size → k ≠ g1 → k ≠ g2 → k ≠ g3 → W.heap[k]? = w.heap[k]?

theorem Sb.step {w W W' : World} {b0 g1 g2 g3 g : Nat} {bx bo : Array Value} (h : Sb w W b0 g1 g2 g3 bx bo) (hg : W.grownBy W' (some g)) (he : g = g1 ∨ g = g2 ∨ g = g3) (hl : g < b0) : Sb w W' b0 g1 g2 g3 bx bo := by
  have := h.b0w
  have := h.size
  refine ⟨(hg.block _ (by omega) (by simp; omega)).trans h.hbx, (hg.block _ (by omega) (by simp; omega)).trans h.hbo, h.b0w, hg.os.trans h.os, hg.tape.trans h.tape, hg.output.trans h.output, Nat.le_trans h.size hg.size, fun k hk k1 k2 k3 => ?_⟩
  rw [hg.block k (by omega) (by simp; rcases he with rfl | rfl | rfl <;> assumption)]
  exact h.kept k hk k1 k2 k3

theorem Sb.x {w W : World} {b0 g1 g2 g3 : Nat} {bx bo : Array Value} (h : Sb w W b0 g1 g2 g3 bx bo) {wr : World} {g t k : Nat} {l c : List Value} (hO : Ov W wr g t l c k) (hl : g < b0) (j : Nat) : wr.cell? ⟨b0, j, none⟩ = bx[j]? := by
  have := h.b0w
  have := h.size
  rw [hO.other (by omega) (by omega)]
  exact heap_cell h.hbx j

theorem Sb.o {w W : World} {b0 g1 g2 g3 : Nat} {bx bo : Array Value} (h : Sb w W b0 g1 g2 g3 bx bo) {wr : World} {g t k : Nat} {l c : List Value} (hO : Ov W wr g t l c k) (hl : g < b0) (j : Nat) : wr.cell? ⟨b0 + 1, j, none⟩ = bo[j]? := by
  have := h.b0w
  have := h.size
  rw [hO.other (by omega) (by omega)]
  exact heap_cell h.hbo j

theorem Sb.q {w W : World} {b0 g1 g2 g3 : Nat} {bx bo : Array Value} (h : Sb w W b0 g1 g2 g3 bx bo) {wr : World} {g t k S q : Nat} {l c : List Value} (hO : Ov W wr g t l c k) (hq : q < S) (hw : q < w.heap.size) (h1 : S ≤ g1) (h2 : S ≤ g2) (h3 : S ≤ g3) (hg : S ≤ g) (j : Nat) : wr.cell? ⟨q, j, none⟩ = w.cell? ⟨q, j, none⟩ := by
  have := h.size
  rw [hO.other (by omega) (by omega)]
  exact World.cell?_of_block (w := w) (a := ⟨q, j, none⟩) (h.kept q hw (by omega) (by omega) (by omega))

/-- Of what was there nothing has turned but three lists. -/
structure But (w w' : World) (g1 g2 g3 : Nat) : Prop where
  os : w'.os = w.os
  tape : w'.tape = w.tape
  output : w'.output = w.output
  size : w.heap.size ≤ w'.heap.size
  kept : ∀ k, k < w.heap.size → k ≠ g1 → k ≠ g2 → k ≠ g3 → w'.heap[k]? = w.heap[k]?

theorem Sb.but {w W : World} {b0 g1 g2 g3 : Nat} {bx bo : Array Value} (h : Sb w W b0 g1 g2 g3 bx bo) : But w W g1 g2 g3 := ⟨h.os, h.tape, h.output, by have := h.size; omega, h.kept⟩

set_option maxRecDepth 100000 in
set_option maxHeartbeats 4000000 in
theorem still_any (w : World) (kd x y : Int) (v1 v2 v3 : Value) (S n1 n2 n3 g1 g2 g3 : Nat) (z1 z2 z3 : List Int) (h1 : n1 ≤ 2000000) (h2 : n2 ≤ 2000000) (h3 : n3 ≤ 2000000)
    (s1 : Src w v1 2 n1 z1) (s2 : Src w v2 2 n2 z2) (s3 : Src w v3 3 n3 z3)
    (hS : ∀ v ∈ [v1, v2, v3], ∀ a n c, v = .slice (some a) n c → 0 < n → a.block < S) (S1 : S ≤ g1) (S2 : S ≤ g2) (S3 : S ≤ g3)
    (e1 : w.heap[g1]? = some (.cells (ivs z1 ++ List.replicate 6 (Value.int .i64 0)).toArray 35 (0, 0)))
    (e2 : w.heap[g2]? = some (.cells (ivs z2 ++ List.replicate 6 (Value.int .i64 0)).toArray 54 (0, 0)))
    (e3 : w.heap[g3]? = some (.cells (ivs z3 ++ List.replicate 9 (Value.int .i64 0)).toArray 46 (0, 0))) :
    Calls Tryz.prog 55 #[.agg #[.slice (some ⟨g1, 0, none⟩) (n1 + 3) (n1 + 3), .slice (some ⟨g2, 0, none⟩) (n2 + 3) (n2 + 3), .slice (some ⟨g3, 0, none⟩) (n3 + 3) (n3 + 3)], opV kd v1 v2 v3 x y] w fun e w' => e = .returned (.bool true) ∧ But w w' g1 g2 g3 := by
  have HS1 := hid s1
  have HS2 := hid s2
  have HS3 := hid s3
  have HE1 := hid e1
  have HE2 := hid e2
  have HE3 := hid e3
  have HQ := hid hS
  have ne12 : g1 ≠ g2 := by rintro rfl; rw [e1] at e2; simp at e2
  have ne13 : g1 ≠ g3 := by rintro rfl; rw [e1] at e3; simp at e3
  have ne23 : g2 ≠ g3 := by rintro rfl; rw [e2] at e3; simp at e3
  clear s1 s2 s3 e1 e2 e3 hS
  unfold opV
  obtain ⟨p1, c1, rfl⟩ : ∃ p c, v1 = .slice p n1 c := by obtain ⟨_, p, c, e, _⟩ := HS1.out; exact ⟨p, c, e⟩
  obtain ⟨p2, c2, rfl⟩ : ∃ p c, v2 = .slice p n2 c := by obtain ⟨_, p, c, e, _⟩ := HS2.out; exact ⟨p, c, e⟩
  obtain ⟨p3, c3, rfl⟩ : ∃ p c, v3 = .slice p n3 c := by obtain ⟨_, p, c, e, _⟩ := HS3.out; exact ⟨p, c, e⟩
  go_enter Tryz.func55, Tryz.ntmps55
  go_wp2
  obtain ⟨W, hW⟩ : ∃ W : World, W = (w.alloc (.cells #[.slice (some ⟨g1, 0, none⟩) (n1 + 3) (n1 + 3), .slice (some ⟨g2, 0, none⟩) (n2 + 3) (n2 + 3), .slice (some ⟨g3, 0, none⟩) (n3 + 3) (n3 + 3)] 80)).alloc (.cells #[.int .i64 kd, .slice p1 n1 c1, .slice p2 n2 c2, .slice p3 n3 c3, .int .i64 x, .int .i64 y] 62) := ⟨_, rfl⟩
  rw [← hW]
  obtain ⟨b0, hb0⟩ : ∃ b0, b0 = w.heap.size := ⟨_, rfl⟩
  have SB1 : Hid (Sb w W b0 g1 g2 g3 #[.slice (some ⟨g1, 0, none⟩) (n1 + 3) (n1 + 3), .slice (some ⟨g2, 0, none⟩) (n2 + 3) (n2 + 3), .slice (some ⟨g3, 0, none⟩) (n3 + 3) (n3 + 3)] #[.int .i64 kd, .slice p1 n1 c1, .slice p2 n2 c2, .slice p3 n3 c3, .int .i64 x, .int .i64 y]) := by
    subst hW
    refine hid ⟨?_, ?_, hb0, rfl, rfl, rfl, by simp, fun k hk _ _ _ => ?_⟩
    · rw [hb0, Below.heap_alloc _ _ _ (by rw [size_new]; omega)]; exact heap_new _ _
    · rw [hb0, ← size_new w]; exact heap_new _ _
    · rw [Below.heap_alloc _ _ _ (by rw [size_new]; omega), Below.heap_alloc _ _ _ hk]
  have HGW : Hid (∀ k, k < w.heap.size → W.heap[k]? = w.heap[k]?) := by subst hW; exact hid fun k hk => by rw [Below.heap_alloc _ _ _ (by rw [size_new]; omega), Below.heap_alloc _ _ _ hk]
  have l1 : g1 < b0 := by rw [hb0]; exact heap_lt HE1.out
  have l2 : g2 < b0 := by rw [hb0]; exact heap_lt HE2.out
  have l3 : g3 < b0 := by rw [hb0]; exact heap_lt HE3.out
  have F1 : Hid (W.heap[g1]? = some (.cells (ivs z1 ++ List.replicate 6 (Value.int .i64 0)).toArray 35 (0, 0))) := hid ((HGW.out g1 (by omega)).trans HE1.out)
  have F2 : Hid (W.heap[g2]? = some (.cells (ivs z2 ++ List.replicate 6 (Value.int .i64 0)).toArray 54 (0, 0))) := hid ((HGW.out g2 (by omega)).trans HE2.out)
  have F3 : Hid (W.heap[g3]? = some (.cells (ivs z3 ++ List.replicate 9 (Value.int .i64 0)).toArray 46 (0, 0))) := hid ((HGW.out g3 (by omega)).trans HE3.out)
  rw [← hb0]
  clear hb0 hW HGW HE1 HE2 HE3
  go_loopw [5, 6] (fun ok i wr => ∃ k : Nat, k ≤ n1 + 3 ∧ i = .int .i64 k ∧ ok = .bool true ∧ Hid (Ov W wr g1 35 (ivs z1 ++ List.replicate 6 (Value.int .i64 0)) [.int .i64 77, .int .i64 (-77)] k)) (fun _ i _ => n1 + 3 - (intOf i).toNat)
  case atStart => exact ⟨0, Nat.zero_le _, rfl, rfl, hid ⟨by rw [over_zero]; exact F1.out, World.grownBy.refl _ _⟩⟩
  case round =>
    obtain ⟨k, hk, rfl, rfl, hO⟩ := hrel
    have bx : wr.cell? ⟨b0, 0, none⟩ = some (.slice (some ⟨g1, 0, none⟩) (n1 + 3) (n1 + 3)) := SB1.out.x hO.out l1 0
    have bo : wr.cell? ⟨b0 + 1, 1, none⟩ = some (.slice p1 n1 c1) := SB1.out.o hO.out l1 1
    by_cases hlt : k < n1 + 3
    · have hlen := HS1.out.1
      have ca : wr.cell? ⟨g1, k * 2, none⟩ = some (.int .i64 (z1.getD (k * 2) 0)) := by rw [hO.out.cell (k * 2) (by simp)]; exact lent_get _ _ _ (by omega)
      have fa : wr.frozen? ⟨g1, k * 2, none⟩ = false := heap_free hO.out.heap _
      have cb : wr.cell? ⟨g1, k * 2 + 1, none⟩ = some (.int .i64 (z1.getD (k * 2 + 1) 0)) := by rw [hO.out.cell (k * 2 + 1) (by simp)]; exact lent_get _ _ _ (by omega)
      have fb : wr.frozen? ⟨g1, k * 2 + 1, none⟩ = false := heap_free hO.out.heap _
      have i1 : (k : Int) < n1 + 3 := by omega
      by_cases hin : k < n1
      · obtain ⟨q, qo, hp, hq, hc⟩ := HS1.out.at (by omega) (by omega)
        have qS : q < S := HQ.out (.slice p1 n1 c1) (by simp) ⟨q, qo, none⟩ n1 c1 (by rw [hp]) (by omega)
        have ha : wr.cell? ⟨q, qo + k * 2, none⟩ = some (.int .i64 (z1.getD (k * 2) 0)) := by rw [SB1.out.q hO.out qS hq S1 S2 S3 S1]; exact hc (k * 2) (by omega)
        have hb : wr.cell? ⟨q, qo + k * 2 + 1, none⟩ = some (.int .i64 (z1.getD (k * 2 + 1) 0)) := by rw [SB1.out.q hO.out qS hq S1 S2 S3 S1]; exact hc (k * 2 + 1) (by omega)
        subst hp
        clear hc
        generalize z1.getD (k * 2) 0 = va at *
        generalize z1.getD (k * 2 + 1) 0 = vb at *
        have E := eq33 va vb
        have ha' := new_cell ha
        have hb' := new_cell hb
        have i0 : (k : Int) < n1 := by omega
        have ca' := new_cell ca
        have fa' := new_free (heap_lt hO.out.heap) fa
        have cb' := new_cell cb
        have fb' := new_free (heap_lt hO.out.heap) fb
        have bx' := new_cell bx
        have bo' := new_cell bo
        go_wp2
        go_region
        all_goals go_wp2
        all_goals exact ⟨⟨k + 1, by omega, by go_num, rfl, hid ((hO.out.alloc _).two (by simp [ivs]; omega)).drew⟩, by simp [intOf]; omega⟩
      · have i0 : ¬ (k : Int) < n1 := by omega
        have zz : ∀ j, n1 * 2 ≤ j → z1.getD j 0 = 0 := fun j hj => by simp [List.getD, List.getElem?_eq_none (show z1.length ≤ j by omega)]
        rw [zz _ (by omega)] at ca cb
        clear zz
        have E := eq33 0 0
        have ca' := new_cell ca
        have fa' := new_free (heap_lt hO.out.heap) fa
        have cb' := new_cell cb
        have fb' := new_free (heap_lt hO.out.heap) fb
        have bx' := new_cell bx
        have bo' := new_cell bo
        go_wp2
        go_region
        all_goals go_wp2
        all_goals exact ⟨⟨k + 1, by omega, by go_num, rfl, hid ((hO.out.alloc _).two (by simp [ivs]; omega)).drew⟩, by simp [intOf]; omega⟩
    · have hkn : k = n1 + 3 := by omega
      subst hkn
      clear hlt hk
      have i1 : ¬ ((n1 + 3 : Nat) : Int) < n1 + 3 := by omega
      obtain ⟨W2, rfl⟩ : ∃ W2, W2 = wr := ⟨wr, rfl⟩
      have SB2 := hid (SB1.out.step hO.out.grown (by simp) l1)
      have F2 := hid ((hO.out.grown.block g2 (by have := SB1.out.size; have := SB1.out.b0w; omega) (by simp; omega)).trans F2.out)
      have F3 := hid ((hO.out.grown.block g3 (by have := SB1.out.size; have := SB1.out.b0w; omega) (by simp; omega)).trans F3.out)
      clear SB1 hO
      go_wp2
      go_loopw [5, 8] (fun ok i wr => ∃ k : Nat, k ≤ n2 + 3 ∧ i = .int .i64 k ∧ ok = .bool true ∧ Hid (Ov W2 wr g2 54 (ivs z2 ++ List.replicate 6 (Value.int .i64 0)) [.int .i64 (-5), .int .i64 0] k)) (fun _ i _ => n2 + 3 - (intOf i).toNat)
      case atStart => exact ⟨0, Nat.zero_le _, rfl, rfl, hid ⟨by rw [over_zero]; exact F2.out, World.grownBy.refl _ _⟩⟩
      case round =>
        obtain ⟨k, hk, rfl, rfl, hO⟩ := hrel
        have bx : wr.cell? ⟨b0, 1, none⟩ = some (.slice (some ⟨g2, 0, none⟩) (n2 + 3) (n2 + 3)) := SB2.out.x hO.out l2 1
        have bo : wr.cell? ⟨b0 + 1, 2, none⟩ = some (.slice p2 n2 c2) := SB2.out.o hO.out l2 2
        by_cases hlt : k < n2 + 3
        · have hlen := HS2.out.1
          have ca : wr.cell? ⟨g2, k * 2, none⟩ = some (.int .i64 (z2.getD (k * 2) 0)) := by rw [hO.out.cell (k * 2) (by simp)]; exact lent_get _ _ _ (by omega)
          have fa : wr.frozen? ⟨g2, k * 2, none⟩ = false := heap_free hO.out.heap _
          have cb : wr.cell? ⟨g2, k * 2 + 1, none⟩ = some (.int .i64 (z2.getD (k * 2 + 1) 0)) := by rw [hO.out.cell (k * 2 + 1) (by simp)]; exact lent_get _ _ _ (by omega)
          have fb : wr.frozen? ⟨g2, k * 2 + 1, none⟩ = false := heap_free hO.out.heap _
          have i1 : (k : Int) < n2 + 3 := by omega
          by_cases hin : k < n2
          · obtain ⟨q, qo, hp, hq, hc⟩ := HS2.out.at (by omega) (by omega)
            have qS : q < S := HQ.out (.slice p2 n2 c2) (by simp) ⟨q, qo, none⟩ n2 c2 (by rw [hp]) (by omega)
            have ha : wr.cell? ⟨q, qo + k * 2, none⟩ = some (.int .i64 (z2.getD (k * 2) 0)) := by rw [SB2.out.q hO.out qS hq S1 S2 S3 S2]; exact hc (k * 2) (by omega)
            have hb : wr.cell? ⟨q, qo + k * 2 + 1, none⟩ = some (.int .i64 (z2.getD (k * 2 + 1) 0)) := by rw [SB2.out.q hO.out qS hq S1 S2 S3 S2]; exact hc (k * 2 + 1) (by omega)
            subst hp
            clear hc
            generalize z2.getD (k * 2) 0 = va at *
            generalize z2.getD (k * 2 + 1) 0 = vb at *
            have E := eq83 va vb
            have ha' := new_cell ha
            have hb' := new_cell hb
            have i0 : (k : Int) < n2 := by omega
            have ca' := new_cell ca
            have fa' := new_free (heap_lt hO.out.heap) fa
            have cb' := new_cell cb
            have fb' := new_free (heap_lt hO.out.heap) fb
            have bx' := new_cell bx
            have bo' := new_cell bo
            go_wp2
            go_region
            all_goals go_wp2
            all_goals exact ⟨⟨k + 1, by omega, by go_num, rfl, hid ((hO.out.alloc _).two (by simp [ivs]; omega)).drew⟩, by simp [intOf]; omega⟩
          · have i0 : ¬ (k : Int) < n2 := by omega
            have zz : ∀ j, n2 * 2 ≤ j → z2.getD j 0 = 0 := fun j hj => by simp [List.getD, List.getElem?_eq_none (show z2.length ≤ j by omega)]
            rw [zz _ (by omega)] at ca cb
            clear zz
            have E := eq83 0 0
            have ca' := new_cell ca
            have fa' := new_free (heap_lt hO.out.heap) fa
            have cb' := new_cell cb
            have fb' := new_free (heap_lt hO.out.heap) fb
            have bx' := new_cell bx
            have bo' := new_cell bo
            go_wp2
            go_region
            all_goals go_wp2
            all_goals exact ⟨⟨k + 1, by omega, by go_num, rfl, hid ((hO.out.alloc _).two (by simp [ivs]; omega)).drew⟩, by simp [intOf]; omega⟩
        · have hkn : k = n2 + 3 := by omega
          subst hkn
          clear hlt hk
          have i1 : ¬ ((n2 + 3 : Nat) : Int) < n2 + 3 := by omega
          obtain ⟨W3, rfl⟩ : ∃ W3, W3 = wr := ⟨wr, rfl⟩
          have SB3 := hid (SB2.out.step hO.out.grown (by simp) l2)
          have F3 := hid ((hO.out.grown.block g3 (by have := SB2.out.size; have := SB2.out.b0w; omega) (by simp; omega)).trans F3.out)
          clear SB2 hO
          go_wp2
          go_loopw [5, 10] (fun ok i wr => ∃ k : Nat, k ≤ n3 + 3 ∧ i = .int .i64 k ∧ ok = .bool true ∧ Hid (Ov W3 wr g3 46 (ivs z3 ++ List.replicate 9 (Value.int .i64 0)) [.int .i64 (-5), .int .i64 0, .int .i64 0] k)) (fun _ i _ => n3 + 3 - (intOf i).toNat)
          case atStart => exact ⟨0, Nat.zero_le _, rfl, rfl, hid ⟨by rw [over_zero]; exact F3.out, World.grownBy.refl _ _⟩⟩
          case round =>
            obtain ⟨k, hk, rfl, rfl, hO⟩ := hrel
            have bx : wr.cell? ⟨b0, 2, none⟩ = some (.slice (some ⟨g3, 0, none⟩) (n3 + 3) (n3 + 3)) := SB3.out.x hO.out l3 2
            have bo : wr.cell? ⟨b0 + 1, 3, none⟩ = some (.slice p3 n3 c3) := SB3.out.o hO.out l3 3
            by_cases hlt : k < n3 + 3
            · have hlen := HS3.out.1
              have ca : wr.cell? ⟨g3, k * 3, none⟩ = some (.int .i64 (z3.getD (k * 3) 0)) := by rw [hO.out.cell (k * 3) (by simp)]; exact lent_get _ _ _ (by omega)
              have fa : wr.frozen? ⟨g3, k * 3, none⟩ = false := heap_free hO.out.heap _
              have cb : wr.cell? ⟨g3, k * 3 + 1, none⟩ = some (.int .i64 (z3.getD (k * 3 + 1) 0)) := by rw [hO.out.cell (k * 3 + 1) (by simp)]; exact lent_get _ _ _ (by omega)
              have fb : wr.frozen? ⟨g3, k * 3 + 1, none⟩ = false := heap_free hO.out.heap _
              have cd : wr.cell? ⟨g3, k * 3 + 2, none⟩ = some (.int .i64 (z3.getD (k * 3 + 2) 0)) := by rw [hO.out.cell (k * 3 + 2) (by simp)]; exact lent_get _ _ _ (by omega)
              have fd : wr.frozen? ⟨g3, k * 3 + 2, none⟩ = false := heap_free hO.out.heap _
              have i1 : (k : Int) < n3 + 3 := by omega
              by_cases hin : k < n3
              · obtain ⟨q, qo, hp, hq, hc⟩ := HS3.out.at (by omega) (by omega)
                have qS : q < S := HQ.out (.slice p3 n3 c3) (by simp) ⟨q, qo, none⟩ n3 c3 (by rw [hp]) (by omega)
                have ha : wr.cell? ⟨q, qo + k * 3, none⟩ = some (.int .i64 (z3.getD (k * 3) 0)) := by rw [SB3.out.q hO.out qS hq S1 S2 S3 S3]; exact hc (k * 3) (by omega)
                have hb : wr.cell? ⟨q, qo + k * 3 + 1, none⟩ = some (.int .i64 (z3.getD (k * 3 + 1) 0)) := by rw [SB3.out.q hO.out qS hq S1 S2 S3 S3]; exact hc (k * 3 + 1) (by omega)
                have hd : wr.cell? ⟨q, qo + k * 3 + 2, none⟩ = some (.int .i64 (z3.getD (k * 3 + 2) 0)) := by rw [SB3.out.q hO.out qS hq S1 S2 S3 S3]; exact hc (k * 3 + 2) (by omega)
                subst hp
                clear hc
                generalize z3.getD (k * 3) 0 = va at *
                generalize z3.getD (k * 3 + 1) 0 = vb at *
                generalize z3.getD (k * 3 + 2) 0 = vd at *
                have E := eq66 va vb vd
                have ha' := new_cell ha
                have hb' := new_cell hb
                have hd' := new_cell hd
                have i0 : (k : Int) < n3 := by omega
                have ca' := new_cell ca
                have fa' := new_free (heap_lt hO.out.heap) fa
                have cb' := new_cell cb
                have fb' := new_free (heap_lt hO.out.heap) fb
                have cd' := new_cell cd
                have fd' := new_free (heap_lt hO.out.heap) fd
                have bx' := new_cell bx
                have bo' := new_cell bo
                go_wp2
                go_region
                all_goals go_wp2
                all_goals exact ⟨⟨k + 1, by omega, by go_num, rfl, hid ((hO.out.alloc _).three (by simp [ivs]; omega)).drew⟩, by simp [intOf]; omega⟩
              · have i0 : ¬ (k : Int) < n3 := by omega
                have zz : ∀ j, n3 * 3 ≤ j → z3.getD j 0 = 0 := fun j hj => by simp [List.getD, List.getElem?_eq_none (show z3.length ≤ j by omega)]
                rw [zz _ (by omega)] at ca cb cd
                clear zz
                have E := eq66 0 0 0
                have ca' := new_cell ca
                have fa' := new_free (heap_lt hO.out.heap) fa
                have cb' := new_cell cb
                have fb' := new_free (heap_lt hO.out.heap) fb
                have cd' := new_cell cd
                have fd' := new_free (heap_lt hO.out.heap) fd
                have bx' := new_cell bx
                have bo' := new_cell bo
                go_wp2
                go_region
                all_goals go_wp2
                all_goals exact ⟨⟨k + 1, by omega, by go_num, rfl, hid ((hO.out.alloc _).three (by simp [ivs]; omega)).drew⟩, by simp [intOf]; omega⟩
            · have hkn : k = n3 + 3 := by omega
              subst hkn
              clear hlt hk
              have i1 : ¬ ((n3 + 3 : Nat) : Int) < n3 + 3 := by omega
              obtain ⟨W4, rfl⟩ : ∃ W4, W4 = wr := ⟨wr, rfl⟩
              have SB4 := hid (SB3.out.step hO.out.grown (by simp) l3)
              clear SB3 hO
              go_wp2
              go_ret
              exact ⟨rfl, SB4.out.but⟩
end Go.Proofs.YtdbebbbceeopaaaGreat
