import Derived.Test.YtdbebbbceeopaaaGreatC18
import Derived.Test.YtdbebbbceeopaaaGreatC6
import Derived.Test.YtdbebbbceeopaaaGreatC17
import Derived.Test.YtdbebbbceeopaaaGreatC12
import Derived.Test.YtdbebbbceeopaaaGreatC15
import Derived.Test.YtdbebbbceeopaaaGreatC2
import Derived.Test.YtdbebbbceeopaaaGreatC3
set_option linter.unusedSimpArgs false
namespace Go.Proofs.YtdbebbbceeopaaaGreat
open Go.RowKit Go.Maps Go.Shelf
open Go.Sort (grow Holds putRow SWO PermIn SortedIn alloc_eq_grow grow_grow cell?_grow cell?_putRow_other)

/-- A triangle's three numbers. -/
abbrev T3 := Nat × Nat × Nat

def enc3 (t : T3) : List Value := [.int .i64 t.1, .int .i64 t.2.1, .int .i64 t.2.2]

def cf3 (t u : T3) : Int := orI (cmpI t.1 u.1) (orI (cmpI t.2.1 u.2.1) (cmpI t.2.2 u.2.2))

def lt3 (t u : T3) : Prop := t.1 < u.1 ∨ (t.1 = u.1 ∧ (t.2.1 < u.2.1 ∨ (t.2.1 = u.2.1 ∧ t.2.2 < u.2.2)))

theorem cf3_lt (t u : T3) : (cf3 t u < 0) ↔ lt3 t u := by
  unfold cf3 lt3 orI cmpI
  obtain ⟨a, b, c⟩ := t
  obtain ⟨d, e, f⟩ := u
  dsimp only
  rcases Nat.lt_trichotomy a d with h | h | h
  · have h1 : (a : Int) < d := by omega
    simp [h1, h]
  · subst h
    rcases Nat.lt_trichotomy b e with h | h | h
    · have h1 : (b : Int) < e := by omega
      simp [h1, h]
    · subst h
      rcases Nat.lt_trichotomy c f with h | h | h
      · have h1 : (c : Int) < f := by omega
        simp [h1, h]
      · subst h; simp
      · have h1 : ¬ (c : Int) < f := by omega
        have h2 : (f : Int) < c := by omega
        have h3 : ¬ c < f := by omega
        simp [h1, h2, h3]
    · have h1 : ¬ (b : Int) < e := by omega
      have h2 : (e : Int) < b := by omega
      have h3 : ¬ b < e := by omega
      have h4 : ¬ b = e := by omega
      simp [h1, h2, h3, h4]
  · have h1 : ¬ (a : Int) < d := by omega
    have h2 : (d : Int) < a := by omega
    have h3 : ¬ a < d := by omega
    have h4 : ¬ a = d := by omega
    simp [h1, h2, h3, h4]

theorem cf3_swo : SWO (ltOf cf3) := by
  refine ⟨fun x => ?_, fun x y z h1 h2 => ?_, fun x y z h1 h2 => ?_⟩
  · unfold ltOf; rw [decide_eq_false_iff_not, cf3_lt]; unfold lt3; omega
  · unfold ltOf at *
    rw [decide_eq_true_iff, cf3_lt] at *
    unfold lt3 at *; omega
  · unfold ltOf at *
    rw [decide_eq_false_iff_not, cf3_lt] at *
    unfold lt3 at *; omega

set_option maxHeartbeats 800000 in
theorem or3_any (b : Nat) (x y z : Int) (w : World) (h0 : w.cell? ⟨b, 0, none⟩ = some (.int .i64 x)) (h1 : w.cell? ⟨b, 1, none⟩ = some (.int .i64 y)) (h2 : w.cell? ⟨b, 2, none⟩ = some (.int .i64 z)) :
    Calls Tryz.prog 80 #[.slice (some ⟨b, 0, none⟩) 3 3] w fun e w' => e = .returned (.int .i64 (orI x (orI y z))) ∧ w' = w := by
  unfold orI
  by_cases hx : x = 0
  · subst hx
    by_cases hy : y = 0
    · subst hy
      by_cases hz : z = 0
      · subst hz
        go_enter Tryz.func80, Tryz.ntmps80
        go_wp2
        refine wp_loop_rounds 4 ?_
        rw [rounds_succ]
        go_wp2
        rw [rounds_succ]
        go_wp2
        rw [rounds_succ]
        go_wp2
        rw [rounds_succ]
        go_wp2
        go_ret
        exact ⟨rfl, rfl⟩
      · have hz' : (z != 0) = true := by simpa using hz
        go_enter Tryz.func80, Tryz.ntmps80
        go_wp2
        refine wp_loop_rounds 3 ?_
        rw [rounds_succ]
        go_wp2
        rw [rounds_succ]
        go_wp2
        rw [rounds_succ]
        go_wp2
        go_ret
        exact ⟨rfl, rfl⟩
    · have hy' : (y != 0) = true := by simpa using hy
      rw [if_pos hy]
      go_enter Tryz.func80, Tryz.ntmps80
      go_wp2
      refine wp_loop_rounds 2 ?_
      rw [rounds_succ]
      go_wp2
      rw [rounds_succ]
      go_wp2
      go_ret
      exact ⟨rfl, rfl⟩
  · have hx' : (x != 0) = true := by simpa using hx
    rw [if_pos hx]
    go_enter Tryz.func80, Tryz.ntmps80
    go_wp2
    refine wp_loop_rounds 1 ?_
    rw [rounds_succ]
    go_wp2
    go_ret
    exact ⟨rfl, rfl⟩

set_option maxRecDepth 100000 in
set_option maxHeartbeats 4000000 in
theorem closure3_any (x y : T3) (w : World) :
    Calls Tryz.prog 79 #[.agg (enc3 x).toArray, .agg (enc3 y).toArray] w fun e w' => e = .returned (.int .i64 (cf3 x y)) ∧ ∃ q os', w' = grow (w.drewN q) os' := by
  unfold enc3 cf3
  generalize (x.1 : Int) = a0
  generalize (x.2.1 : Int) = a1
  generalize (x.2.2 : Int) = a2
  generalize (y.1 : Int) = b0
  generalize (y.2.1 : Int) = b1
  generalize (y.2.2 : Int) = b2
  have C1 := hid compareI_any
  obtain ⟨W1, hW1⟩ : ∃ W1 : World, W1 = (w.alloc (.cells #[.int .i64 a0, .int .i64 a1, .int .i64 a2] 46)).alloc (.cells #[.int .i64 b0, .int .i64 b1, .int .i64 b2] 46) := ⟨_, rfl⟩
  have lt1 : w.heap.size < (w.alloc (.cells #[.int .i64 a0, .int .i64 a1, .int .i64 a2] 46)).heap.size := by simp
  have c0 : W1.cell? ⟨w.heap.size, 0, none⟩ = some (.int .i64 a0) := by rw [hW1]; exact (World.cell?_alloc_lt _ _ _ lt1).trans (World.cell?_alloc_at _ _ _ _ rfl)
  have c1 : W1.cell? ⟨w.heap.size, 1, none⟩ = some (.int .i64 a1) := by rw [hW1]; exact (World.cell?_alloc_lt _ _ _ lt1).trans (World.cell?_alloc_at _ _ _ _ rfl)
  have c2 : W1.cell? ⟨w.heap.size, 2, none⟩ = some (.int .i64 a2) := by rw [hW1]; exact (World.cell?_alloc_lt _ _ _ lt1).trans (World.cell?_alloc_at _ _ _ _ rfl)
  have d0 : W1.cell? ⟨w.heap.size + 1, 0, none⟩ = some (.int .i64 b0) := by rw [hW1]; exact World.cell?_alloc_at _ _ _ _ (by simp)
  have d1 : W1.cell? ⟨w.heap.size + 1, 1, none⟩ = some (.int .i64 b1) := by rw [hW1]; exact World.cell?_alloc_at _ _ _ _ (by simp)
  have d2 : W1.cell? ⟨w.heap.size + 1, 2, none⟩ = some (.int .i64 b2) := by rw [hW1]; exact World.cell?_alloc_at _ _ _ _ (by simp)
  go_enter Tryz.func79, Tryz.ntmps79
  go_wp2_with fail
  rw [← hW1]
  have HW1 := hid hW1
  clear hW1
  go_region_held3 (fun W => W.cell? ⟨w.heap.size, 0, none⟩ = some (.int .i64 a0) ∧ W.cell? ⟨w.heap.size, 1, none⟩ = some (.int .i64 a1) ∧ W.cell? ⟨w.heap.size, 2, none⟩ = some (.int .i64 a2) ∧ W.cell? ⟨w.heap.size + 1, 0, none⟩ = some (.int .i64 b0) ∧ W.cell? ⟨w.heap.size + 1, 1, none⟩ = some (.int .i64 b1) ∧ W.cell? ⟨w.heap.size + 1, 2, none⟩ = some (.int .i64 b2)) (go_keep)
    (first
      | (go_at_call 81; refine (C1.out _ _ _).mono ?_; rintro e w' ⟨rfl, rfl⟩)
      | (go_at_call 80; refine (or3_any _ _ _ _ _ (World.cell?_alloc_at _ _ _ _ rfl) (World.cell?_alloc_at _ _ _ _ rfl) (World.cell?_alloc_at _ _ _ _ rfl)).mono ?_; rintro e w' ⟨rfl, rfl⟩))
  go_wp2_with fail
  go_ret
  refine ⟨rfl, ?_⟩
  refine ⟨1, #[Obj.cells #[.int .i64 a0, .int .i64 a1, .int .i64 a2] 46] ++ (#[Obj.cells #[.int .i64 b0, .int .i64 b1, .int .i64 b2] 46] ++ #[Obj.cells #[.int .i64 (cmpI a0 b0), .int .i64 (cmpI a1 b1), .int .i64 (cmpI a2 b2)] 3]), ?_⟩
  rw [HW1.out, alloc_eq_grow, alloc_eq_grow, alloc_eq_grow, grow_grow, grow_grow]
  rfl
end Go.Proofs.YtdbebbbceeopaaaGreat

set_option linter.unusedSimpArgs false
namespace Go.Proofs.YtdbebbbceeopaaaGreat
open Go.RowKit Go.Maps Go.Shelf
open Go.Sort (grow Holds putRow SWO PermIn SortedIn alloc_eq_grow grow_grow cell?_grow cell?_putRow_other)
open Go.Sort

def flat3 (l : List T3) : List Value := l.flatMap enc3

theorem flat3_cons (x : T3) (r : List T3) : flat3 (x :: r) = .int .i64 x.1 :: .int .i64 x.2.1 :: .int .i64 x.2.2 :: flat3 r := rfl
theorem flat3_append (l r : List T3) : flat3 (l ++ r) = flat3 l ++ flat3 r := by unfold flat3; rw [List.flatMap_append]
theorem flat3_len (l : List T3) : (flat3 l).length = l.length * 3 := by
  induction l with
  | nil => rfl
  | cons x r ih => rw [flat3_cons]; simp [ih]; omega

theorem flat3_get : ∀ (l : List T3) (i c : Nat), c < 3 → (flat3 l)[i * 3 + c]? = (l[i]?).bind fun x => (enc3 x)[c]?
  | [], i, c, h => by simp [flat3]
  | x :: r, 0, c, h => by
    rw [flat3_cons]
    match c, h with
    | 0, _ => rfl
    | 1, _ => rfl
    | 2, _ => rfl
  | x :: r, i + 1, c, h => by
    rw [flat3_cons, show (i + 1) * 3 + c = i * 3 + c + 1 + 1 + 1 by omega, List.getElem?_cons_succ, List.getElem?_cons_succ, List.getElem?_cons_succ, flat3_get r i c h]
    rfl

theorem flatK_flat3 (d : Array T3) : (flatK enc3 3 d).toList = flat3 d.toList := by
  apply List.ext_getElem?
  intro t
  by_cases ht : t < d.size * 3
  · have e : t = t / 3 * 3 + t % 3 := by omega
    have hi : t / 3 < d.size := by omega
    have hg := get_flatK enc3 3 d t ht
    have hs : t < (flatK enc3 3 d).size := by simpa using ht
    rw [Array.getElem?_toList, Array.getElem?_eq_getElem hs, ← getElem!_pos (flatK enc3 3 d) t hs, hg]
    conv => rhs; rw [e]
    rw [flat3_get d.toList (t / 3) (t % 3) (by omega), Array.getElem?_toList, Array.getElem?_eq_getElem hi, getElem!_pos d (t / 3) hi]
    have h3 : t % 3 < (enc3 d[t / 3]).length := by show t % 3 < 3; omega
    simp [getElem!_pos, h3, List.getElem?_eq_getElem h3]
  · rw [List.getElem?_eq_none (by simp; omega), List.getElem?_eq_none (by rw [flat3_len]; simp; omega)]

theorem owns_put {w : World} {base : Nat} {e : TypeId} {g n cap q size : Nat} {xs : List Value} {F : Array Value} (h : w.ownsRow base e size (.slice (some ⟨g, 0, none⟩) n cap) n xs) (hF : F.size = n * size) (os : Array Obj) :
    (grow (putRow id (Sort.ahead w q) g 0 F) os).ownsRow base e size (.slice (some ⟨g, 0, none⟩) n cap) n F.toList := by
  rcases h.2 with ⟨e0, _⟩ | ⟨g', cap', cur, e0, hb, hg, hn, hm, hs, ht⟩
  · cases e0
  · injection e0 with e1 _ e3
    injection e1 with e1
    injection e1 with e1
    subst e1; subst e3
    have hle : n * size ≤ cap * size := Nat.mul_le_mul_right _ hn
    refine ⟨by simpa using hF, .inr ⟨g, cap, Sort.putCells id 0 F cur, rfl, hb, ?_, hn, hm, by simpa [Sort.putCells] using hs, ?_⟩⟩
    · have hlt : g < (putRow id (Sort.ahead w q) g 0 F).heap.size := by rw [Sort.size_putRow]; exact (Array.getElem?_eq_some_iff.1 hg).1
      show ((putRow id (Sort.ahead w q) g 0 F).heap ++ os)[g]? = _
      rw [Array.getElem?_append_left hlt]
      simp [putRow, Sort.mapBlock, Sort.ahead, Array.getElem?_modify, hg, Sort.onCells]
    · apply List.ext_getElem?
      intro j
      rw [List.getElem?_take, Array.getElem?_toList, Array.getElem?_toList]
      by_cases hj : j < n * size
      · have hjc : j < cur.size := by omega
        simp only [if_pos hj, Sort.putCells, Array.getElem?_mapIdx, Array.getElem?_eq_getElem hjc, Option.map_some]
        rw [if_pos (by omega), Array.getElem?_eq_getElem (by omega)]
        simp [getElem!_pos, show j < F.size by omega]
      · have : ¬ j < F.size := by omega
        simp [hj, this]

theorem holds_own3 {w : World} {base g cap : Nat} {l : List T3} (h : w.ownsRow base 46 3 (.slice (some ⟨g, 0, none⟩) l.length cap) l.length (flat3 l)) : HoldsK enc3 3 w g 0 l.toArray := by
  intro j hj
  have hj' : j < l.length * 3 := by simpa using hj
  have e : (flatK enc3 3 l.toArray)[j]? = (flat3 l)[j]? := by
    rw [← Array.getElem?_toList, flatK_flat3]
  refine ⟨?_, by rw [Nat.zero_add]; exact h.frozenAt j⟩
  rw [Nat.zero_add, h.cellAt j hj', ← e, Array.getElem?_eq_getElem hj, getElem!_pos _ j hj]
  rfl

/-- What has been collected of a mesh's triangles. -/
structure Col (M : Nat → Nat → Option Nat) (left : Lit → Bool) (l : List T3) : Prop where
  nd : l.Nodup
  tri : ∀ t ∈ l, M t.1 t.2.1 = some t.2.2 ∧ t.1 < t.2.1 ∧ t.1 < t.2.2 ∧ t.1 < 1000 ∧ t.2.1 < 1000 ∧ left (klL t.1 t.2.1) = false
  all : ∀ a b c, M a b = some c → a < 1000 → b < 1000 → a < b → a < c → left (klL a b) = false → (a, b, c) ∈ l

theorem Col.skip {M : Nat → Nat → Option Nat} {left : Lit → Bool} {l : List T3} {u v d : Nat} (h : Col M left l) (hu : u < 1000) (hv : v < 1000) (hd : M u v = some d) (hn : ¬ (u < v ∧ u < d)) : Col M (fun z => left z && !z.sameKey (klL u v)) l := by
  refine ⟨h.nd, fun t ht => ?_, fun a b c e ha hb h1 h2 hf => ?_⟩
  · obtain ⟨t1, t2, t3, t4, t5, t6⟩ := h.tri t ht
    exact ⟨t1, t2, t3, t4, t5, by simp [t6]⟩
  · rw [Bool.and_eq_false_iff] at hf
    rcases hf with hf | hf
    · exact h.all a b c e ha hb h1 h2 hf
    · simp at hf
      obtain ⟨rfl, rfl⟩ := same_kl ha hb hu hv hf
      rw [hd] at e
      cases e
      exact absurd ⟨h1, h2⟩ hn

theorem Col.add {M : Nat → Nat → Option Nat} {left : Lit → Bool} {l : List T3} {u v d : Nat} (h : Col M left l) (hu : u < 1000) (hv : v < 1000) (hd : M u v = some d) (h1 : u < v) (h2 : u < d) (hl : left (klL u v) = true) : Col M (fun z => left z && !z.sameKey (klL u v)) (l ++ [(u, v, d)]) := by
  have ks : (klL u v).sameKey (klL u v) = true := WideAt.sameKey_self (kl_key u v hu hv)
  refine ⟨?_, fun t ht => ?_, fun a b c e ha hb k1 k2 hf => ?_⟩
  · refine List.nodup_append.2 ⟨h.nd, by simp, fun t ht t' ht' e => ?_⟩
    simp at ht'
    subst ht'
    subst e
    have := (h.tri _ ht).2.2.2.2.2
    dsimp only at this
    rw [hl] at this
    cases this
  · rcases List.mem_append.1 ht with ht | ht
    · obtain ⟨t1, t2, t3, t4, t5, t6⟩ := h.tri t ht
      exact ⟨t1, t2, t3, t4, t5, by simp [t6]⟩
    · simp at ht
      subst ht
      exact ⟨hd, h1, h2, hu, hv, by simp [ks]⟩
  · rw [Bool.and_eq_false_iff] at hf
    rcases hf with hf | hf
    · exact List.mem_append_left _ (h.all a b c e ha hb k1 k2 hf)
    · simp at hf
      obtain ⟨rfl, rfl⟩ := same_kl ha hb hu hv hf
      rw [hd] at e
      cases e
      exact List.mem_append_right _ (by simp)
end Go.Proofs.YtdbebbbceeopaaaGreat

set_option linter.unusedSimpArgs false
namespace Go.Proofs.YtdbebbbceeopaaaGreat
open Go.RowKit Go.Maps Go.Shelf
open Go.Sort


theorem owns_len3 {w : World} {base n : Nat} {v : Value} {xs : List Value} (h : w.ownsRow base 46 3 v n xs) : ∃ a c, v = .slice a n c := by
  rcases h.2 with ⟨rfl, rfl⟩ | ⟨g', cap', cur, h', _⟩
  · exact ⟨_, _, rfl⟩
  · exact ⟨_, _, h'⟩

theorem own_ge3 {w : World} {base : Nat} {v : Value} {n : Nat} {xs : List Value} (h : w.ownsRow base 46 3 v n xs) : ∀ g, v.ownBlock = some g → base ≤ g ∧ g < w.heap.size := by
  intro g hg
  rcases h.2 with ⟨rfl, _⟩ | ⟨g', cap', cur, rfl, hb, hh, _⟩
  · cases hg
  · cases hg
    exact ⟨hb, (Array.getElem?_eq_some_iff.1 hh).1⟩

theorem owns_shape3 {w : World} {base n : Nat} {v : Value} {xs : List Value} (h : w.ownsRow base 46 3 v n xs) (hn : 0 < n) : ∃ g c, v = .slice (some ⟨g, 0, none⟩) n c ∧ base ≤ g ∧ g < w.heap.size ∧ n ≤ c := by
  rcases h.2 with ⟨_, rfl⟩ | ⟨g', cap', cur, h', hb, hg, hc, _⟩
  · omega
  · exact ⟨g', cap', h', hb, (Array.getElem?_eq_some_iff.1 hg).1, hc⟩

theorem cmpLays3 (g sz : Nat) (w : World) : CmpLays Tryz.prog 79 #[] enc3 3 cf3 g 0 sz w := by
  intro m os dk hs x y
  exact closure3_any x y _

theorem below_sortK {B g q : Nat} {w : World} {d : Array T3} (os : Array Obj) (hg : B ≤ g) (hB : B ≤ w.heap.size) : Below B w (sortWorldK enc3 3 w g 0 q d os) := by
  unfold sortWorldK putRowK
  have h1 := Lib.below_putRow (enc := id) (q := q) (d := flatK enc3 3 d) (Below.refl B w) hg
  have h2 := Lib.below_grow B (putRow id (Sort.ahead w q) g 0 (flatK enc3 3 d)) (by rw [Sort.size_putRow]; exact hB) 0 os
  exact h1.trans h2

/-- The sorted list of a mesh's triangles. -/
structure Tris (M : Nat → Nat → Option Nat) (d : Array T3) : Prop where
  tri : ∀ t ∈ d.toList, M t.1 t.2.1 = some t.2.2 ∧ t.1 < t.2.1 ∧ t.1 < t.2.2
  all : ∀ a b c, M a b = some c → a < b → a < c → (a, b, c) ∈ d.toList
  nd : d.toList.Nodup
  srt : SortedIn (ltOf cf3) 0 d.size d

set_option maxRecDepth 100000 in
set_option maxHeartbeats 4000000 in
theorem trianglesM_any (mb bm N pb po n cap : Nat) (px py : Nat → Int) (M : Nat → Nat → Option Nat) (lv : Value) (ls : List (Nat × Nat)) (w : World) (hM : MeshAt w mb bm N pb po n cap px py M lv ls) (hN : N ≤ 1600) (hlt : ∀ a b c, M a b = some c → a < n ∧ b < n) (hn : n ≤ 40) (hex : ∃ a b c, M a b = some c ∧ a < b ∧ a < c) :
    Calls Tryz.prog 44 #[.pointer (some ⟨mb, 0, none⟩)] w fun e w' => Below w.heap.size w w' ∧ ∃ (g cp : Nat) (d : Array T3), e = .returned (.slice (some ⟨g, 0, none⟩) d.size cp) ∧ w.heap.size ≤ g ∧ d.size ≤ 1600 ∧ w'.ownsRow w.heap.size 46 3 (.slice (some ⟨g, 0, none⟩) d.size cp) d.size (flat3 d.toList) ∧ Tris M d := by
  obtain ⟨i0, hi, hz0, hz1, hz2⟩ := info_parts Tryz.info46
  obtain ⟨D, hown, hR⟩ := hM.map
  have HR := hid hR
  have bl := hM.map.lt
  have SZ := hid hown.size_le
  have k1 := hM.c1
  have HO := hid hown
  clear hM hown hR
  go_enter Tryz.func44, Tryz.ntmps44
  go_wp2_with (at_range; refine wpList_range_own _ rfl _ 102 rfl 110 3 Tryz.keyed99 Tryz.underlying102 _ bm N _ rfl HO.out ?_; intro w0 hrg0 hg0 hs0)
  have R0 := hid hrg0
  have BW0 : Hid (Below w.heap.size w w0) := hid ((Below.refl _ _).grown hg0 (Nat.le_refl _) (fun k e => by cases e))
  have Z0 := hid hs0
  clear hrg0 hg0 hs0 k1 HO
  go_frame
  go_loopw [3, 4, 5] (fun v _ _ wr => ∃ (left : Lit → Bool) (cnt : Nat) (l : List T3), Hid (wr.ranges Tryz.prog 110 (plainElem Tryz.prog 3) bm w.heap.size N D left cnt) ∧ Hid (wr.ownsRow (w.heap.size + 1) 46 3 v l.length (flat3 l)) ∧ l.length + cnt ≤ Maps.size D ∧ Hid (∀ kl, left kl = true → Maps.has D kl = true) ∧ Hid (Col M left l) ∧ Hid (Below w.heap.size w wr))
    (fun _ _ _ wr => wr.rangeLeft bm w.heap.size)
  case atStart =>
    refine ⟨_, _, [], R0, hid (World.ownsRow_nil _ _ _ _), by simp, hid (fun _ h => h), hid ⟨List.nodup_nil, (fun t ht => by cases ht), fun a b c e ha hb h1 h2 hf => ?_⟩, BW0⟩
    have := HR.out.has a b ha hb
    rw [hf, e] at this
    cases this
  case round =>
    obtain ⟨left, cnt, l, RG, HO, hlen, HLH, HC, HBW⟩ := hrel
    clear R0 BW0 Z0
    obtain ⟨a1, c1, hv⟩ := owns_len3 HO.out
    subst hv
    go_wp2_with (at_next; refine wpList_next_ranges _ rfl _ rfl 110 Tryz.keyed99 _ (fun x : Value => x) (fun x : Value => x) (fun key _ _ => ⟨key, rfl⟩) (fun v _ _ => ⟨v, rfl⟩) bm w.heap.size N _ _ _ rfl RG.out ?_ ?_)
    · intro h0 hl0
      have ALL : ∀ a b c, M a b = some c → a < b → a < c → (a, b, c) ∈ l := fun a b c e h1 h2 => by
        have := hlt a b c e
        exact HC.out.all a b c e (by omega) (by omega) h1 h2 (hl0 _)
      obtain ⟨a, b, c, e, h1, h2⟩ := hex
      have hpos : 0 < l.length := List.length_pos_of_mem (ALL a b c e h1 h2)
      obtain ⟨g, cp, hv, hg1, hg2, hcp⟩ := owns_shape3 HO.out hpos
      simp only [Value.slice.injEq, true_and] at hv
      obtain ⟨rfl, rfl⟩ := hv
      have eg : ∀ args w, (callFunc 79 args).run Tryz.prog w = .ok (.enter 79 args) w := enters_of Tryz.func79 (by kernel_rfl) rfl
      have hds : l.toArray.size = l.length := by simp
      have hso := AnyQ.slices_SortFunc Tryz.sortT 3 Tryz.isAgg46 Tryz.sizeOf46 enc3 (fun _ => rfl) (fun x v hv => by simp [enc3] at hv; rcases hv with rfl | rfl | rfl <;> rfl) cf3 cf3_swo 79 #[] g 0 c1 l.toArray wr eg (cmpLays3 g _ wr) (holds_own3 HO.out) hg2 (by rw [hds]; have := SZ.out; omega)
      change Calls Tryz.prog 78 _ _ _ at hso
      rw [hds] at hso
      have SO : Hid (Calls Tryz.prog 78 #[.slice (some ⟨g, 0, none⟩) l.length c1, .func (.func 79) #[] #[]] wr fun e w' => e = .returned (.tuple #[]) ∧ Below w.heap.size w w' ∧ ∃ d : Array T3, d.size = l.length ∧ w'.ownsRow w.heap.size 46 3 (.slice (some ⟨g, 0, none⟩) l.length c1) l.length (flat3 d.toList) ∧ Tris M d) := hid (by
        refine hso.mono ?_
        rintro e w' ⟨rfl, d', q, os, hp, hs, rfl⟩
        have hsz : d'.size = l.length := by have := hp.1; simp at this; exact this
        have hpm : d'.toList.Perm l := by
          have := hp.2.2
          rw [show d'.extract 0 l.length = d' from by rw [← hsz]; simp, show l.toArray.extract 0 l.length = l.toArray from by simp] at this
          simpa using this
        refine ⟨rfl, HBW.out.trans (below_sortK os (by omega) HBW.out.size), d', hsz, ?_, ⟨fun t ht => ?_, fun a b c e h1 h2 => hpm.mem_iff.2 (ALL a b c e h1 h2), hpm.nodup_iff.2 HC.out.nd, by rw [hsz]; exact hs⟩⟩
        · have h := owns_put (q := q) (F := flatK enc3 3 d') HO.out (by simp [hsz]) os
          rw [flatK_flat3] at h
          unfold sortWorldK putRowK
          exact ⟨h.1, by
            rcases h.2 with h2 | ⟨g', cap', cur, k1, k2, k3⟩
            · exact .inl h2
            · exact .inr ⟨g', cap', cur, k1, by omega, k3⟩⟩
        · have := HC.out.tri t (hpm.mem_iff.1 ht)
          exact ⟨this.1, this.2.1, this.2.2.1⟩)
      have hl16 : l.length ≤ 1600 := by have := SZ.out; omega
      have hgs : Hid (w.heap.size ≤ g) := hid (by omega)
      clear hl0 ALL e hso eg hds
      go_wp2_with fail
      refine SO.out.mono ?_
      rintro e w2 ⟨rfl, hb2, d, hd, ho2, ht2⟩
      have HB2 := hid hb2
      have HO2 := hid ho2
      have HT2 := hid ht2
      have HD := hid hd
      clear hb2 ho2 ht2 hd SO
      go_wp2_with fail
      go_ret
      refine ⟨HB2.out, g, c1, d, by rw [HD.out]; rfl, hgs.out, by rw [HD.out]; exact hl16, by rw [HD.out]; exact HO2.out, HT2.out⟩
    · intro key c kl y1 y2 w1 cnt1 hkey hlk hc hat hrg1 hclt hg1 hs1 hen
      obtain ⟨u, v, d, hu, hv, rfl, rfl, hd, rfl⟩ := side_of (y := (y1, y2)) HR.out hkey (HLH.out _ hlk) hc hat
      have rlt := RG.out.lt
      have vne : (Value.slice a1 l.length c1).ownBlock ≠ some w.heap.size := fun e => by have := own_ge3 HO.out _ e; omega
      have HO1 : Hid (w1.ownsRow (w.heap.size + 1) 46 3 (.slice a1 l.length c1) l.length (flat3 l)) := hid (HO.out.kept hg1 (.inr vne))
      have HB1 : Hid (Below w.heap.size w w1) := hid (HBW.out.grown hg1 HBW.out.size (fun k e => by have := Option.some.inj e; omega))
      obtain ⟨W2, hW2⟩ : ∃ W2, W2 = w1.alloc (.cells #[.int .i64 (u : Nat), .int .i64 (v : Nat)] 110) := ⟨_, rfl⟩
      have B2 : Hid (Below w1.heap.size w1 W2) := hid (by rw [hW2]; exact (Below.refl _ _).alloc (Nat.le_refl _) _)
      have RG2 : Hid (W2.ranges Tryz.prog 110 (plainElem Tryz.prog 3) bm w.heap.size N D (fun z => left z && !z.sameKey (klL u v)) cnt1) := hid (ranges_same hrg1 (B2.out.block bm (by have := hrg1.owns.lt; omega)) (B2.out.block _ (by have := hrg1.lt; omega)))
      have HO2 : Hid (W2.ownsRow (w.heap.size + 1) 46 3 (.slice a1 l.length c1) l.length (flat3 l)) := hid (by rw [hW2]; exact HO1.out.alloc _)
      have HB2 : Hid (Below w.heap.size w W2) := hid (HB1.out.trans (B2.out.mono HB1.out.size))
      have HLH2 : Hid (∀ kl, (left kl && !kl.sameKey (klL u v)) = true → Maps.has D kl = true) := hid (fun kl h => HLH.out kl (by simp at h; exact h.1))
      have RL : Hid (cnt1 < cnt) := hid hclt
      have LE := hid RG.out.left_eq
      have c1' : cnt1 < cnt := hclt
      by_cases huv : u < v
      · have duv : decide ((u : Int) < (v : Int)) = true := by simp; omega
        by_cases hud : u < d
        · have dud : decide ((u : Int) < (d : Int)) = true := by simp; omega
          have HC2 := hid (HC.out.add hu hv hd huv hud hlk)
          clear hkey hlk hc hat hrg1 hg1 hs1 hclt
          have S2 : Hid (W2.heap.size = w1.heap.size + 1) := hid (by rw [hW2]; simp)
          go_wp2_with (at_builtin; go_must (rw [← hW2]; refine wpList_append_own _ rfl _ _ 28 rfl (w.heap.size + 1) 46 i0 (.agg #[.int .i64 0, .int .i64 0, .int .i64 0]) 3 24 Tryz.underlying28 hi hz0 hz1 hz2 rfl (by decide) _ _ _ rfl (HO2.out.alloc _) ⟨w1.heap.size + 1, 0, none⟩ 1 1 [.int .i64 (u : Nat), .int .i64 (v : Nat), .int .i64 (d : Nat)] rfl rfl ?c1 ?c2 ?c3 ?c4 ?c5 ?_))
          case c1 =>
            intro j z hj
            have hadd : (⟨w1.heap.size + 1, 0, none⟩ : Addr).add j = ⟨w1.heap.size + 1, j, none⟩ := by unfold Addr.add; split <;> simp_all
            rw [hadd, World.cell?_alloc_at _ _ _ _ S2.out.symm]
            simpa using hj
          case c2 => intro z hz; simp at hz; rcases hz with rfl | rfl | rfl <;> rfl
          case c3 => have := SZ.out; unfold maxLen; omega
          case c4 => have := SZ.out; omega
          case c5 => have := HB2.out.size; have := S2.out; have := HB1.out.size; simp; omega
          intro v' w3 hown' hgrow _
          try rw [← hW2] at hgrow
          have vb : ∀ g, (Value.slice a1 l.length c1).ownBlock = some g → w.heap.size + 1 ≤ g := fun g e => (own_ge3 HO2.out g e).1
          have KB : ∀ k, k ≤ w.heap.size → w3.heap[k]? = W2.heap[k]? := fun k hk => by
            have hk2 : k < W2.heap.size := by have := S2.out; have := HB1.out.size; omega
            rw [hgrow.block k (by simp; omega) (fun e => by have := vb k e.symm; omega)]
            exact Below.heap_alloc _ _ _ hk2
          have RG3 : Hid (w3.ranges Tryz.prog 110 (plainElem Tryz.prog 3) bm w.heap.size N D (fun z => left z && !z.sameKey (klL u v)) cnt1) := hid (ranges_same RG2.out (KB bm (by omega)) (KB _ (Nat.le_refl _)))
          have HB3 : Hid (Below w.heap.size w w3) := hid ⟨hgrow.os.trans HB2.out.os, hgrow.tape.trans HB2.out.tape, hgrow.output.trans HB2.out.output, by have := hgrow.size; have := HB2.out.size; simp at *; omega, fun k hk => (KB k (by omega)).trans (HB2.out.block k hk)⟩
          have HO3 : Hid (w3.ownsRow (w.heap.size + 1) 46 3 v' (l ++ [(u, v, d)]).length (flat3 (l ++ [(u, v, d)]))) := hid (by
            rw [flat3_append, List.length_append]
            exact hown')
          have hl3 : (l ++ [(u, v, d)]).length = l.length + 1 := by simp
          have hl3b : (l ++ [(u, v, d)]).length + cnt1 ≤ Maps.size D := by omega
          clear hown' hgrow vb KB hW2 hl3
          go_wp2_with fail
          go_roundw
          case rel => exact ⟨_, cnt1, l ++ [(u, v, d)], RG3, HO3, hl3b, HLH2, HC2, HB3⟩
          case measure => rw [RG3.out.left_eq, LE.out]; exact RL.out
        · have dud : decide ((u : Int) < (d : Int)) = false := by simp; omega
          have HC2 := hid (HC.out.skip hu hv hd (by omega))
          clear hkey hlk hc hat hrg1 hg1 hs1 hclt
          go_wp2_with fail
          rw [← hW2]
          clear hW2
          go_roundw
          case rel => exact ⟨_, cnt1, l, RG2, HO2, by omega, HLH2, HC2, HB2⟩
          case measure => rw [RG2.out.left_eq, LE.out]; exact RL.out
      · have duv : decide ((u : Int) < (v : Int)) = false := by simp; omega
        have HC2 := hid (HC.out.skip hu hv hd (by omega))
        clear hkey hlk hc hat hrg1 hg1 hs1 hclt
        go_wp2_with fail
        rw [← hW2]
        clear hW2
        go_roundw
        case rel => exact ⟨_, cnt1, l, RG2, HO2, by omega, HLH2, HC2, HB2⟩
        case measure => rw [RG2.out.left_eq, LE.out]; exact RL.out
end Go.Proofs.YtdbebbbceeopaaaGreat

set_option linter.unusedSimpArgs false
namespace Go.Proofs.YtdbebbbceeopaaaGreat
open Go.RowKit Go.Maps
open Go.Sort (SortedIn)
open Geo (Mesh Cor Quad flipM Sd bad lift Inj)

set_option maxHeartbeats 1000000 in
theorem allJoin_nil (a : Option Addr) (n cap : Nat) (w : World) :
    Calls Tryz.prog 69 #[.slice a n cap, .slice none 0 0] w fun e w' => e = .returned (.bool true) ∧ w' = w := by
  go_enter Tryz.func69, Tryz.ntmps69
  go_wp2
  refine wp_loop_rounds 1 ?_
  rw [rounds_succ]
  go_wp2
  go_ret
  exact ⟨rfl, rfl⟩

set_option maxHeartbeats 1000000 in
theorem inWay_nil (a : Option Addr) (n cap : Nat) (w : World) :
    Calls Tryz.prog 70 #[.slice a n cap, .slice none 0 0] w fun e w' => e = .returned (.bool false) ∧ Below w.heap.size w w' := by
  go_enter Tryz.func70, Tryz.ntmps70
  go_wp2
  refine wp_loop_rounds 1 ?_
  rw [rounds_succ]
  go_wp2
  go_ret
  exact ⟨rfl, (Below.refl _ _).alloc (Nat.le_refl _) _⟩

set_option maxHeartbeats 1000000 in
theorem lineRef_nil (px py : Nat → Int) (n qb qo cap : Nat) (w : World) (hp : Pts w qb qo n px py) (hn : n ≤ 40) (hbd : ∀ i, i < n → (-1000 ≤ px i ∧ px i ≤ 1000) ∧ (-1000 ≤ py i ∧ py i ≤ 1000)) :
    Calls Tryz.prog 40 #[.slice (some ⟨qb, qo, none⟩) n cap, .slice none 0 0] w fun e w' => e = .returned (.int .i64 0) ∧ Below w.heap.size w w' := by
  have C1 := hid (allJoin_nil (some ⟨qb, qo, none⟩) n cap w)
  have C2 := hid (places_any px py n qb qo cap w hp hn hbd)
  have C3 := hid (fun W => inWay_nil (some ⟨w.heap.size, 0, none⟩) n n W)
  clear hp hbd
  go_enter Tryz.func40, Tryz.ntmps40
  go_wp2_with fail
  refine C1.out.mono ?_
  rintro e w1 ⟨rfl, rfl⟩
  go_wp2_with fail
  refine C2.out.mono ?_
  rintro e w2 ⟨rfl, hb2, _⟩
  have HB2 := hid hb2
  clear hb2
  go_wp2_with fail
  refine (C3.out w2).mono ?_
  rintro e w3 ⟨rfl, hb3⟩
  have HB3 := hid (HB2.out.trans (hb3.mono HB2.out.size))
  clear hb3
  go_wp2_with fail
  go_ret
  exact ⟨rfl, HB3.out⟩

theorem sum_flip {px py : Nat → Int} {n : Nat} {M : Nat → Nat → Option Nat} {a b c d : Nat} (hm : Mesh px py n M) (q : Quad px py M a b c d) : Sd n (flipM M a b c d) (fun u v _ => Geo.c2 px py u v) = Sd n M (fun u v _ => Geo.c2 px py u v) := by
  have h1 := are_c2 (hm.flipQ q)
  have h2 := are_c2 hm
  have h3 := Geo.flip_Are hm q
  omega

/-- What comes of points: a mesh of them as round as can be, its triangles in order. -/
structure Msh (px py : Nat → Int) (n : Nat) (M : Nat → Nat → Option Nat) (hs : List Nat) : Prop where
  mesh : Mesh px py n M
  cor : Cor n M
  sum : Sd n M (fun u v _ => Geo.c2 px py u v) = fanI px py hs (hs.length - 2)
  hull : Geo.IsHull px py n hs
  hl : ∀ y ∈ hs, y < n
  hlen : hs.length ≤ 40
  h3 : 3 ≤ hs.length
  ord : ∃ os : List Nat, (3 ≤ os.length ∧ os.Pairwise (Geo.Lt Geo.Lex px py) ∧ ∀ p, p ∈ os ↔ p < n) ∧ hs = hullOf (T px py) os ∧ Geo.Reach px py n (mesh0 px py os) M

theorem getD_mem {h : List Nat} {y : Nat} (hy : y ∈ h) : ∃ i, i < h.length ∧ h.getD i 0 = y := by
  obtain ⟨i, hi, rfl⟩ := List.getElem_of_mem hy
  exact ⟨i, hi, by simp [List.getD_eq_getElem?_getD, hi]⟩

theorem hull_len {px py : Nat → Int} {n : Nat} {h : List Nat} (H : Geo.IsHull px py n h) : h.length ≤ n := by
  have hnd : h.Nodup := by
    rw [List.nodup_iff_pairwise_ne, List.pairwise_iff_getElem]
    intro i j hi hj hij
    have := H.inj i j hij hj
    simpa [List.getD_eq_getElem?_getD, hi, hj] using this
  have := Geo.sub_len h (List.range n) hnd (fun y hy => by
    obtain ⟨i, hi, rfl⟩ := getD_mem hy
    exact List.mem_range.2 (H.lt i hi))
  simpa using this

theorem ord0 {px py : Nat → Int} {n : Nat} [NeZero n] {d : Array (Fin n)} (h3 : 3 ≤ n) (hr : refI px py n = 0) (hd : d.size = n) (hp : d.toList.Perm (List.finRange n)) (hs : SortedIn (ltOf (cfI px py)) 0 n d) : 3 ≤ (nums d).length ∧ (nums d).Pairwise (Geo.Lt Geo.Lex px py) ∧ ∀ p, p ∈ nums d ↔ p < n :=
  ⟨by rw [nums_len, hd]; exact h3, nums_sorted hd hp hs (refI_ne hr), nums_mem hp⟩

theorem msh0 {px py : Nat → Int} {n : Nat} [NeZero n] {d : Array (Fin n)} (h3 : 3 ≤ n) (hn : n ≤ 40) (hr : refI px py n = 0) (hd : d.size = n) (hp : d.toList.Perm (List.finRange n)) (hs : SortedIn (ltOf (cfI px py)) 0 n d) : Msh px py n (mesh0 px py (nums d)) (hullOf (T px py) (nums d)) := by
  have hne := refI_ne hr
  have hw := refI_wide h3 hr
  have H := hullOf_isHull h3 hd hp hs hne hw
  obtain ⟨i, hi, hT⟩ := hw
  have hmem := nums_mem hp
  have wide : Geo.Wide px py (nums d) := ⟨0, (hmem 0).2 (by omega), 1, (hmem 1).2 (by omega), i, (hmem i).2 hi, hT⟩
  have h := mesh0_ok (n := n) (os := nums d) (by rw [nums_len, hd]; exact h3) (nums_sorted hd hp hs hne) hmem wide
  exact ⟨h.1, h.2.1, h.2.2, H, (fun y hy => by obtain ⟨j, hj, rfl⟩ := getD_mem hy; exact H.lt j hj), by have := hull_len H; omega, H.len, ⟨nums d, ord0 h3 hr hd hp hs, rfl, .refl⟩⟩

theorem one_tri {px py : Nat → Int} {n : Nat} {M : Nat → Nat → Option Nat} (hm : Mesh px py n M) (hc : Cor n M) (h1 : 0 < n) : ∃ a b c, M a b = some c ∧ a < b ∧ a < c := by
  obtain ⟨x, y, e⟩ := hc 0 h1
  have e2 := hm.cyc _ _ _ e
  have e3 := hm.cyc _ _ _ e2
  rcases least hm e with k | k | k
  · exact ⟨_, _, _, e, k.1, k.2⟩
  · exact ⟨_, _, _, e2, k.1, k.2⟩
  · exact ⟨_, _, _, e3, k.1, k.2⟩

theorem loc_of {px py : Nat → Int} {M : Nat → Nat → Option Nat} (h : ∀ u v, bad px py (okL []) (lift px py) M u v = false) : Geo.Loc px py M := by
  intro a b c d e1 e2
  rcases Int.lt_or_le 0 (Geo.Wn px py a b c d) with k | k
  · have hb := Geo.bad_of (px := px) (py := py) (ok := okL []) (h := lift px py) (u := a) (v := b) rfl e1 e2 (by rw [Geo.Wg_lift]; exact k)
    rw [h a b] at hb
    cases hb
  · exact k

set_option maxRecDepth 100000 in
set_option maxHeartbeats 2000000 in
theorem bound_ok (px py : Nat → Int) (n : Nat) [NeZero n] (qb qo cap : Nat) (w : World) (hp : Pts w qb qo n px py) (h3 : 3 ≤ n) (hn : n ≤ 40) (hcap : n ≤ cap) (hr : refI px py n = 0) :
    Calls Tryz.prog 25 #[.slice (some ⟨qb, qo, none⟩) n cap, .slice none 0 0] w fun e w' => Below w.heap.size w w' ∧ ∃ (g cp : Nat) (d : Array T3) (M : Nat → Nat → Option Nat) (hs : List Nat), e = .returned (.tuple #[.slice (some ⟨g, 0, none⟩) d.size cp, .int .i64 0]) ∧ w.heap.size ≤ g ∧ d.size ≤ 1600 ∧ w'.ownsRow w.heap.size 46 3 (.slice (some ⟨g, 0, none⟩) d.size cp) d.size (flat3 d.toList) ∧ Tris M d ∧ Msh px py n M hs ∧ Geo.Loc px py M := by
  have c1 := refusal_any px py n qb qo cap w hp h3 hn hcap
  rw [hr] at c1
  have C1 := hid c1
  have HP := hid hp
  have hA : allB px py n = true := by
    cases h : allB px py n with
    | true => rfl
    | false => simp [refI, h] at hr
  have hbd : ∀ i, i < n → (-1000 ≤ px i ∧ px i ≤ 1000) ∧ (-1000 ≤ py i ∧ py i ≤ 1000) := by
    intro i hi
    have := (allB_iff px py n).1 hA i hi
    exact ⟨(near_iff _).1 this.1, (near_iff _).1 this.2⟩
  have HBD := hid hbd
  have HRR := hid hr
  clear hp c1 hr hA hbd
  go_enter Tryz.func25, Tryz.ntmps25
  go_wp2_with fail
  refine C1.out.mono ?_
  rintro e w1 ⟨rfl, hb1⟩
  have c2 := hid (lineRef_nil px py n qb qo cap w1 (HP.out.below hb1 HP.out.lt) hn HBD.out)
  have HB1 := hid hb1
  clear C1 hb1
  go_wp2_with fail
  refine c2.out.mono ?_
  rintro e w2 ⟨rfl, hb2⟩
  have HB2 := hid (HB1.out.trans (hb2.mono HB1.out.size))
  have c3 := hid (places_any px py n qb qo cap w2 (HP.out.below HB2.out HP.out.lt) hn HBD.out)
  clear c2 hb2 HB1
  go_wp2_with fail
  refine c3.out.mono ?_
  rintro e w3 ⟨rfl, hb3, hp3⟩
  have HB3 := hid (HB2.out.trans (hb3.mono HB2.out.size))
  have c4 := hid (new_any px py n w2.heap.size 0 n w3 hp3 hn)
  clear c3 hb3 hp3
  go_wp2_with fail
  refine c4.out.mono ?_
  rintro e w4 ⟨mb, bm, rfl, hmb, hbm, hb4, dd, hdd, hperm, hsort, hM4⟩
  have HB4 := hid (HB3.out.trans (hb4.mono HB3.out.size))
  have MS := hid (msh0 h3 hn HRR.out hdd hperm hsort)
  have OD := hid (ord0 h3 HRR.out hdd hperm hsort)
  have c5 := hid (draw_nil mb w4)
  have HM4 := hid hM4
  have HMB := hid (And.intro hmb hbm)
  clear c4 hb4 hM4 hperm hsort hdd hmb hbm
  go_wp2_with fail
  refine c5.out.mono ?_
  rintro e w5 ⟨rfl, hb5⟩
  have HB5 := hid (HB4.out.trans (hb5.mono HB4.out.size))
  have HM5 := hid (HM4.out.below hb5)
  have c6 := hid (round_any mb bm w2.heap.size 0 n n px py _ (.slice none 0 0) [] (fun M => Sd n M (fun u v _ => Geo.c2 px py u v) = fanI px py (hullOf (T px py) (nums dd)) ((hullOf (T px py) (nums dd)).length - 2) ∧ Geo.Reach px py n (mesh0 px py (nums dd)) M) w5 hn (HM5.out.tight MS.out.mesh hn) (by simp) MS.out.mesh MS.out.cor ⟨MS.out.sum, .refl⟩ (fun M a b c d hm q _ hk => ⟨by rw [sum_flip hm q]; exact hk.1, .flip hk.2 hm q⟩))
  clear c5 hb5
  go_wp2_with fail
  refine c6.out.mono ?_
  rintro e w6 ⟨rfl, hg6, M, hM6, hm6, hc6, hk6, hbad⟩
  have HB6 := hid (HB5.out.grown hg6 HB5.out.size (fun k e => by have := Option.some.inj e; have := HMB.out.2; have := HB3.out.size; omega))
  have c7 := hid (trianglesM_any mb bm 1600 w2.heap.size 0 n n px py M (.slice none 0 0) [] w6 hM6 (Nat.le_refl _) (fun a b c e => ⟨(hm6.lts e).1, (hm6.lts e).2.1⟩) hn (one_tri hm6 hc6 (by omega)))
  have MS6 : Hid (Msh px py n M (hullOf (T px py) (nums dd))) := hid ⟨hm6, hc6, hk6.1, MS.out.hull, MS.out.hl, MS.out.hlen, MS.out.h3, ⟨nums dd, OD.out, rfl, hk6.2⟩⟩
  have LC := hid (loc_of hbad)
  clear c6 hg6 hM6 hm6 hc6 hk6 hbad
  go_wp2_with fail
  refine c7.out.mono ?_
  rintro e w7 ⟨hb7, g, cp, d, rfl, hg7, hd7, ho7, ht7⟩
  have HB7 := hid (HB6.out.trans (hb7.mono HB6.out.size))
  have HO7 : Hid (w7.ownsRow w.heap.size 46 3 (.slice (some ⟨g, 0, none⟩) d.size cp) d.size (flat3 d.toList)) := hid ⟨ho7.1, by
    rcases ho7.2 with h2 | ⟨g', cap', cur, k1, k2, k3⟩
    · exact .inl h2
    · exact .inr ⟨g', cap', cur, k1, Nat.le_trans HB6.out.size k2, k3⟩⟩
  have HG7 := hid (Nat.le_trans HB6.out.size hg7)
  have HT7 := hid ht7
  have HD7 := hid hd7
  clear c7 hb7 hg7 hd7 ho7 ht7
  go_wp2_with fail
  go_ret2
  exact ⟨HB7.out, g, cp, d, M, _, rfl, HG7.out, HD7.out, HO7.out, HT7.out, MS6.out, LC.out⟩

set_option maxRecDepth 100000 in
set_option maxHeartbeats 2000000 in
theorem triangles_ok (px py : Nat → Int) (n : Nat) [NeZero n] (qb qo cap : Nat) (w : World) (hp : Pts w qb qo n px py) (h3 : 3 ≤ n) (hn : n ≤ 40) (hcap : n ≤ cap) (hr : refI px py n = 0) :
    Calls Tryz.prog 15 #[.slice (some ⟨qb, qo, none⟩) n cap] w fun e w' => Below w.heap.size w w' ∧ ∃ (g cp : Nat) (d : Array T3) (M : Nat → Nat → Option Nat) (hs : List Nat), e = .returned (.tuple #[.slice (some ⟨g, 0, none⟩) d.size cp, .int .i64 0]) ∧ w.heap.size ≤ g ∧ d.size ≤ 1600 ∧ w'.ownsRow w.heap.size 46 3 (.slice (some ⟨g, 0, none⟩) d.size cp) d.size (flat3 d.toList) ∧ Tris M d ∧ Msh px py n M hs ∧ Geo.Loc px py M := by
  have C := hid (bound_ok px py n qb qo cap w hp h3 hn hcap hr)
  clear hp hr
  go_enter Tryz.func15, Tryz.ntmps15
  go_wp2_with fail
  refine C.out.mono ?_
  rintro e w1 ⟨hb, g, cp, d, M, hs, rfl, h⟩
  have H := hid h
  have HB := hid hb
  clear h hb
  go_wp2_with fail
  go_ret2
  exact ⟨HB.out, g, cp, d, M, hs, rfl, H.out⟩

set_option maxHeartbeats 1000000 in
theorem triangles_err {arg : Value} {w : World} {x : Int} (hx : x ≠ 0) (hc : Calls Tryz.prog 33 #[arg] w fun e w' => e = .returned (.int .i64 x) ∧ Below w.heap.size w w') :
    Calls Tryz.prog 15 #[arg] w fun e w' => e = .returned (.tuple #[.slice none 0 0, .int .i64 x]) ∧ Below w.heap.size w w' := by
  have C := hid hc
  have d : (x != 0) = true := by simpa using hx
  have B : Hid (Calls Tryz.prog 25 #[arg, .slice none 0 0] w fun e w' => e = .returned (.tuple #[.slice none 0 0, .int .i64 x]) ∧ Below w.heap.size w w') := hid (by
    clear hc hx
    go_enter Tryz.func25, Tryz.ntmps25
    go_wp2_with fail
    refine C.out.mono ?_
    rintro e w1 ⟨rfl, hb⟩
    have HB := hid hb
    clear hb
    go_wp2_with fail
    go_ret2
    exact ⟨rfl, HB.out⟩)
  clear hc hx C d
  go_enter Tryz.func15, Tryz.ntmps15
  go_wp2_with fail
  refine B.out.mono ?_
  rintro e w1 ⟨rfl, hb⟩
  have HB := hid hb
  clear hb
  go_wp2_with fail
  go_ret2
  exact ⟨rfl, HB.out⟩
end Go.Proofs.YtdbebbbceeopaaaGreat

set_option linter.unusedSimpArgs false
namespace Go.Proofs.YtdbebbbceeopaaaGreat
open Go.RowKit
open Go.Sort (SortedIn)

def dA (d : Array T3) (i : Nat) : Nat := (d[i]!).1
def dB (d : Array T3) (i : Nat) : Nat := (d[i]!).2.1
def dC (d : Array T3) (i : Nat) : Nat := (d[i]!).2.2
def dz (d : Array T3) : List Int := (List.range (d.size * 3)).map fun j => if j % 3 = 0 then (dA d (j / 3) : Int) else if j % 3 = 1 then (dB d (j / 3) : Int) else (dC d (j / 3) : Int)

theorem dz_get (d : Array T3) (i : Nat) (hi : i < d.size) : (dz d).getD (i * 3) 0 = dA d i ∧ (dz d).getD (i * 3 + 1) 0 = dB d i ∧ (dz d).getD (i * 3 + 2) 0 = dC d i := by
  have g : ∀ j, j < d.size * 3 → (dz d).getD j 0 = if j % 3 = 0 then (dA d (j / 3) : Int) else if j % 3 = 1 then (dB d (j / 3) : Int) else (dC d (j / 3) : Int) := by
    intro j hj
    simp [dz, List.getD_eq_getElem?_getD, hj]
  refine ⟨?_, ?_, ?_⟩
  · rw [g _ (by omega), if_pos (by omega), show i * 3 / 3 = i by omega]
  · rw [g _ (by omega), if_neg (by omega), if_pos (by omega), show (i * 3 + 1) / 3 = i by omega]
  · rw [g _ (by omega), if_neg (by omega), if_neg (by omega), show (i * 3 + 2) / 3 = i by omega]

theorem Tris.lists {M : Nat → Nat → Option Nat} {d : Array T3} (h : Tris M d) : Lists M d.size (dA d) (dB d) (dC d) := by
  refine ⟨fun i hi => ?_, fun a b c e h1 h2 => ?_, fun i hi => ?_⟩
  · have hm : d[i]! ∈ d.toList := by rw [getElem!_pos d i hi]; simp
    exact h.tri _ hm
  · obtain ⟨i, hi, e⟩ := List.getElem_of_mem (h.all a b c e h1 h2)
    have hi' : i < d.size := by simpa using hi
    have e' : d[i]! = (a, b, c) := by rw [getElem!_pos d i hi']; simpa using e
    exact ⟨i, hi', by simp [dA, e'], by simp [dB, e'], by simp [dC, e']⟩
  · have hi0 : i < d.size := by omega
    have hs := h.srt i (i + 1) (Nat.zero_le _) (by omega) hi
    unfold ltOf at hs
    rw [decide_eq_false_iff_not, cf3_lt] at hs
    have hneq : d[i]! ≠ d[i + 1]! := by
      have := List.pairwise_iff_getElem.1 h.nd i (i + 1) (by simpa using hi0) (by simpa using hi) (by omega)
      simpa [hi0, hi] using this
    have hne : ¬ ((d[i]!).1 = (d[i + 1]!).1 ∧ (d[i]!).2.1 = (d[i + 1]!).2.1 ∧ (d[i]!).2.2 = (d[i + 1]!).2.2) := fun k => hneq (Prod.ext k.1 (Prod.ext k.2.1 k.2.2))
    unfold lt3 at hs
    unfold dA dB dC
    omega

theorem Tris.row3 {px py : Nat → Int} {n : Nat} {M : Nat → Nat → Option Nat} {d : Array T3} (h : Tris M d) (hm : Geo.Mesh px py n M) : Row3 n d.size (dz d) (dA d) (dB d) (dC d) :=
  ⟨fun i hi => hm.lts (h.lists.tri i hi).1, fun i hi => dz_get d i hi⟩

theorem trs_own {w : World} {base g cap : Nat} {d : Array T3} (h : w.ownsRow base 46 3 (.slice (some ⟨g, 0, none⟩) d.size cap) d.size (flat3 d.toList)) : Trs w g 0 d.size (dz d) := by
  have hg : g < w.heap.size := by
    rcases h.2 with ⟨h', _⟩ | ⟨g', cap', cur, h', _, hh, _⟩
    · cases h'
    · cases h'; exact (Array.getElem?_eq_some_iff.1 hh).1
  refine ⟨hg, fun j hj => ?_⟩
  obtain ⟨z0, z1, z2⟩ := dz_get d j hj
  rw [z0, z1, z2]
  have hc : ∀ c, c < 3 → w.cell? ⟨g, 0 + j * 3 + c, none⟩ = (enc3 (d[j]!))[c]? := by
    intro c hc
    rw [Nat.zero_add, h.cellAt (j * 3 + c) (by omega), flat3_get d.toList j c hc, Array.getElem?_toList, Array.getElem?_eq_getElem hj, getElem!_pos d j hj]
    rfl
  exact ⟨hc 0 (by omega), hc 1 (by omega), hc 2 (by omega)⟩

theorem refI_bds {px py : Nat → Int} {n : Nat} (h : refI px py n = 0) : Bds n px py := by
  have hA : allB px py n = true := by
    cases h' : allB px py n with
    | true => rfl
    | false => simp [refI, h'] at h
  intro i hi
  have := (allB_iff px py n).1 hA i hi
  exact ⟨(near_iff _).1 this.1, (near_iff _).1 this.2⟩

theorem refI_inj {px py : Nat → Int} {n : Nat} (h : refI px py n = 0) : Geo.Inj px py n := by
  intro i j hi hj e1 e2
  rcases Classical.em (i = j) with k | k
  · exact k
  · exact absurd ⟨e1, e2⟩ (refI_ne h i j hi hj k)

/-- A mesh's triangles fill, as the document has it. -/
theorem fills_msh (px py : Nat → Int) (n qb qo cap g cp : Nat) (d : Array T3) (M : Nat → Nat → Option Nat) (hs : List Nat) (w : World) (hp : Pts w qb qo n px py) (h3 : 3 ≤ n) (hn : n ≤ 40) (h0 : refI px py n = 0) (ht : Trs w g 0 d.size (dz d)) (hd : d.size ≤ 1600) (hT : Tris M d) (hM : Msh px py n M hs) :
    Calls Tryz.prog 84 #[.slice (some ⟨qb, qo, none⟩) n cap, .slice (some ⟨g, 0, none⟩) d.size cp] w fun e w' => e = .returned (.bool true) ∧ Below w.heap.size w w' :=
  fills_any px py n qb qo cap g 0 d.size cp (dz d) (dA d) (dB d) (dC d) (fanI px py hs (hs.length - 2)) w hp ht hn (by omega) (refI_bds h0) (hT.lists.fill hM.mesh hM.cor (hT.row3 hM.mesh) _ hM.sum)
    fun W hW => area_any px py n qb qo cap W (hp.below hW hp.lt) h3 hn (refI_bds h0) h0 hs hM.hull (refI_ne h0) hM.hl hM.hlen hM.h3

/-- And no point lies within the circle of any, if all sides are as they should be two by two. -/
theorem round_msh (px py : Nat → Int) (n qb qo cap g cp : Nat) (d : Array T3) (M : Nat → Nat → Option Nat) (hs : List Nat) (w : World) (hp : Pts w qb qo n px py) (hn : n ≤ 40) (h0 : refI px py n = 0) (ht : Trs w g 0 d.size (dz d)) (hd : d.size ≤ 1600) (hT : Tris M d) (hM : Msh px py n M hs) (hl : Geo.Loc px py M) :
    Calls Tryz.prog 50 #[.slice (some ⟨qb, qo, none⟩) n cap, .slice (some ⟨g, 0, none⟩) d.size cp] w fun e w' => e = .returned (.bool true) ∧ Below w.heap.size w w' :=
  rround_any px py n qb qo cap g 0 d.size cp (dz d) (dA d) (dB d) (dC d) w hp ht hn (by omega) (refI_bds h0) (hT.row3 hM.mesh)
    fun i hi k hk => by rw [wnR_Wn]; exact hM.mesh.delaunay (refI_inj h0) hM.cor hl (hT.lists.tri i hi).1 hk

theorem trs_kept {w w' : World} {g o m : Nat} {z : List Int} (h : Trs w g o m z) (hs : w.heap.size ≤ w'.heap.size) (hk : w'.heap[g]? = w.heap[g]?) : Trs w' g o m z :=
  ⟨Nat.lt_of_lt_of_le h.1 hs, fun j hj => ⟨(World.cell?_of_block (w := w) (a := ⟨g, _, none⟩) hk).trans (h.2 j hj).1, (World.cell?_of_block (w := w) (a := ⟨g, _, none⟩) hk).trans (h.2 j hj).2.1, (World.cell?_of_block (w := w) (a := ⟨g, _, none⟩) hk).trans (h.2 j hj).2.2⟩⟩

/-- What the law asks of a list of triangles, of the points v, in a world that has both. -/
structure Good2 (v u : Value) (x : Int) (W : World) : Prop where
  chk : Calls Tryz.prog 49 #[v] W fun e w' => e = .returned (.int .i64 x) ∧ Below W.heap.size W w'
  fil : x = 0 → Calls Tryz.prog 84 #[v, u] W fun e w' => e = .returned (.bool true) ∧ Below W.heap.size W w'
  rou : x = 0 → Calls Tryz.prog 50 #[v, u] W fun e w' => e = .returned (.bool true) ∧ Below W.heap.size W w'

theorem triangles_step (zs : List Int) (n g cap : Nat) (v : Value) (W : World) (hn : n ≤ 2000000) (hcap : n ≤ cap) (hp : Pts W g 0 n (zx zs) (zy zs)) (hs : ∃ p c, v = .slice p n c) :
    Calls Tryz.prog 15 #[.slice (some ⟨g, 0, none⟩) n cap] W fun e w' => ∃ u x m xs, e = .returned (.tuple #[u, .int .i64 x]) ∧ Below W.heap.size W w' ∧ w'.ownsRow W.heap.size 46 3 u m xs ∧ m ≤ 1600 ∧ (x ≠ 0 → m = 0) ∧
      ∀ W', Src W' v 2 n zs → Below w'.heap.size w' W' → Good2 v u x W' := by
  by_cases hr : n < 3 ∨ 40 < n
  · refine (triangles_err (x := 1) (by omega) ((refusal_count _ n cap W hr (by omega)).mono (by rintro e w' ⟨rfl, rfl⟩; exact ⟨rfl, Below.refl _ _⟩))).mono ?_
    rintro e w' ⟨rfl, hb⟩
    obtain ⟨p, c, rfl⟩ := hs
    exact ⟨_, 1, 0, [], rfl, hb, World.ownsRow_nil _ _ _ _, by simp, fun _ => rfl, fun W' _ _ => ⟨(check_count p n c W' hr (by omega)).mono (by rintro e w' ⟨rfl, rfl⟩; exact ⟨rfl, Below.refl _ _⟩), fun h => by omega, fun h => by omega⟩⟩
  · by_cases h0 : refI (zx zs) (zy zs) n = 0
    · have hz : NeZero n := ⟨by omega⟩
      refine (triangles_ok (zx zs) (zy zs) n g 0 cap W hp (by omega) (by omega) hcap h0).mono ?_
      rintro e w2 ⟨hb2, g2, cp, d, M, hl, rfl, hg2, hd, hown, hT, hM, hL⟩
      refine ⟨_, 0, d.size, _, rfl, hb2, hown, hd, fun h => by omega, fun W' hS hb => ?_⟩
      obtain ⟨b, o, c, rfl, hP⟩ := hS.pts (by omega)
      have ht := (trs_own hown).below hb
      exact ⟨by rw [← h0]; exact check_any (zx zs) (zy zs) n b o c W' hP (by omega) (by omega), fun _ => fills_msh _ _ n b o c g2 cp d M hl W' hP (by omega) (by omega) h0 ht hd hT hM, fun _ => round_msh _ _ n b o c g2 cp d M hl W' hP (by omega) h0 ht hd hT hM hL⟩
    · refine (triangles_err h0 (refusal_any (zx zs) (zy zs) n g 0 cap W hp (by omega) (by omega) hcap)).mono ?_
      rintro e w' ⟨rfl, hb⟩
      refine ⟨_, _, 0, [], rfl, hb, World.ownsRow_nil _ _ _ _, by simp, fun _ => rfl, fun W' hS _ => ?_⟩
      obtain ⟨b, o, c, rfl, hP⟩ := hS.pts (by omega)
      exact ⟨check_any (zx zs) (zy zs) n b o c W' hP (by omega) (by omega), fun h => absurd h h0, fun h => absurd h h0⟩

set_option maxHeartbeats 1000000 in
/-- The law's 'fills'. -/
theorem lawfills_any (kd x y : Int) (v1 v2 v3 : Value) (p : Option Addr) (m c : Nat) (e : Int) (W : World) (hm : e ≠ 0 → m = 0) (hf : e = 0 → ∀ W', Below W.heap.size W W' → Calls Tryz.prog 84 #[v1, .slice p m c] W' fun e w' => e = .returned (.bool true) ∧ Below W'.heap.size W' w') :
    Calls Tryz.prog 48 #[opV kd v1 v2 v3 x y, .slice p m c, .int .i64 e, .int .i64 e] W fun r w' => r = .returned (.bool true) ∧ Below W.heap.size W w' := by
  have OPV : opV kd v1 v2 v3 x y = .agg #[.int .i64 kd, v1, v2, v3, .int .i64 x, .int .i64 y] := rfl
  rw [OPV]
  clear OPV
  by_cases h0 : e = 0
  · subst h0
    have F := hid (hf rfl)
    clear hf hm
    go_enter Tryz.func48, Tryz.ntmps48
    go_wp2_with fail
    refine (F.out _ ((Below.refl _ _).alloc (Nat.le_refl _) _)).mono ?_
    rintro r w' ⟨rfl, hb⟩
    have HB := hid (((Below.refl _ _).alloc (Nat.le_refl _) _).trans (hb.mono (by simp)))
    clear hb
    go_wp2_with fail
    go_ret
    exact ⟨rfl, HB.out⟩
  · have := hm h0
    subst this
    have d : (e != 0) = true := by simpa using h0
    clear hf hm
    go_enter Tryz.func48, Tryz.ntmps48
    go_wp2
    go_ret
    exact ⟨rfl, (Below.refl _ _).alloc (Nat.le_refl _) _⟩
end Go.Proofs.YtdbebbbceeopaaaGreat

set_option linter.unusedSimpArgs false
namespace Go.Proofs.YtdbebbbceeopaaaGreat
open Go.RowKit

/-- What comes of Triangles, at points that are made of raw numbers. -/
theorem tri_set {n : Nat} {px py : Nat → Int} (hS : Sett n px py) (g cp : Nat) (w : World) (hp : Pts w g 0 n px py) (hcp : n ≤ cp) :
    Calls Tryz.prog 15 #[.slice (some ⟨g, 0, none⟩) n cp] w fun e w' => Below w.heap.size w w' ∧ ∃ (g2 cp2 : Nat) (d : Array T3) (M : Nat → Nat → Option Nat) (hs : List Nat), e = .returned (.tuple #[.slice (some ⟨g2, 0, none⟩) d.size cp2, .int .i64 0]) ∧ d.size ≤ 1600 ∧ 0 < d.size ∧ Trs w' g2 0 d.size (dz d) ∧ Tris M d ∧ Msh px py n M hs ∧ Geo.Loc px py M := by
  have hz : NeZero n := ⟨by have := hS.len; omega⟩
  refine (triangles_ok px py n g 0 cp w hp hS.len (by have := hS.len'; omega) hcp hS.ref).mono ?_
  rintro e w' ⟨hb, g2, cp2, d, M, hs, rfl, hg2, hd, hown, hT, hM, hL⟩
  refine ⟨hb, g2, cp2, d, M, hs, rfl, hd, ?_, trs_own hown, hT, hM, hL⟩
  obtain ⟨a, b, c, e, h1, h2⟩ := one_tri hM.mesh hM.cor (by have := hS.len; omega)
  have := List.length_pos_of_mem (hT.all a b c e h1 h2)
  simpa using this

/-- Four numbers in bounds. -/
def Bd4 (a b c d : Int) : Prop := (-1000 ≤ a ∧ a ≤ 1000) ∧ (-1000 ≤ b ∧ b ≤ 1000) ∧ (-1000 ≤ c ∧ c ≤ 1000) ∧ (-1000 ≤ d ∧ d ≤ 1000)

theorem bd4 {n : Nat} {px py : Nat → Int} (h : Bds n px py) {i k : Nat} (hi : i < n) (hk : k < n) : Bd4 (px i) (py i) (px k) (py k) := ⟨(h i hi).1, (h i hi).2, (h k hk).1, (h k hk).2⟩

theorem square_4 (a b c d : Int) (w : World) (h : Bd4 a b c d) : Calls Tryz.prog 17 #[.agg #[.int .i64 a, .int .i64 b], .agg #[.int .i64 c, .int .i64 d]] w fun e w' => e = .returned (.int .i64 (sqI a b c d)) ∧ Below w.heap.size w w' := ksquare_any a b c d h.1 h.2.1 h.2.2.1 h.2.2.2 w

def sqN (px py : Nat → Int) (i k : Nat) : Int := sqI (px i) (py i) (px k) (py k)

/-- The nearest so far: none, or b, c times. -/
def Best (px py : Nat → Int) (i k : Nat) (best count : Int) : Prop :=
  (best = -1 ∧ count = 0 ∧ ∀ r, r < k → r = i) ∨
  ∃ b : Nat, best = b ∧ b < k ∧ b ≠ i ∧ 1 ≤ count ∧ count ≤ k ∧ (∀ r, r < k → r ≠ i → sqN px py i b ≤ sqN px py i r) ∧ (count = 1 → ∀ r, r < k → r ≠ i → r ≠ b → sqN px py i b < sqN px py i r)

theorem Best.skip {px py : Nat → Int} {i : Nat} {best count : Int} (h : Best px py i i best count) : Best px py i (i + 1) best count := by
  rcases h with ⟨h1, h2, h3⟩ | ⟨b, h1, h2, h3, h4, h5, h6, h7⟩
  · refine .inl ⟨h1, h2, fun r hr => ?_⟩
    rcases Nat.lt_or_ge r i with k | k
    · exact h3 r k
    · omega
  · refine .inr ⟨b, h1, by omega, h3, h4, by omega, fun r hr hi => h6 r (by omega) hi, fun hc r hr hi hb => h7 hc r (by omega) hi hb⟩

theorem Best.first {px py : Nat → Int} {i k : Nat} {count : Int} (h : Best px py i k (-1) count) (hk : k ≠ i) : Best px py i (k + 1) k 1 := by
  rcases h with ⟨_, _, h3⟩ | ⟨b, h1, _⟩
  · refine .inr ⟨k, rfl, by omega, hk, by omega, by omega, fun r hr hi => ?_, fun _ r hr hi hb => ?_⟩
    · rcases Nat.lt_or_ge r k with q | q
      · exact absurd (h3 r q) hi
      · have : r = k := by omega
        subst this; exact Int.le_refl _
    · exact absurd (h3 r (by omega)) hi
  · omega

theorem Best.less {px py : Nat → Int} {i k b : Nat} {count : Int} (h : Best px py i k b count) (hk : k ≠ i) (hl : sqN px py i k < sqN px py i b) : Best px py i (k + 1) k 1 := by
  rcases h with ⟨h1, _⟩ | ⟨b', h1, h2, h3, h4, h5, h6, h7⟩
  · omega
  · have : b' = b := by omega
    subst this
    refine .inr ⟨k, rfl, by omega, hk, by omega, by omega, fun r hr hi => ?_, fun _ r hr hi hb => ?_⟩
    · rcases Nat.lt_or_ge r k with q | q
      · have := h6 r q hi; omega
      · have : r = k := by omega
        subst this; exact Int.le_refl _
    · have := h6 r (by omega) hi; omega

theorem Best.same {px py : Nat → Int} {i k b : Nat} {count : Int} (h : Best px py i k b count) (hk : k ≠ i) (hl : sqN px py i k = sqN px py i b) : Best px py i (k + 1) b (count + 1) := by
  rcases h with ⟨h1, _⟩ | ⟨b', h1, h2, h3, h4, h5, h6, h7⟩
  · omega
  · have : b' = b := by omega
    subst this
    refine .inr ⟨b', rfl, by omega, h3, by omega, by omega, fun r hr hi => ?_, fun hc => by omega⟩
    rcases Nat.lt_or_ge r k with q | q
    · exact h6 r q hi
    · have : r = k := by omega
      subst this; omega

theorem Best.more {px py : Nat → Int} {i k b : Nat} {count : Int} (h : Best px py i k b count) (hl : sqN px py i b < sqN px py i k) : Best px py i (k + 1) b count := by
  rcases h with ⟨h1, _⟩ | ⟨b', h1, h2, h3, h4, h5, h6, h7⟩
  · omega
  · have : b' = b := by omega
    subst this
    refine .inr ⟨b', rfl, by omega, h3, h4, by omega, fun r hr hi => ?_, fun hc r hr hi hb => ?_⟩
    · rcases Nat.lt_or_ge r k with q | q
      · exact h6 r q hi
      · have : r = k := by omega
        subst this; omega
    · rcases Nat.lt_or_ge r k with q | q
      · exact h7 hc r q hi hb
      · have : r = k := by omega
        subst this; omega

theorem sqN_sq (px py : Nat → Int) (i k : Nat) : sqN px py i k = Geo.sq (px i - px k) (py i - py k) := rfl

/-- The one that is nearest is a corner of a triangle that has the other, too. -/
theorem joined {px py : Nat → Int} {n : Nat} {M : Nat → Nat → Option Nat} {hs : List Nat} {d : Array T3} (hi : Geo.Inj px py n) (hM : Msh px py n M hs) (hL : Geo.Loc px py M) (hT : Tris M d) {i b : Nat} (h1 : i < n) (h2 : b < n) (hne : b ≠ i)
    (hn : ∀ r, r < n → r ≠ i → r ≠ b → sqN px py i b < sqN px py i r) : sideB (dA d) (dB d) (dC d) i b d.size = true := by
  have key : ∀ a c, (∃ z, M a c = some z) → ((a = i ∧ c = b) ∨ (a = b ∧ c = i)) → sideB (dA d) (dB d) (dC d) i b d.size = true := by
    rintro a c ⟨z, e⟩ hac
    obtain ⟨j, hj, q⟩ := hT.lists.has hM.mesh e
    refine sideB_of hj ?_
    unfold hasB
    rcases hac with ⟨rfl, rfl⟩ | ⟨rfl, rfl⟩ <;> rcases q with ⟨q1, q2, q3⟩ | ⟨q1, q2, q3⟩ | ⟨q1, q2, q3⟩ <;> simp [q1, q2, q3]
  rcases hM.mesh.nearest hi hM.cor hL h1 h2 (Ne.symm hne) (fun r hr k1 k2 => by have := hn r hr k1 k2; rw [sqN_sq, sqN_sq] at this; exact this) with h | h
  · exact key i b h (.inl ⟨rfl, rfl⟩)
  · exact key b i h (.inr ⟨rfl, rfl⟩)

set_option maxRecDepth 100000 in
set_option maxHeartbeats 4000000 in
theorem near_any (a : Option Addr) (len cap : Nat) (sz : Int) (w : World)
    (hpts : Calls Tryz.prog 14 #[.slice a len cap, .int .i64 sz] w fun e w' => ∃ v N ps, e = .returned v ∧ Below w.heap.size w w' ∧ Sq N ps ∧ w'.ownsRow w.heap.size 35 2 v ps.length (cellsP ps)) :
    Calls Tryz.prog 5 #[.slice a len cap, .int .i64 sz] w fun e w' => e = .returned (.bool true) ∧ Below w.heap.size w w' := by
  have C1 := hid (points_set hpts)
  clear hpts
  go_enter Tryz.func5, Tryz.ntmps5
  go_wp2_with fail
  refine C1.out.mono ?_
  rintro e w1 ⟨g, n, cp, px, py, rfl, hb1, hcp, hS, hP⟩
  have C2 := hid (tri_set hS g cp w1 hP hcp)
  have HB1 := hid hb1
  have HS := hid hS
  have HP := hid hP
  have hn3 := hS.len
  have hn30 := hS.len'
  clear C1 hb1 hS hP
  go_wp2_with fail
  refine C2.out.mono ?_
  rintro e w2 ⟨hb2, g2, cp2, d, M, hs, rfl, hd, hd0, hTr, hT, hM, hL⟩
  have HB2 := hid (HB1.out.trans (hb2.mono HB1.out.size))
  have HP2 := hid (HP.out.below hb2 HP.out.lt)
  have HTR := hid hTr
  have HT := hid hT
  have HM := hid hM
  have HL := hid hL
  have BDS := hid (refI_bds HS.out.ref)
  have C3 := hid (sane_any px py n g 0 cp d.size cp2 (some ⟨g2, 0, none⟩) (dz d) (dA d) (dB d) (dC d) w2 HP2.out (fun _ => ⟨g2, 0, rfl, hTr⟩) (by omega) BDS.out (hT.row3 hM.mesh) (fun i hi => (hT.lists.tri i hi).2) (fun i hi => hM.mesh.pos _ _ _ (hT.lists.tri i hi).1))
  have hZ : Hid (∀ i b W, Below w2.heap.size w2 W → Calls Tryz.prog 18 #[.slice (some ⟨g2, 0, none⟩) d.size cp2, .int .i64 ((i : Nat) : Int), .int .i64 ((b : Nat) : Int)] W fun e w' => e = .returned (.bool (sideB (dA d) (dB d) (dC d) i b d.size)) ∧ Below W.heap.size W w') := hid fun i b W hW => side_any n g2 0 d.size cp2 (dz d) (dA d) (dB d) (dC d) i b W (hTr.below hW) (by omega) (hT.row3 hM.mesh)
  clear C2 hb2 HB1 HP hTr hT hM hL
  go_wp2_with fail
  refine C3.out.mono ?_
  rintro e w3 ⟨rfl, hb3⟩
  have HB3 := hid hb3
  clear C3 hb3
  obtain ⟨m, hm⟩ : ∃ m, m = d.size := ⟨_, rfl⟩
  rw [← hm] at hd hd0 hZ ⊢
  have HMM := hid hm
  clear hm
  go_wp2_with fail
  go_loopw [9] (fun i wr => ∃ k : Nat, k ≤ n ∧ i = .int .i64 k ∧ Hid (Below w2.heap.size w2 wr)) (fun i _ => n - (intOf i).toNat)
  case atStart => exact ⟨0, Nat.zero_le _, rfl, HB3⟩
  case round =>
    obtain ⟨i, hi, rfl, HB⟩ := hrel
    clear HB3
    by_cases hlt : i < n
    · have hlt' : (i : Int) < n := by omega
      obtain ⟨W0, rfl⟩ : ∃ W0, W0 = wr := ⟨wr, rfl⟩
      go_wp2_with fail
      go_loopw [10, 11, 12] (fun be co kk wr => ∃ (k : Nat) (b c : Int), k ≤ n ∧ kk = .int .i64 k ∧ be = .int .i64 b ∧ co = .int .i64 c ∧ Best px py i k b c ∧ Hid (Below w2.heap.size w2 wr)) (fun _ _ kk _ => n - (intOf kk).toNat)
      case atStart => exact ⟨0, -1, 0, Nat.zero_le _, rfl, rfl, rfl, .inl ⟨rfl, rfl, fun r hr => by omega⟩, HB⟩
      case round =>
        clear HB
        obtain ⟨k, b, c, hk, rfl, rfl, rfl, hbest, HB⟩ := hrel
        by_cases hlk : k < n
        · have hlk' : (k : Int) < n := by omega
          by_cases hki : k = i
          · subst hki
            have HBE := hid hbest.skip
            clear hbest
            go_wp2_with fail
            go_roundw
            case rel => exact ⟨k + 1, _, _, by omega, by go_num, rfl, rfl, HBE.out, HB⟩
            case measure => simp [intOf]; omega
          · have dki : ((k : Int) == (i : Int)) = false := by simp; omega
            have hpw := HP2.out.below HB.out HP2.out.lt
            have cx : ∀ j, j < n → wr.cell? ⟨g, j * 2, none⟩ = some (.int .i64 (px j)) := fun j hj => by have := hpw.x j hj; rwa [Nat.zero_add] at this
            have cy : ∀ j, j < n → wr.cell? ⟨g, j * 2 + 1, none⟩ = some (.int .i64 (py j)) := fun j hj => by have := hpw.y j hj; rwa [Nat.zero_add] at this
            have xi := cx i hlt
            have yi := cy i hlt
            have xk := cx k hlk
            have yk := cy k hlk
            have gl := hpw.lt
            have B1 := bd4 BDS.out hlt hlk
            by_cases hb1 : b = -1
            · subst hb1
              have HBE := hid (hbest.first hki)
              clear hbest cx cy hpw B1
              go_wp2_with fail
              go_quiet (fail)
              go_wp2_with fail
              go_roundw
              case rel => exact ⟨k + 1, _, _, by omega, by go_num, rfl, rfl, HBE.out, hid (below_drewN HB.out _)⟩
              case measure => simp [intOf]; omega
            · obtain ⟨bb, hbb, rfl⟩ : ∃ bb : Nat, bb < k ∧ b = bb := by
                rcases hbest with ⟨h1, _⟩ | ⟨b', h1, h2, _⟩
                · exact absurd h1 hb1
                · exact ⟨b', h2, h1⟩
              have hbn : bb < n := by omega
              have hbn' : (bb : Int) < n := by omega
              have hb0 : ¬ (bb : Int) < 0 := by omega
              have xb := cx bb hbn
              have yb := cy bb hbn
              have B2 := bd4 BDS.out hlt hbn
              have SQ := hid (square_4)
              have HBEST := hid hbest
              have q1 : (0 : Int) ≤ (i : Int) := by omega
              have q2 : (0 : Int) ≤ (k : Int) := by omega
              have q3 : (0 : Int) ≤ (bb : Int) := by omega
              have HN1 : Hid (sqN px py i k = sqI (px i) (py i) (px k) (py k)) := hid rfl
              have HN2 : Hid (sqN px py i bb = sqI (px i) (py i) (px bb) (py bb)) := hid rfl
              have KEEP : Hid (∀ W, Below wr.heap.size wr W → W.cell? ⟨g, i * 2, none⟩ = some (.int .i64 (px i)) ∧ W.cell? ⟨g, i * 2 + 1, none⟩ = some (.int .i64 (py i)) ∧ W.cell? ⟨g, k * 2, none⟩ = some (.int .i64 (px k)) ∧ W.cell? ⟨g, k * 2 + 1, none⟩ = some (.int .i64 (py k)) ∧ W.cell? ⟨g, bb * 2, none⟩ = some (.int .i64 (px bb)) ∧ W.cell? ⟨g, bb * 2 + 1, none⟩ = some (.int .i64 (py bb))) := hid fun W hW => ⟨(hW.cell (by exact gl)).trans xi, (hW.cell (by exact gl)).trans yi, (hW.cell (by exact gl)).trans xk, (hW.cell (by exact gl)).trans yk, (hW.cell (by exact gl)).trans xb, (hW.cell (by exact gl)).trans yb⟩
              have START := KEEP.out wr.drew (Below.refl _ _).drew
              clear hbest cx cy hpw hb1
              go_wp2_with fail
              go_region_held3 (fun w' => w'.cell? ⟨g, i * 2, none⟩ = some (.int .i64 (px i)) ∧ w'.cell? ⟨g, i * 2 + 1, none⟩ = some (.int .i64 (py i)) ∧ w'.cell? ⟨g, k * 2, none⟩ = some (.int .i64 (px k)) ∧ w'.cell? ⟨g, k * 2 + 1, none⟩ = some (.int .i64 (py k)) ∧ w'.cell? ⟨g, bb * 2, none⟩ = some (.int .i64 (px bb)) ∧ w'.cell? ⟨g, bb * 2 + 1, none⟩ = some (.int .i64 (py bb))) (assumption)
                ((go_at_call 17; refine (SQ.out _ _ _ _ _ (by assumption)).mono ?_; rintro e w6 ⟨rfl, hb6⟩; have HB6 : Hid (Below wr.heap.size wr w6) := hid (by first | exact (Below.refl _ _).drew.trans hb6 | exact HB6.out.trans (hb6.mono HB6.out.size)); have HK := KEEP.out w6 HB6.out; clear hb6))
              clear HK START
              obtain ⟨s1, hs1⟩ : ∃ s1, s1 = sqI (px i) (py i) (px k) (py k) := ⟨_, rfl⟩
              obtain ⟨s2, hs2⟩ : ∃ s2, s2 = sqI (px i) (py i) (px bb) (py bb) := ⟨_, rfl⟩
              have HS1 := hid hs1
              have HS2 := hid hs2
              rw [← hs1, ← hs2]
              clear hs1 hs2
              by_cases l1 : s1 < s2
              · have HBE := hid (HBEST.out.less hki (by rw [HN1.out, HN2.out, ← HS1.out, ← HS2.out]; exact l1))
                go_wp2_with fail
                go_roundw
                case rel => exact ⟨k + 1, _, _, by omega, by go_num, rfl, rfl, HBE.out, hid (HB.out.trans (HB6.out.mono HB.out.size))⟩
                case measure => simp [intOf]; omega
              · have START := KEEP.out w6.drew HB6.out.drew
                go_wp2_with fail
                go_region_held3 (fun w' => w'.cell? ⟨g, i * 2, none⟩ = some (.int .i64 (px i)) ∧ w'.cell? ⟨g, i * 2 + 1, none⟩ = some (.int .i64 (py i)) ∧ w'.cell? ⟨g, k * 2, none⟩ = some (.int .i64 (px k)) ∧ w'.cell? ⟨g, k * 2 + 1, none⟩ = some (.int .i64 (py k)) ∧ w'.cell? ⟨g, bb * 2, none⟩ = some (.int .i64 (px bb)) ∧ w'.cell? ⟨g, bb * 2 + 1, none⟩ = some (.int .i64 (py bb))) (assumption)
                  ((go_at_call 17; refine (SQ.out _ _ _ _ _ (by assumption)).mono ?_; rintro e w8 ⟨rfl, hb8⟩; have HB8 : Hid (Below wr.heap.size wr w8) := hid (by first | exact HB6.out.drew.trans (hb8.mono HB6.out.size) | exact HB8.out.trans (hb8.mono HB8.out.size)); have HK := KEEP.out w8 HB8.out; clear hb8))
                clear HK START
                rw [← HS1.out, ← HS2.out]
                by_cases l2 : s1 = s2
                · have HBE := hid (HBEST.out.same hki (by rw [HN1.out, HN2.out, ← HS1.out, ← HS2.out]; exact l2))
                  have dl : (s1 == s2) = true := by simpa using l2
                  have hcb : c ≤ 40 ∧ 0 ≤ c := by
                    rcases HBEST.out with ⟨_, h2, _⟩ | ⟨_, _, _, _, h4, h5, _⟩
                    · omega
                    · omega
                  go_wp2_with fail
                  go_roundw
                  case rel => exact ⟨k + 1, _, _, by omega, by go_num, rfl, by go_num, HBE.out, hid (HB.out.trans (HB8.out.mono HB.out.size))⟩
                  case measure => simp [intOf]; omega
                · have HBE := hid (HBEST.out.more (by rw [HN1.out, HN2.out, ← HS1.out, ← HS2.out]; omega))
                  have dl : (s1 == s2) = false := by simpa using l2
                  go_wp2_with fail
                  go_roundw
                  case rel => exact ⟨k + 1, _, _, by omega, by go_num, rfl, rfl, HBE.out, hid (HB.out.trans (HB8.out.mono HB.out.size))⟩
                  case measure => simp [intOf]; omega
        · have hkn : k = n := by omega
          subst hkn
          rcases hbest with ⟨_, _, h3⟩ | ⟨bb, rfl, h2, h3, h4, h5, h6, h7⟩
          · exfalso
            have e0 := h3 0 (by omega)
            have e1 := h3 1 (by omega)
            omega
          · go_wp2_with fail
            refine (hZ.out i bb wr HB.out).mono ?_
            rintro e w4 ⟨rfl, hb4⟩
            have HB4 := hid (HB.out.trans (hb4.mono HB.out.size))
            clear hb4
            by_cases hc1 : c = 1
            · have hj := joined (refI_inj HS.out.ref) HM.out HL.out HT.out hlt h2 h3 (h7 hc1)
              rw [← HMM.out] at hj
              rw [hj]
              subst hc1
              clear h4 h5 h6 h7 hj
              go_wp2_with fail
              go_roundw
              case rel => exact ⟨i + 1, by omega, by go_num, HB4⟩
              case measure => simp [intOf]; omega
            · have dc : (c == 1) = false := by simpa using hc1
              generalize sideB (dA d) (dB d) (dC d) i bb m = jj at *
              clear h4 h5 h6 h7
              go_wp2_with fail
              go_roundw
              case rel => exact ⟨i + 1, by omega, by go_num, HB4⟩
              case measure => simp [intOf]; omega
    · have hkm : i = n := by omega
      subst hkm
      go_wp2_with fail
      go_ret
      exact ⟨rfl, HB2.out.trans (HB.out.mono HB2.out.size)⟩
end Go.Proofs.YtdbebbbceeopaaaGreat

set_option linter.unusedSimpArgs false
namespace Go.Proofs.YtdbebbbceeopaaaGreat
open Geo
variable {px py : Nat → Int} {n m : Nat} {M : Nat → Nat → Option Nat} {A B C : Nat → Nat}

theorem Lists.count (h : Lists M m A B C) (hm : Mesh px py n M) : (m : Int) * 3 = Sd n M (fun _ _ _ => 1) := by
  have e1 : Sd n M (fun _ _ _ => 1) = Sd n M (Kc fun _ _ _ => 1) + Sd n M (fun u v w => Kc (fun _ _ _ => 1) v w u) + Sd n M (fun u v w => Kc (fun _ _ _ => 1) w u v) := by
    unfold Sd
    rw [← sm2_add, ← sm2_add]
    refine sm2_congr fun u v _ _ => ?_
    cases e : M u v with
    | none => rfl
    | some w =>
      simp only [el_some, Kc]
      rcases least hm e with k | k | k
      · rw [if_pos k, if_neg (by omega), if_neg (by omega)]; omega
      · rw [if_neg (by omega), if_pos k, if_neg (by omega)]; omega
      · rw [if_neg (by omega), if_neg (by omega), if_pos k]; omega
  have r1 : Sd n M (Kc fun _ _ _ => 1) = Sd n M (fun u v w => Kc (fun _ _ _ => 1) v w u) := rotS hm _
  have r2 : Sd n M (fun u v w => Kc (fun _ _ _ => 1) v w u) = Sd n M (fun u v w => Kc (fun _ _ _ => 1) w u v) := rotS hm _
  have e2 : Sd n M (Kc fun _ _ _ => 1) = (m : Int) := by
    have d := sm2_diff (n := n) ((List.range m).map fun j => (A j, B j)) (fun u v => el (M u v) fun w => Kc (fun _ _ _ => 1) u v w) (fun _ _ => 0) (by
        refine List.nodup_iff_pairwise_ne.2 (List.pairwise_map.2 (List.pairwise_iff_getElem.2 fun i j hi hj hij => ?_))
        simp at hi hj
        simp only [List.getElem_range, ne_eq, Prod.mk.injEq, not_and]
        intro k1 k2
        have t1 := (h.tri i hi).1
        have t2 := (h.tri j hj).1
        rw [k1, k2, t2] at t1
        have := h.inj hi hj k1 k2 (Option.some.inj t1).symm
        omega) (by
        intro k hk
        obtain ⟨j, hj, rfl⟩ := List.mem_map.1 hk
        have := hm.lts (h.tri j (List.mem_range.1 hj)).1
        exact ⟨this.1, this.2.1⟩) (by
        intro u v _ _ hn
        cases e : M u v with
        | none => rfl
        | some w =>
          simp only [el_some, Kc]
          rw [if_neg]
          intro k
          obtain ⟨i, hi, e1, e2, _⟩ := h.all u v w e k.1 k.2
          exact hn (List.mem_map.2 ⟨i, List.mem_range.2 hi, by rw [e1, e2]⟩))
    have z0 : sm2 n (fun _ _ => (0 : Int)) = 0 := by
      have : sm2 n (fun _ _ => (0 : Int)) = sm n (fun _ => 0) := sm_congr fun _ _ => sm_zero n
      rw [this, sm_zero]
    unfold Sd
    rw [d, z0, List.map_map, Int.zero_add]
    have e : (List.range m).map ((fun k : Nat × Nat => el (M k.1 k.2) (fun w => Kc (fun _ _ _ => 1) k.1 k.2 w) - 0) ∘ fun j => (A j, B j)) = (List.range m).map fun _ => (1 : Int) := by
      refine List.map_congr_left fun j hj => ?_
      have t := h.tri j (List.mem_range.1 hj)
      simp only [Function.comp, t.1, el_some, Kc]
      rw [if_pos t.2]
      omega
    rw [e]
    clear e d z0 h
    induction m with
    | zero => rfl
    | succ m ih => rw [List.range_succ, List.map_append, List.sum_append, ih]; simp
  omega


theorem refI_Wide (h3 : 3 ≤ n) (hr : refI px py n = 0) {os : List Nat} (hn : ∀ p, p ∈ os ↔ p < n) : Wide px py os := by
  obtain ⟨i, hi, hT⟩ := refI_wide h3 hr
  exact ⟨0, (hn 0).2 (by omega), 1, (hn 1).2 (by omega), i, (hn i).2 hi, hT⟩

/-- How many triangles there are. -/
theorem Msh.count {hs : List Nat} (h : Msh px py n M hs) (h3 : 3 ≤ n) (hr : refI px py n = 0) (hj : Inj px py n) (hl : Lists M m A B C) : (m : Int) = 2 * n - bdc px py n - 2 := by
  obtain ⟨os, ⟨o3, op, om⟩, rfl, hre⟩ := h.ord
  have hw := refI_Wide h3 hr om
  obtain ⟨s1, q1, s2, q2, R⟩ := ring0 o3 op om hw
  have m0 := mesh0_ok o3 op om hw
  have b := R.bdc m0.1 hj m0.2.1 om hw
  have c := R.cnt
  have rc := reach_cnt hre
  have lc := hl.count h.mesh
  have len := ord_len op om
  omega

end Go.Proofs.YtdbebbbceeopaaaGreat

set_option linter.unusedSimpArgs false
namespace Go.Proofs.YtdbebbbceeopaaaGreat
open Go.RowKit
open Geo (tp)

/-- The corners of the square that points of raw numbers lie in. -/
structure Corn (px py : Nat → Int) (N : Int) : Prop where
  big : 8 ≤ N
  x0 : px 0 = 0
  y0 : py 0 = 0
  x1 : px 1 = N
  y1 : py 1 = 0
  x2 : px 2 = 0
  y2 : py 2 = N

theorem sq_corn {N : Int} {ps : List (Int × Int)} (h : Sq N ps) : Corn (sx ps) (sy ps) N := by
  have e0 : ps.getD 0 (0, 0) = (0, 0) := by rw [List.getD_eq_getElem?_getD, h.p0]; rfl
  have e1 : ps.getD 1 (0, 0) = (N, 0) := by rw [List.getD_eq_getElem?_getD, h.p1]; rfl
  have e2 : ps.getD 2 (0, 0) = (0, N) := by rw [List.getD_eq_getElem?_getD, h.p2]; rfl
  exact ⟨h.big, by unfold sx; rw [e0], by unfold sy; rw [e0], by unfold sx; rw [e1], by unfold sy; rw [e1], by unfold sx; rw [e2], by unfold sy; rw [e2]⟩

theorem points_set2 {arg : Array Value} {w : World} (hpts : Calls Tryz.prog 14 arg w fun e w' => ∃ v N ps, e = .returned v ∧ Below w.heap.size w w' ∧ Sq N ps ∧ w'.ownsRow w.heap.size 35 2 v ps.length (cellsP ps)) :
    Calls Tryz.prog 14 arg w fun e w' => ∃ g n cp px py N, e = .returned (.slice (some ⟨g, 0, none⟩) n cp) ∧ Below w.heap.size w w' ∧ n ≤ cp ∧ Sett n px py ∧ Corn px py N ∧ Pts w' g 0 n px py := by
  refine hpts.mono ?_
  rintro e w1 ⟨v, N, ps, rfl, hb1, hsq, ho⟩
  obtain ⟨g, cp, rfl, hgb, hgl, hcp, hcells⟩ := shape33 ho (by have := hsq.len; omega)
  exact ⟨g, ps.length, cp, sx ps, sy ps, N, rfl, hb1, hcp, sq_set hsq, sq_corn hsq, sq_pts hgl hcells⟩

theorem hull_set2 {n : Nat} {px py : Nat → Int} (hS : Sett n px py) (g cp : Nat) (w : World) (hp : Pts w g 0 n px py) (hcp : n ≤ cp) :
    Calls Tryz.prog 21 #[.slice (some ⟨g, 0, none⟩) n cp] w fun e w' => ∃ g2 cp2 hs, e = .returned (.tuple #[.slice (some ⟨g2, 0, none⟩) (hs.length : Nat) cp2, .int .i64 0]) ∧ Below w.heap.size w w' ∧ hs.length ≤ 100 ∧ g2 < w'.heap.size ∧
      Cnr n px py hs.length (fun i => hs.getD i 0) ∧ (∃ os : List Nat, (3 ≤ os.length ∧ os.Pairwise (Geo.Lt Geo.Lex px py) ∧ ∀ p, p ∈ os ↔ p < n) ∧ hs = hullOf (T px py) os) ∧ ∀ j, j < hs.length → w'.cell? ⟨g2, j, none⟩ = some (.int .i64 (hs.getD j 0 : Nat)) := by
  have hz : NeZero n := ⟨by have := hS.len; omega⟩
  refine (hull_ok px py n g 0 cp w hp hS.len (by have := hS.len'; omega) hcp hS.ref).mono ?_
  rintro e w2 ⟨v2, rfl, hb2, d, hd, hperm, hsort, hown⟩
  have H := hullOf_isHull hS.len hd hperm hsort hS.ne ⟨2, by have := hS.len; omega, hS.wide⟩
  obtain ⟨g2, cp2, rfl, _, hg2, _, _, hc⟩ := row_of_owns hown (by have := H.len; omega)
  refine ⟨g2, cp2, hullOf (T px py) (nums d), rfl, hb2, ?_, hg2, ⟨H.len, H.lt, H.inj, H.side, H.turn⟩, ⟨nums d, ord0 hS.len hS.ref hd hperm hsort, rfl⟩, ?_⟩
  · have := hull_len H
    have := hS.len'
    omega
  · intro j hj
    rw [hc j hj]
    simp [encN, hj]

/-- To the left of the hull's first k sides? -/
def inB (px py : Nat → Int) (x y : Int) (hs : List Nat) : Nat → Bool
  | 0 => true
  | k + 1 => inB px py x y hs k && decide (0 ≤ tp px py x y (hs.getD k 0) (hs.getD ((k + 1) % hs.length) 0))

theorem inB_all {px py : Nat → Int} {x y : Int} {hs : List Nat} : ∀ {k : Nat}, inB px py x y hs k = true → ∀ i, i < k → 0 ≤ tp px py x y (hs.getD i 0) (hs.getD ((i + 1) % hs.length) 0)
  | 0, _, i, hi => by omega
  | k + 1, h, i, hi => by
    unfold inB at h
    rw [Bool.and_eq_true, decide_eq_true_eq] at h
    rcases Nat.lt_or_ge i k with g | g
    · exact inB_all h.1 i g
    · have : i = k := by omega
      subst this; exact h.2

theorem inB_not {px py : Nat → Int} {x y : Int} {hs : List Nat} : ∀ {k : Nat}, inB px py x y hs k = false → ∃ i, i < k ∧ tp px py x y (hs.getD i 0) (hs.getD ((i + 1) % hs.length) 0) < 0
  | 0, h => by cases h
  | k + 1, h => by
    unfold inB at h
    rcases Bool.and_eq_false_iff.1 h with g | g
    · obtain ⟨i, hi, q⟩ := inB_not g
      exact ⟨i, by omega, q⟩
    · rw [decide_eq_false_iff_not] at g
      exact ⟨k, by omega, by omega⟩

/-- Does a place lie in the triangle of three points, or on its border? -/
def triB (px py : Nat → Int) (x y : Int) (a b c : Nat) : Bool := decide (0 ≤ tp px py x y a b) && (decide (0 ≤ tp px py x y b c) && decide (0 ≤ tp px py x y c a))

theorem hit_tri {px py : Nat → Int} {n : Nat} {M : Nat → Nat → Option Nat} {hs : List Nat} {d : Array T3} (hbd : Bds n px py) (hM : Msh px py n M hs) (hT : Tris M d) {x y : Int} (X : -1000 ≤ x ∧ x ≤ 1000) (Y : -1000 ≤ y ∧ y ≤ 1000) {j : Nat} (hj : j < d.size) :
    hitB px py n x y (tris (dz d) d.size)[j]! = triB px py x y (dA d j) (dB d j) (dC d j) := by
  obtain ⟨z0, z1, z2⟩ := dz_get d j hj
  have l := (hT.row3 hM.mesh).a j hj
  have p := hM.mesh.pos _ _ _ (hT.lists.tri j hj).1
  have nr : ∀ i, i < n → (nearB (px i) && nearB (py i)) = true := fun i hi => by rw [Bool.and_eq_true, nearB_iff, nearB_iff]; exact hbd i hi
  rw [tris_at _ _ _ hj, z0, z1, z2]
  unfold hitB
  rw [hit_near (by rw [Bool.and_eq_true, nearB_iff, nearB_iff]; exact ⟨X, Y⟩) (nr _ l.1) (nr _ l.2.1) (nr _ l.2.2) l.1 l.2.1 l.2.2]
  have : decide (0 < tw (px (dA d j)) (py (dA d j)) (px (dB d j)) (py (dB d j)) (px (dC d j)) (py (dC d j))) = true := decide_eq_true p
  rw [this]
  rfl

/-- Beside the hull nothing is found. -/
theorem loc_out {px py : Nat → Int} {n : Nat} {M : Nat → Nat → Option Nat} {hs hs' : List Nat} {d : Array T3} (hbd : Bds n px py) (hM : Msh px py n M hs) (hT : Tris M d) (hC : Cnr n px py hs'.length (fun i => hs'.getD i 0)) {x y : Int} (X : -1000 ≤ x ∧ x ≤ 1000) (Y : -1000 ≤ y ∧ y ≤ 1000)
    (h : inB px py x y hs' hs'.length = false) : locI px py n (dz d) d.size x y = -1 := by
  obtain ⟨i, hi, hlt⟩ := inB_not h
  refine loc_miss fun j hj => ?_
  rw [hit_tri hbd hM hT X Y hj]
  have nb := hM.mesh.beside (hC.side i hi) hlt (hT.lists.tri j hj).1
  unfold triB
  cases h1 : decide (0 ≤ tp px py x y (dA d j) (dB d j)) with
  | false => rfl
  | true =>
    cases h2 : decide (0 ≤ tp px py x y (dB d j) (dC d j)) with
    | false => rfl
    | true =>
      cases h3 : decide (0 ≤ tp px py x y (dC d j) (dA d j)) with
      | false => rfl
      | true => exact absurd ⟨of_decide_eq_true h1, of_decide_eq_true h2, of_decide_eq_true h3⟩ nb

/-- Within the hull something is. -/
theorem in_some {px py : Nat → Int} {n : Nat} {N : Int} {M : Nat → Nat → Option Nat} {hs hs' : List Nat} {d : Array T3} (hS : Sett n px py) (hC : Corn px py N) (hM : Msh px py n M hs) (hT : Tris M d) (ho : ∃ os : List Nat, (3 ≤ os.length ∧ os.Pairwise (Geo.Lt Geo.Lex px py) ∧ ∀ p, p ∈ os ↔ p < n) ∧ hs' = hullOf (T px py) os) {x y : Int}
    (h : inB px py x y hs' hs'.length = true) : ∃ j, j < d.size ∧ triB px py x y (dA d j) (dB d j) (dC d j) = true := by
  obtain ⟨os', ⟨o3', op', om'⟩, rfl⟩ := ho
  obtain ⟨os, ⟨o3, op, om⟩, rfl, hre⟩ := hM.ord
  have e : os' = os := order_one op' op (fun p => by rw [om, om'])
  subst e
  obtain ⟨s1, q1, s2, q2, R⟩ := ring0 o3 op om (refI_Wide hS.len hS.ref om)
  have hlen := hS.len
  have big := hC.big
  have key : ∀ gx : Int, 1 ≤ gx → gx ≤ 2 → gx ≠ x → ∃ a b c, M a b = some c ∧ 0 ≤ tp px py x y a b ∧ 0 ≤ tp px py x y b c ∧ 0 ≤ tp px py x y c a := by
    intro gx g1 g2 gne
    have nn : 0 < N * N := Int.mul_pos (by omega) (by omega)
    refine found_tri R hre hM.mesh om (gx := gx) (gy := 1) (p := 0) (q := 1) (r := 2) (by omega) (by omega) (by omega) ?_ ?_ ?_ ?_ gne ⟨0, by omega, by rw [hC.x0]; omega⟩ ⟨1, by omega, by rw [hC.x1]; omega⟩ (inB_all h)
    · unfold T tw
      rw [hC.x0, hC.y0, hC.x1, hC.y1, hC.x2, hC.y2]
      simp; omega
    · unfold tp
      rw [hC.x0, hC.y0, hC.x1, hC.y1]
      simp; omega
    · unfold tp
      rw [hC.x1, hC.y1, hC.x2, hC.y2]
      have e : (0 - N) * (1 - 0) - (N - 0) * (gx - N) = N * (N - gx - 1) := by grind
      rw [e]
      exact Int.mul_pos (by omega) (by omega)
    · unfold tp
      rw [hC.x0, hC.y0, hC.x2, hC.y2]
      have e : (0 - 0) * (1 - N) - (0 - N) * (gx - 0) = N * gx := by grind
      rw [e]
      exact Int.mul_pos (by omega) (by omega)
  obtain ⟨a, b, c, e, k1, k2, k3⟩ : ∃ a b c, M a b = some c ∧ 0 ≤ tp px py x y a b ∧ 0 ≤ tp px py x y b c ∧ 0 ≤ tp px py x y c a := by
    by_cases q : x = 1
    · exact key 2 (by omega) (by omega) (by omega)
    · exact key 1 (by omega) (by omega) (by omega)
  obtain ⟨j, hj, q⟩ := hT.lists.has hM.mesh e
  refine ⟨j, hj, ?_⟩
  unfold triB
  rw [Bool.and_eq_true, Bool.and_eq_true, decide_eq_true_eq, decide_eq_true_eq, decide_eq_true_eq]
  rcases q with ⟨q1, q2, q3⟩ | ⟨q1, q2, q3⟩ | ⟨q1, q2, q3⟩
  · rw [q1, q2, q3]; exact ⟨k1, k2, k3⟩
  · rw [q1, q2, q3]; exact ⟨k3, k1, k2⟩
  · rw [q1, q2, q3]; exact ⟨k2, k3, k1⟩

end Go.Proofs.YtdbebbbceeopaaaGreat

set_option linter.unusedSimpArgs false
namespace Go.Proofs.YtdbebbbceeopaaaGreat
open Go.RowKit
open Geo (tp)

/-- Six numbers in bounds. -/
def Bd6 (a b c d e f : Int) : Prop := Bd4 a b c d ∧ (-1000 ≤ e ∧ e ≤ 1000) ∧ (-1000 ≤ f ∧ f ≤ 1000)

theorem turn_6 (a b c d e f : Int) (w : World) (h : Bd6 a b c d e f) : Calls Tryz.prog 23 #[.agg #[.int .i64 a, .int .i64 b], .agg #[.int .i64 c, .int .i64 d], .agg #[.int .i64 e, .int .i64 f]] w fun r w' => r = .returned (.int .i64 (tw a b c d e f)) ∧ Below w.heap.size w w' :=
  kturn_any a b c d e f h.1.1 h.1.2.1 h.1.2.2.1 h.1.2.2.2 h.2.1 h.2.2 w

set_option maxRecDepth 100000 in
set_option maxHeartbeats 4000000 in
theorem found_any (a : Option Addr) (len cap : Nat) (sz x0 y0 : Int) (w : World) (wsz : -9223372036854775808 ≤ sz ∧ sz ≤ 9223372036854775807) (wx : -9223372036854775808 ≤ x0 ∧ x0 ≤ 9223372036854775807) (wy : -9223372036854775808 ≤ y0 ∧ y0 ≤ 9223372036854775807)
    (hpts : Calls Tryz.prog 14 #[.slice a len cap, .int .i64 sz] w fun e w' => ∃ v N ps, e = .returned v ∧ Below w.heap.size w w' ∧ Sq N ps ∧ w'.ownsRow w.heap.size 35 2 v ps.length (cellsP ps)) :
    Calls Tryz.prog 8 #[.slice a len cap, .int .i64 sz, .int .i64 x0, .int .i64 y0] w fun e w' => e = .returned (.bool true) ∧ Below w.heap.size w w' := by
  have C1 := hid (points_set2 hpts)
  clear hpts
  have K1 := hid (fun W => pick_any sz 400 wsz (by omega) (by omega) W)
  have pk := pickI_bd sz 400 (by omega)
  obtain ⟨m0, hm0⟩ : ∃ m0, m0 = pickI sz 400 := ⟨_, rfl⟩
  rw [← hm0] at K1 pk
  clear hm0
  have K2 := hid (fun W => pick_any x0 (8 + m0 + 3) wx (by omega) (by omega) W)
  have K3 := hid (fun W => pick_any y0 (8 + m0 + 3) wy (by omega) (by omega) W)
  have p2 := pickI_bd x0 (8 + m0 + 3) (by omega)
  have p3 := pickI_bd y0 (8 + m0 + 3) (by omega)
  obtain ⟨x1, hx1⟩ : ∃ x1, x1 = pickI x0 (8 + m0 + 3) := ⟨_, rfl⟩
  obtain ⟨y1, hy1⟩ : ∃ y1, y1 = pickI y0 (8 + m0 + 3) := ⟨_, rfl⟩
  rw [← hx1] at K2 p2
  rw [← hy1] at K3 p3
  clear hx1 hy1 wx wy wsz
  have c1 : IntKind.i64.wrap (8 + m0) = 8 + m0 := by simp [IntKind.wrap, IntKind.signed, IntKind.bits]; omega
  have c2 : IntKind.i64.wrap (8 + m0 + 3) = 8 + m0 + 3 := by simp [IntKind.wrap, IntKind.signed, IntKind.bits]; omega
  have c3 : IntKind.i64.wrap (x1 - 1) = x1 - 1 := by simp [IntKind.wrap, IntKind.signed, IntKind.bits]; omega
  have c4 : IntKind.i64.wrap (y1 - 1) = y1 - 1 := by simp [IntKind.wrap, IntKind.signed, IntKind.bits]; omega
  go_enter Tryz.func8, Tryz.ntmps8
  go_wp2_with fail
  refine C1.out.mono ?_
  rintro e w1 ⟨g, n, cp, px, py, N, rfl, hb1, hcp, hS, hC, hP⟩
  have HB1 := hid hb1
  have HS := hid hS
  have HC := hid hC
  have HP := hid hP
  have hn3 := hS.len
  have hn30 := hS.len'
  clear C1 hb1 hS hP hC
  go_wp2_with fail
  refine (K1.out _).mono ?_
  rintro e w2 ⟨rfl, rfl⟩
  clear K1
  go_wp2_with fail
  refine (K2.out _).mono ?_
  rintro e w3 ⟨rfl, rfl⟩
  clear K2
  go_wp2_with fail
  refine (K3.out _).mono ?_
  rintro e w4 ⟨rfl, rfl⟩
  clear K3 c1 c2
  go_wp2_with fail
  obtain ⟨x, hx⟩ : ∃ x, x = x1 - 1 := ⟨_, rfl⟩
  obtain ⟨y, hy⟩ : ∃ y, y = y1 - 1 := ⟨_, rfl⟩
  rw [← hx, ← hy]
  have X : -1000 ≤ x ∧ x ≤ 1000 := by omega
  have Y : -1000 ≤ y ∧ y ≤ 1000 := by omega
  clear hx hy p2 p3 pk c3 c4
  obtain ⟨W4, hW4⟩ : ∃ W4 : World, W4 = w4.alloc (.cells #[.int .i64 x, .int .i64 y] 35) := ⟨_, rfl⟩
  obtain ⟨bq, hbq⟩ : ∃ bq, bq = w4.heap.size := ⟨_, rfl⟩
  have hb4 : Below w4.heap.size w4 W4 := by rw [hW4]; exact (Below.refl _ _).alloc (Nat.le_refl _) _
  have PX : W4.cell? ⟨bq, 0, none⟩ = some (.int .i64 x) := by rw [hW4, hbq]; exact World.cell?_alloc_at _ _ _ _ rfl
  have PY : W4.cell? ⟨bq, 1, none⟩ = some (.int .i64 y) := by rw [hW4, hbq]; exact World.cell?_alloc_at _ _ _ _ rfl
  rw [← hW4, ← hbq]
  have HB4 := hid (HB1.out.trans (hb4.mono HB1.out.size))
  have HP4 := hid (HP.out.below hb4 HP.out.lt)
  have HPX := hid PX
  have HPY := hid PY
  have BQ := hid (World.block_lt_of_cell? W4 _ PX)
  clear hW4 hbq hb4 PX PY HP HB1
  have C2 := hid (tri_set HS.out g cp W4 HP4.out hcp)
  refine C2.out.mono ?_
  rintro e w5 ⟨hb5, g2, cp2, d, M, hs, rfl, hd, hd0, hTr, hT, hM, hL⟩
  have HB5 := hid hb5
  have HTR := hid hTr
  have HT := hid hT
  have HM := hid hM
  clear C2 hb5 hTr hT hM hL
  have C3 := hid (hull_set2 HS.out g cp w5 (HP4.out.below HB5.out HP4.out.lt) hcp)
  go_wp2_with fail
  refine C3.out.mono ?_
  rintro e w6 ⟨g3, cp3, hs', rfl, hb6, hlen, hg3, hCn, hOs, hcell⟩
  have HB6 := hid (HB5.out.trans (hb6.mono HB5.out.size))
  have HTR6 := hid (HTR.out.below hb6)
  have HCN := hid hCn
  have HOS := hid hOs
  have HCL := hid hcell
  have BDS := hid (refI_bds HS.out.ref)
  have hm3 := hCn.len
  have C4 := hid (sane_any px py n g 0 cp d.size cp2 (some ⟨g2, 0, none⟩) (dz d) (dA d) (dB d) (dC d) w6 (HP4.out.below HB6.out HP4.out.lt) (fun _ => ⟨g2, 0, rfl, HTR6.out⟩) (by omega) BDS.out (HT.out.row3 HM.out.mesh) (fun i hi => (HT.out.lists.tri i hi).2) (fun i hi => HM.out.mesh.pos _ _ _ (HT.out.lists.tri i hi).1))
  clear C3 hb6 hCn hOs hcell HTR HB5
  go_wp2_with fail
  refine C4.out.mono ?_
  rintro e w7 ⟨rfl, hb7⟩
  have HG3 := hid hg3
  have C5 := hid (known_any g3 hs'.length cp3 n (fun i => hs'.getD i 0) w7 hm3 hlen (fun j hj => (hb7.cell (by exact HG3.out)).trans (HCL.out j hj)) HCN.out.lt HCN.out.inj)
  have HB7 := hid (HB6.out.trans (hb7.mono HB6.out.size))
  have HTR7 := hid (HTR6.out.below hb7)
  have HCL7 : Hid (∀ j, j < hs'.length → w7.cell? ⟨g3, j, none⟩ = some (.int .i64 (hs'.getD j 0 : Nat))) := hid (fun j hj => (hb7.cell (by exact HG3.out)).trans (HCL.out j hj))
  have HG7 := hid (Nat.lt_of_lt_of_le hg3 hb7.size)
  clear C4 hb7 HB6 HTR6 HCL HG3 hg3
  obtain ⟨m, hm⟩ : ∃ m, m = hs'.length := ⟨_, rfl⟩
  obtain ⟨k, hk⟩ : ∃ k, k = d.size := ⟨_, rfl⟩
  have HMM := hid hm
  have HKK := hid hk
  rw [← hm] at hm3 hlen C5 ⊢
  rw [← hk] at hd hd0 ⊢
  clear hm hk
  have dk : ((k : Int) == 0) = false := by simp; omega
  go_wp2_with fail
  refine C5.out.mono ?_
  rintro e w8 ⟨rfl, q, rfl⟩
  clear C5
  have HB8 := hid (below_drewN HB7.out q)
  have HTR8 := hid (HTR7.out.below (below_drewN (Below.refl w7.heap.size w7) q))
  have HCL8 : Hid (∀ j, j < hs'.length → (w7.drewN q).cell? ⟨g3, j, none⟩ = some (.int .i64 (hs'.getD j 0 : Nat))) := hid (fun j hj => HCL7.out j hj)
  have HG8 : Hid (g3 < (w7.drewN q).heap.size) := hid HG7.out
  obtain ⟨w8, hw8⟩ : ∃ w8, w8 = w7.drewN q := ⟨_, rfl⟩
  rw [← hw8] at HB8 HTR8 HCL8 HG8 ⊢
  clear hw8 HB7 HTR7 HCL7 HG7
  go_wp2_with fail
  go_loopw [17, 18] (fun inn i wr => ∃ j : Nat, j ≤ m ∧ i = .int .i64 j ∧ inn = .bool (inB px py x y hs' j) ∧ Hid (Below w8.heap.size w8 wr)) (fun _ i _ => m - (intOf i).toNat)
  case atStart => exact ⟨0, Nat.zero_le _, rfl, rfl, hid (Below.refl _ _)⟩
  case round =>
    obtain ⟨j, hj, rfl, rfl, HB⟩ := hrel
    have BW := hid (HB8.out.trans (HB.out.mono HB8.out.size))
    by_cases hjm : j < m
    · have hjm' : (j : Int) < m := by omega
      have HIN : Hid (inB px py x y hs' (j + 1) = (inB px py x y hs' j && decide (0 ≤ tp px py x y (hs'.getD j 0) (hs'.getD ((j + 1) % m) 0)))) := hid (by rw [HMM.out]; rfl)
      obtain ⟨ib, hib⟩ : ∃ ib, ib = inB px py x y hs' j := ⟨_, rfl⟩
      rw [← hib] at HIN ⊢
      clear hib
      cases ib with
      | false =>
        have HR : Hid (inB px py x y hs' (j + 1) = false) := hid (by rw [HIN.out]; rfl)
        clear HIN
        go_wp2_with fail
        go_quiet (fail)
        go_wp2_with fail
        go_roundw
        case rel => exact ⟨j + 1, by omega, by go_num, by rw [HR.out], hid (below_drewN HB.out _)⟩
        case measure => simp [intOf]; omega
      | true =>
        have HR : Hid (inB px py x y hs' (j + 1) = decide (0 ≤ tp px py x y (hs'.getD j 0) (hs'.getD ((j + 1) % m) 0))) := hid (by rw [HIN.out]; rfl)
        clear HIN
        obtain ⟨i1, hi1⟩ : ∃ i1, i1 = (j + 1) % m := ⟨_, rfl⟩
        have li1 : i1 < m := by rw [hi1]; exact Nat.mod_lt _ (by omega)
        have m1 : ((j : Int) + 1) % (m : Int) = (i1 : Int) := by rw [hi1]; push_cast; rfl
        rw [← hi1] at HR
        have na := HCN.out.lt j (by rw [← HMM.out]; exact hjm)
        have nb := HCN.out.lt i1 (by rw [← HMM.out]; exact li1)
        have ca := (HB.out.cell (p := ⟨g3, j, none⟩) HG8.out).trans (HCL8.out j (by rw [← HMM.out]; exact hjm))
        have cb := (HB.out.cell (p := ⟨g3, i1, none⟩) HG8.out).trans (HCL8.out i1 (by rw [← HMM.out]; exact li1))
        clear hi1
        obtain ⟨ai, hai⟩ : ∃ ai, ai = hs'.getD j 0 := ⟨_, rfl⟩
        obtain ⟨bi, hbi⟩ : ∃ bi, bi = hs'.getD i1 0 := ⟨_, rfl⟩
        rw [← hai] at na ca HR
        rw [← hbi] at nb cb HR
        clear hai hbi
        have hpw := HP4.out.below BW.out HP4.out.lt
        have xa := hpw.x ai na
        have ya := hpw.y ai na
        have xb := hpw.x bi nb
        have yb := hpw.y bi nb
        rw [Nat.zero_add] at xa ya xb yb
        have pX := (BW.out.cell (p := ⟨bq, 0, none⟩) BQ.out).trans HPX.out
        have pY := (BW.out.cell (p := ⟨bq, 1, none⟩) BQ.out).trans HPY.out
        have gl := hpw.lt
        have gl3 : g3 < wr.heap.size := Nat.lt_of_lt_of_le HG8.out HB.out.size
        have glq : bq < wr.heap.size := Nat.lt_of_lt_of_le BQ.out BW.out.size
        have B6 : Bd6 (px ai) (py ai) (px bi) (py bi) x y := ⟨bd4 BDS.out na nb, X, Y⟩
        have a' : (ai : Int) < n := by omega
        have b' : (bi : Int) < n := by omega
        have l1' : (i1 : Int) < m := by omega
        have q1 : (0 : Int) ≤ (j : Int) := by omega
        have q2 : (0 : Int) ≤ (i1 : Int) := by omega
        have q3 : (0 : Int) ≤ (ai : Int) := by omega
        have q4 : (0 : Int) ≤ (bi : Int) := by omega
        have y2 : IntKind.i64.wrap ((j : Int) + 1) = j + 1 := by rw [IntKind.wrap_i64]; omega
        have hm0 : ¬ (m : Int) = 0 := by omega
        have hm0' : ¬ m = 0 := by omega
        have dm : ((m : Int) == 0) = false := by simp; omega
        have tm : Int.tmod ((j : Int) + 1) (m : Int) = (i1 : Int) := by rw [Int.tmod_eq_emod_of_nonneg (by omega)]; exact m1
        have TN := hid turn_6
        have KEEP : Hid (∀ W, Below wr.heap.size wr W → W.cell? ⟨g3, j, none⟩ = some (.int .i64 (ai : Nat)) ∧ W.cell? ⟨g3, i1, none⟩ = some (.int .i64 (bi : Nat)) ∧ W.cell? ⟨g, ai * 2, none⟩ = some (.int .i64 (px ai)) ∧ W.cell? ⟨g, ai * 2 + 1, none⟩ = some (.int .i64 (py ai)) ∧ W.cell? ⟨g, bi * 2, none⟩ = some (.int .i64 (px bi)) ∧ W.cell? ⟨g, bi * 2 + 1, none⟩ = some (.int .i64 (py bi)) ∧ W.cell? ⟨bq, 0, none⟩ = some (.int .i64 x) ∧ W.cell? ⟨bq, 1, none⟩ = some (.int .i64 y)) := hid fun W hW => ⟨(hW.cell (by exact gl3)).trans ca, (hW.cell (by exact gl3)).trans cb, (hW.cell (by exact gl)).trans xa, (hW.cell (by exact gl)).trans ya, (hW.cell (by exact gl)).trans xb, (hW.cell (by exact gl)).trans yb, (hW.cell (by exact glq)).trans pX, (hW.cell (by exact glq)).trans pY⟩
        have START := KEEP.out wr.drew (Below.refl _ _).drew
        clear hpw ca cb xa ya xb yb pX pY
        go_wp2_with fail
        go_region_held3 (fun W => W.cell? ⟨g3, j, none⟩ = some (.int .i64 (ai : Nat)) ∧ W.cell? ⟨g3, i1, none⟩ = some (.int .i64 (bi : Nat)) ∧ W.cell? ⟨g, ai * 2, none⟩ = some (.int .i64 (px ai)) ∧ W.cell? ⟨g, ai * 2 + 1, none⟩ = some (.int .i64 (py ai)) ∧ W.cell? ⟨g, bi * 2, none⟩ = some (.int .i64 (px bi)) ∧ W.cell? ⟨g, bi * 2 + 1, none⟩ = some (.int .i64 (py bi)) ∧ W.cell? ⟨bq, 0, none⟩ = some (.int .i64 x) ∧ W.cell? ⟨bq, 1, none⟩ = some (.int .i64 y)) (assumption)
          ((go_at_call 23; refine (TN.out _ _ _ _ _ _ _ (by assumption)).mono ?_; rintro e w9 ⟨rfl, hb9⟩; have HB9 : Hid (Below wr.heap.size wr w9) := hid ((Below.refl _ _).drew.trans hb9); have HK := KEEP.out w9 HB9.out; clear hb9))
        clear HK START KEEP
        have HR9 : Hid (inB px py x y hs' (j + 1) = decide (0 ≤ tw (px ai) (py ai) (px bi) (py bi) x y)) := HR
        obtain ⟨tv, htv⟩ : ∃ tv, tv = decide (0 ≤ tw (px ai) (py ai) (px bi) (py bi) x y) := ⟨_, rfl⟩
        rw [← htv] at HR9 ⊢
        clear htv HR
        go_wp2_with fail
        go_roundw
        case rel => exact ⟨j + 1, by omega, by go_num, by rw [HR9.out], hid (HB.out.trans (HB9.out.mono HB.out.size))⟩
        case measure => simp [intOf]; omega
    · have hjj : j = m := by omega
      subst hjj
      have LC := hid (locate_any px py n g 0 cp g2 0 k cp2 (dz d) x y wr (HP4.out.below BW.out HP4.out.lt) (by have := HTR8.out.below HB.out; rw [← HKK.out] at this; exact this) (by omega))
      have pX := (BW.out.cell (p := ⟨bq, 0, none⟩) BQ.out).trans HPX.out
      have pY := (BW.out.cell (p := ⟨bq, 1, none⟩) BQ.out).trans HPY.out
      have glq : bq < wr.heap.size := Nat.lt_of_lt_of_le BQ.out BW.out.size
      obtain ⟨lo, hlo⟩ : ∃ lo, lo = locI px py n (dz d) k x y := ⟨_, rfl⟩
      rw [← hlo] at LC
      have HLO := hid hlo
      clear hlo
      obtain ⟨ib, hib⟩ : ∃ ib, ib = inB px py x y hs' j := ⟨_, rfl⟩
      rw [← hib]
      have HIB := hid hib
      clear hib
      cases ib with
      | false =>
        have e1 : lo = -1 := by
          have := loc_out BDS.out HM.out HT.out HCN.out X Y (by rw [← HMM.out]; exact HIB.out.symm)
          rw [HLO.out, HKK.out]; exact this
        subst e1
        go_wp2_with fail
        refine LC.out.mono ?_
        rintro e w9 ⟨rfl, hb9⟩
        have HB9 := hid (BW.out.trans (hb9.mono BW.out.size))
        clear hb9 LC
        go_wp2_with fail
        go_ret
        exact ⟨rfl, HB4.out.trans (HB9.out.mono HB4.out.size)⟩
      | true =>
        have SM := hid (in_some HS.out HC.out HM.out HT.out HOS.out (by rw [← HMM.out]; exact HIB.out.symm))
        go_wp2_with fail
        refine LC.out.mono ?_
        rintro e w9 ⟨rfl, hb9⟩
        have HB9 := hid (BW.out.trans (hb9.mono BW.out.size))
        have HTR9 := hid ((HTR8.out.below HB.out).below hb9)
        clear hb9 LC pX pY HB HCL8 HB8 HTR8 BW
        go_wp2_with fail
        go_loopw [20] (fun i wr => ∃ i' : Nat, i' ≤ k ∧ i = .int .i64 i' ∧ Hid (∀ r, r < i' → triB px py x y (dA d r) (dB d r) (dC d r) = false) ∧ Hid (Below w9.heap.size w9 wr)) (fun i _ => k - (intOf i).toNat)
        case atStart => exact ⟨0, Nat.zero_le _, rfl, hid (fun r hr => by omega), hid (Below.refl _ _)⟩
        case round =>
          obtain ⟨i, hi, rfl, HF, HB⟩ := hrel
          have BW := hid (HB9.out.trans (HB.out.mono HB9.out.size))
          by_cases hik : i < k
          · have hik' : (i : Int) < k := by omega
            have hid' : i < d.size := by rw [← HKK.out]; exact hik
            obtain ⟨z0, z1, z2⟩ := (HTR9.out.below HB.out).2 i hid'
            obtain ⟨y0', y1', y2'⟩ := (HT.out.row3 HM.out.mesh).z i hid'
            have nn := (HT.out.row3 HM.out.mesh).a i hid'
            rw [y0'] at z0
            rw [y1'] at z1
            rw [y2'] at z2
            rw [Nat.zero_add] at z0 z1 z2
            have HTB : Hid (triB px py x y (dA d i) (dB d i) (dC d i) = (decide (0 ≤ tw (px (dA d i)) (py (dA d i)) (px (dB d i)) (py (dB d i)) x y) && (decide (0 ≤ tw (px (dB d i)) (py (dB d i)) (px (dC d i)) (py (dC d i)) x y) && decide (0 ≤ tw (px (dC d i)) (py (dC d i)) (px (dA d i)) (py (dA d i)) x y)))) := hid rfl
            obtain ⟨ta, hta⟩ : ∃ ta, ta = dA d i := ⟨_, rfl⟩
            obtain ⟨tb, htb⟩ : ∃ tb, tb = dB d i := ⟨_, rfl⟩
            obtain ⟨tc, htc⟩ : ∃ tc, tc = dC d i := ⟨_, rfl⟩
            have HABC := hid (And.intro hta (And.intro htb htc))
            rw [← hta] at z0 nn HTB
            rw [← htb] at z1 nn HTB
            rw [← htc] at z2 nn HTB
            clear hta htb htc y0' y1' y2' hid'
            obtain ⟨na, nb, nc⟩ := nn
            have hpw := HP4.out.below BW.out HP4.out.lt
            have xa := hpw.x ta na
            have ya := hpw.y ta na
            have xb := hpw.x tb nb
            have yb := hpw.y tb nb
            have xc := hpw.x tc nc
            have yc := hpw.y tc nc
            rw [Nat.zero_add] at xa ya xb yb xc yc
            have pX := (BW.out.cell (p := ⟨bq, 0, none⟩) BQ.out).trans HPX.out
            have pY := (BW.out.cell (p := ⟨bq, 1, none⟩) BQ.out).trans HPY.out
            have a' : (ta : Int) < n := by omega
            have b' : (tb : Int) < n := by omega
            have c' : (tc : Int) < n := by omega
            have B1 : Bd6 (px ta) (py ta) (px tb) (py tb) x y := ⟨bd4 BDS.out na nb, X, Y⟩
            have B2 : Bd6 (px tb) (py tb) (px tc) (py tc) x y := ⟨bd4 BDS.out nb nc, X, Y⟩
            have B3 : Bd6 (px tc) (py tc) (px ta) (py ta) x y := ⟨bd4 BDS.out nc na, X, Y⟩
            have gl := hpw.lt
            have TN := hid turn_6
            have z1' : ∀ o, (wr.alloc o).cell? ⟨g2, i * 3 + 1, none⟩ = some (.int .i64 (tb : Nat)) := fun o => cell_new z1
            have xb' : ∀ o, (wr.alloc o).cell? ⟨g, tb * 2, none⟩ = some (.int .i64 (px tb)) := fun o => cell_new xb
            have yb' : ∀ o, (wr.alloc o).cell? ⟨g, tb * 2 + 1, none⟩ = some (.int .i64 (py tb)) := fun o => cell_new yb
            have z2' : ∀ o o', ((wr.alloc o).alloc o').cell? ⟨g2, i * 3 + 2, none⟩ = some (.int .i64 (tc : Nat)) := fun o o' => cell_new (cell_new z2)
            have xc' : ∀ o o', ((wr.alloc o).alloc o').cell? ⟨g, tc * 2, none⟩ = some (.int .i64 (px tc)) := fun o o' => cell_new (cell_new xc)
            have yc' : ∀ o o', ((wr.alloc o).alloc o').cell? ⟨g, tc * 2 + 1, none⟩ = some (.int .i64 (py tc)) := fun o o' => cell_new (cell_new yc)
            have pX' : ∀ o o' o'', (((wr.alloc o).alloc o').alloc o'').cell? ⟨bq, 0, none⟩ = some (.int .i64 x) := fun o o' o'' => cell_new (cell_new (cell_new pX))
            have pY' : ∀ o o' o'', (((wr.alloc o).alloc o').alloc o'').cell? ⟨bq, 1, none⟩ = some (.int .i64 y) := fun o o' o'' => cell_new (cell_new (cell_new pY))
            clear hpw z1 xb yb z2 xc yc pX pY
            go_wp2_with fail
            obtain ⟨W3, hW3⟩ : ∃ W3 : World, W3 = ((wr.alloc (.cells #[.int .i64 (px ta), .int .i64 (py ta)] 35)).alloc (.cells #[.int .i64 (px tb), .int .i64 (py tb)] 35)).alloc (.cells #[.int .i64 (px tc), .int .i64 (py tc)] 35) := ⟨_, rfl⟩
            have hB3 : Below wr.heap.size wr W3 := by rw [hW3]; exact (((Below.refl _ _).alloc (Nat.le_refl _) _).alloc (by simp) _).alloc (by simp <;> omega) _
            have hsz : W3.heap.size = wr.heap.size + 1 + 1 + 1 := by rw [hW3]; simp
            have c0 : W3.cell? ⟨wr.heap.size, 0, none⟩ = some (.int .i64 (px ta)) ∧ W3.cell? ⟨wr.heap.size, 1, none⟩ = some (.int .i64 (py ta)) ∧ W3.cell? ⟨wr.heap.size + 1, 0, none⟩ = some (.int .i64 (px tb)) ∧ W3.cell? ⟨wr.heap.size + 1, 1, none⟩ = some (.int .i64 (py tb)) ∧ W3.cell? ⟨wr.heap.size + 1 + 1, 0, none⟩ = some (.int .i64 (px tc)) ∧ W3.cell? ⟨wr.heap.size + 1 + 1, 1, none⟩ = some (.int .i64 (py tc)) ∧ W3.cell? ⟨bq, 0, none⟩ = some (.int .i64 x) ∧ W3.cell? ⟨bq, 1, none⟩ = some (.int .i64 y) := by
              rw [hW3]
              refine ⟨?_, ?_, ?_, ?_, ?_, ?_, pX' _ _ _, pY' _ _ _⟩
              · rw [World.cell?_alloc_past _ _ _ (by simp <;> omega), World.cell?_alloc_past _ _ _ (by simp), World.cell?_alloc_at _ _ _ _ (by simp)]; rfl
              · rw [World.cell?_alloc_past _ _ _ (by simp <;> omega), World.cell?_alloc_past _ _ _ (by simp), World.cell?_alloc_at _ _ _ _ (by simp)]; rfl
              · rw [World.cell?_alloc_past _ _ _ (by simp), World.cell?_alloc_at _ _ _ _ (by simp)]; rfl
              · rw [World.cell?_alloc_past _ _ _ (by simp), World.cell?_alloc_at _ _ _ _ (by simp)]; rfl
              · rw [World.cell?_alloc_at _ _ _ _ (by simp)]; rfl
              · rw [World.cell?_alloc_at _ _ _ _ (by simp)]; rfl
            have glq : bq < W3.heap.size := World.block_lt_of_cell? W3 _ c0.2.2.2.2.2.2.1
            have KC : Hid (∀ W, Below W3.heap.size W3 W → W.cell? ⟨wr.heap.size, 0, none⟩ = some (.int .i64 (px ta)) ∧ W.cell? ⟨wr.heap.size, 1, none⟩ = some (.int .i64 (py ta)) ∧ W.cell? ⟨wr.heap.size + 1, 0, none⟩ = some (.int .i64 (px tb)) ∧ W.cell? ⟨wr.heap.size + 1, 1, none⟩ = some (.int .i64 (py tb)) ∧ W.cell? ⟨wr.heap.size + 1 + 1, 0, none⟩ = some (.int .i64 (px tc)) ∧ W.cell? ⟨wr.heap.size + 1 + 1, 1, none⟩ = some (.int .i64 (py tc)) ∧ W.cell? ⟨bq, 0, none⟩ = some (.int .i64 x) ∧ W.cell? ⟨bq, 1, none⟩ = some (.int .i64 y)) := hid fun W hW => by
              obtain ⟨k0, k1, k2, k3, k4, k5, k6, k7⟩ := c0
              exact ⟨(hW.cell (by show wr.heap.size < _; omega)).trans k0, (hW.cell (by show wr.heap.size < _; omega)).trans k1, (hW.cell (by show wr.heap.size + 1 < _; omega)).trans k2, (hW.cell (by show wr.heap.size + 1 < _; omega)).trans k3, (hW.cell (by show wr.heap.size + 1 + 1 < _; omega)).trans k4, (hW.cell (by show wr.heap.size + 1 + 1 < _; omega)).trans k5, (hW.cell (by exact glq)).trans k6, (hW.cell (by exact glq)).trans k7⟩
            have HB3 := hid (HB.out.trans (hB3.mono HB.out.size))
            rw [← hW3]
            clear hW3 hB3 hsz c0 pX' pY' z0 z1' z2' xa ya xb' yb' xc' yc' glq
            obtain ⟨t1, ht1⟩ : ∃ t1, t1 = tw (px ta) (py ta) (px tb) (py tb) x y := ⟨_, rfl⟩
            obtain ⟨t2, ht2⟩ : ∃ t2, t2 = tw (px tb) (py tb) (px tc) (py tc) x y := ⟨_, rfl⟩
            obtain ⟨t3, ht3⟩ : ∃ t3, t3 = tw (px tc) (py tc) (px ta) (py ta) x y := ⟨_, rfl⟩
            have T1 := hid (fun W => turn_6 (px ta) (py ta) (px tb) (py tb) x y W B1)
            have T2 := hid (fun W => turn_6 (px tb) (py tb) (px tc) (py tc) x y W B2)
            have T3 := hid (fun W => turn_6 (px tc) (py tc) (px ta) (py ta) x y W B3)
            rw [← ht1] at T1 HTB
            rw [← ht2] at T2 HTB
            rw [← ht3] at T3 HTB
            clear ht1 ht2 ht3 B1 B2 B3 TN
            have NO : Hid (triB px py x y ta tb tc = false → ∀ r, r < i + 1 → triB px py x y (dA d r) (dB d r) (dC d r) = false) := hid fun hf r hr => by
              rcases Nat.lt_or_ge r i with q | q
              · exact HF.out r q
              · have : r = i := by omega
                subst this
                rw [← HABC.out.1, ← HABC.out.2.1, ← HABC.out.2.2]
                exact hf
            refine (T1.out _).mono ?_
            rintro e w10 ⟨rfl, hb10⟩
            have HB10 := hid (HB3.out.trans (hb10.mono HB3.out.size))
            have HK10 := hid hb10
            clear hb10
            by_cases g1 : 0 ≤ t1
            · have d1 : decide (0 ≤ t1) = true := decide_eq_true g1
              obtain ⟨k0, k1, k2, k3, k4, k5, k6, k7⟩ := KC.out w10 HK10.out
              go_wp2_with fail
              refine (T2.out _).mono ?_
              rintro e w11 ⟨rfl, hb11⟩
              have HB11 := hid (HB10.out.trans (hb11.mono HB10.out.size))
              have HK11 := hid (HK10.out.trans (hb11.mono HK10.out.size))
              clear hb11 k0 k1 k2 k3 k4 k5 k6 k7
              by_cases g2 : 0 ≤ t2
              · have d2 : decide (0 ≤ t2) = true := decide_eq_true g2
                obtain ⟨k0, k1, k2, k3, k4, k5, k6, k7⟩ := KC.out w11 HK11.out
                go_wp2_with fail
                refine (T3.out _).mono ?_
                rintro e w12 ⟨rfl, hb12⟩
                have HB12 := hid (HB11.out.trans (hb12.mono HB11.out.size))
                clear hb12 k0 k1 k2 k3 k4 k5 k6 k7
                by_cases g3' : 0 ≤ t3
                · have e1 : triB px py x y ta tb tc = true := by rw [HTB.out, decide_eq_true g1, decide_eq_true g2, decide_eq_true g3']; rfl
                  have e2 : lo = i := by
                    rw [HLO.out, HKK.out]
                    refine loc_hit (by rw [← HKK.out]; exact hik) ?_ (fun r hr => ?_)
                    · rw [hit_tri BDS.out HM.out HT.out X Y (by rw [← HKK.out]; exact hik), ← HABC.out.1, ← HABC.out.2.1, ← HABC.out.2.2]
                      exact e1
                    · rw [hit_tri BDS.out HM.out HT.out X Y (by rw [← HKK.out]; omega)]
                      exact HF.out r hr
                  subst e2
                  go_wp2_with fail
                  go_ret
                  exact ⟨rfl, HB4.out.trans ((HB9.out.trans (HB12.out.mono HB9.out.size)).mono HB4.out.size)⟩
                · have e1 : triB px py x y ta tb tc = false := by rw [HTB.out, decide_eq_false g3']; simp
                  have NN := hid (NO.out e1)
                  clear e1
                  go_wp2_with fail
                  go_roundw
                  case rel => exact ⟨i + 1, by omega, by go_num, NN, HB12⟩
                  case measure => simp [intOf]; omega
              · have e1 : triB px py x y ta tb tc = false := by rw [HTB.out, decide_eq_false g2]; simp
                have NN := hid (NO.out e1)
                clear e1
                go_wp2_with fail
                go_roundw
                case rel => exact ⟨i + 1, by omega, by go_num, NN, HB11⟩
                case measure => simp [intOf]; omega
            · have e1 : triB px py x y ta tb tc = false := by rw [HTB.out, decide_eq_false g1]; simp
              have NN := hid (NO.out e1)
              clear e1
              go_wp2_with fail
              go_roundw
              case rel => exact ⟨i + 1, by omega, by go_num, NN, HB10⟩
              case measure => simp [intOf]; omega
          · exfalso
            obtain ⟨r, hr, ht⟩ := SM.out
            rw [HF.out r (by rw [← HKK.out] at hr; omega)] at ht
            cases ht
end Go.Proofs.YtdbebbbceeopaaaGreat

set_option linter.unusedSimpArgs false
namespace Go.Proofs.YtdbebbbceeopaaaGreat
open Geo
variable {px py : Nat → Int} {n : Nat}

theorem bdc_shift (x y : Int) : bdc (fun i => px i + x) (fun i => py i + y) n = bdc px py n := by
  have e : ∀ i, Bdr (fun i => px i + x) (fun i => py i + y) n i = Bdr px py n i := fun i => by
    unfold Bdr
    simp only [T_shift]
  unfold bdc
  exact sm_congr fun i _ => by rw [e]

theorem bdr_rev {i : Nat} : Bdr (fun i => px (rv n i)) (fun i => py (rv n i)) n i ↔ Bdr px py n (rv n i) := by
  constructor
  · rintro ⟨a, b, ha, hb, hne, h, h0⟩
    refine ⟨rv n a, rv n b, rv_lt ha, rv_lt hb, fun e => hne ?_, fun p hp => ?_, h0⟩
    · rw [← rv_rv ha, e, rv_rv hb]
    · have := h (rv n p) (rv_lt hp)
      unfold T at this ⊢
      simp only [rv_rv hp] at this
      exact this
  · rintro ⟨a, b, ha, hb, hne, h, h0⟩
    refine ⟨rv n a, rv n b, rv_lt ha, rv_lt hb, fun e => hne ?_, fun p hp => ?_, ?_⟩
    · rw [← rv_rv ha, e, rv_rv hb]
    · have := h (rv n p) (rv_lt hp)
      unfold T at this ⊢
      simp only [rv_rv ha, rv_rv hb]
      exact this
    · unfold T at h0 ⊢
      simp only [rv_rv ha, rv_rv hb]
      exact h0

open Classical in
theorem bdc_rev : bdc (fun i => px (rv n i)) (fun i => py (rv n i)) n = bdc px py n := by
  unfold bdc
  rw [← sm_rev (fun i => if Bdr px py n i then 1 else 0) n]
  exact sm_congr fun i _ => by
    have e : Bdr (fun i => px (rv n i)) (fun i => py (rv n i)) n i = Bdr px py n (n - 1 - i) := propext bdr_rev
    rw [e]

/-- Is a side of a mesh one between two points? -/
def Joined (M : Nat → Nat → Option Nat) (i k : Nat) : Prop := M i k ≠ none ∨ M k i ≠ none

theorem joined_same {M M' : Nat → Nat → Option Nat} (h : Mesh px py n M) (hi : Inj px py n) (hc : Cor n M) (hl : Geo.Loc px py M) (h' : Mesh px py n M') (hc' : Cor n M') (hl' : Geo.Loc px py M') (hf : Free px py n) (i k : Nat) : Joined M i k ↔ Joined M' i k := by
  have key : ∀ {M M' : Nat → Nat → Option Nat}, Mesh px py n M → Cor n M → Geo.Loc px py M → Mesh px py n M' → Cor n M' → Geo.Loc px py M' → ∀ i k, M i k ≠ none → Joined M' i k := by
    intro M M' h hc hl h' hc' hl' i k g
    cases e : M i k with
    | none => exact absurd e g
    | some z =>
      rcases same_sides h hi hc hl h' hc' hl' hf e with ⟨c, q⟩ | ⟨c, q⟩
      · exact .inl (by rw [q]; simp)
      · exact .inr (by rw [q]; simp)
  constructor
  · rintro (g | g)
    · exact key h hc hl h' hc' hl' i k g
    · exact (key h hc hl h' hc' hl' k i g).symm
  · rintro (g | g)
    · exact key h' hc' hl' h hc hl i k g
    · exact (key h' hc' hl' h hc hl k i g).symm

theorem joined_rev {M : Nat → Nat → Option Nat} {i k : Nat} (hi : i < n) (hk : k < n) : Joined (revM n M) i k ↔ Joined M (rv n i) (rv n k) := by
  unfold Joined
  rw [Ne, Ne, Ne, Ne, revM_none hi hk, revM_none hk hi]

end Go.Proofs.YtdbebbbceeopaaaGreat
