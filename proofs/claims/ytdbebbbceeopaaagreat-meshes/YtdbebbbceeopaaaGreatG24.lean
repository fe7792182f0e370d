import Derived.Test.YtdbebbbceeopaaaGreatG23
import Derived.Test.YtdbebbbceeopaaaGreatG8
set_option linter.unusedSimpArgs false
namespace Go.Proofs.YtdbebbbceeopaaaGreat
open Go.RowKit Go.Maps Go.Shelf
open Go.Sort (grow Holds putRow SWO PermIn SortedIn alloc_eq_grow grow_grow cell?_grow cell?_putRow_other)

/-- A triangle's three numbers. -/
abbrev T3 := Nat × Nat × Nat

def enc3 (t : T3) : List Value := [.int .i64 t.1, .int .i64 t.2.1, .int .i64 t.2.2]

def cf3 (t u : T3) : Int := orI (cmpI t.1 u.1) (orI (cmpI t.2.1 u.2.1) (cmpI t.2.2 u.2.2))

def lt3 (t u : T3) : Prop := t.1 < u.1 ∨ (t.1 = u.1 ∧ (t.2.1 < u.2.1 ∨ (t.2.1 = u.2.1 ∧ t.2.2 < u.2.2)))

theorem cf3_lt (t u : T3) : (cf3 t u < 0) ↔ lt3 t u := by
  unfold cf3 lt3 orI cmpI
  obtain ⟨a, b, c⟩ := t
  obtain ⟨d, e, f⟩ := u
  dsimp only
  rcases Nat.lt_trichotomy a d with h | h | h
  · have h1 : (a : Int) < d := by omega
    simp [h1, h]
  · subst h
    rcases Nat.lt_trichotomy b e with h | h | h
    · have h1 : (b : Int) < e := by omega
      simp [h1, h]
    · subst h
      rcases Nat.lt_trichotomy c f with h | h | h
      · have h1 : (c : Int) < f := by omega
        simp [h1, h]
      · subst h; simp
      · have h1 : ¬ (c : Int) < f := by omega
        have h2 : (f : Int) < c := by omega
        have h3 : ¬ c < f := by omega
        simp [h1, h2, h3]
    · have h1 : ¬ (b : Int) < e := by omega
      have h2 : (e : Int) < b := by omega
      have h3 : ¬ b < e := by omega
      have h4 : ¬ b = e := by omega
      simp [h1, h2, h3, h4]
  · have h1 : ¬ (a : Int) < d := by omega
    have h2 : (d : Int) < a := by omega
    have h3 : ¬ a < d := by omega
    have h4 : ¬ a = d := by omega
    simp [h1, h2, h3, h4]

theorem cf3_swo : SWO (ltOf cf3) := by
  refine ⟨fun x => ?_, fun x y z h1 h2 => ?_, fun x y z h1 h2 => ?_⟩
  · unfold ltOf; rw [decide_eq_false_iff_not, cf3_lt]; unfold lt3; omega
  · unfold ltOf at *
    rw [decide_eq_true_iff, cf3_lt] at *
    unfold lt3 at *; omega
  · unfold ltOf at *
    rw [decide_eq_false_iff_not, cf3_lt] at *
    unfold lt3 at *; omega

set_option maxHeartbeats 800000 in
theorem or3_any (b : Nat) (x y z : Int) (w : World) (h0 : w.cell? ⟨b, 0, none⟩ = some (.int .i64 x)) (h1 : w.cell? ⟨b, 1, none⟩ = some (.int .i64 y)) (h2 : w.cell? ⟨b, 2, none⟩ = some (.int .i64 z)) :
    Calls Tryz.prog 80 #[.slice (some ⟨b, 0, none⟩) 3 3] w fun e w' => e = .returned (.int .i64 (orI x (orI y z))) ∧ w' = w := by
  unfold orI
  by_cases hx : x = 0
  · subst hx
    by_cases hy : y = 0
    · subst hy
      by_cases hz : z = 0
      · subst hz
        go_enter Tryz.func80, Tryz.ntmps80
        go_wp2
        refine wp_loop_rounds 4 ?_
        rw [rounds_succ]
        go_wp2
        rw [rounds_succ]
        go_wp2
        rw [rounds_succ]
        go_wp2
        rw [rounds_succ]
        go_wp2
        go_ret
        exact ⟨rfl, rfl⟩
      · have hz' : (z != 0) = true := by simpa using hz
        go_enter Tryz.func80, Tryz.ntmps80
        go_wp2
        refine wp_loop_rounds 3 ?_
        rw [rounds_succ]
        go_wp2
        rw [rounds_succ]
        go_wp2
        rw [rounds_succ]
        go_wp2
        go_ret
        exact ⟨rfl, rfl⟩
    · have hy' : (y != 0) = true := by simpa using hy
      rw [if_pos hy]
      go_enter Tryz.func80, Tryz.ntmps80
      go_wp2
      refine wp_loop_rounds 2 ?_
      rw [rounds_succ]
      go_wp2
      rw [rounds_succ]
      go_wp2
      go_ret
      exact ⟨rfl, rfl⟩
  · have hx' : (x != 0) = true := by simpa using hx
    rw [if_pos hx]
    go_enter Tryz.func80, Tryz.ntmps80
    go_wp2
    refine wp_loop_rounds 1 ?_
    rw [rounds_succ]
    go_wp2
    go_ret
    exact ⟨rfl, rfl⟩

set_option maxRecDepth 100000 in
set_option maxHeartbeats 4000000 in
theorem closure3_any (x y : T3) (w : World) :
    Calls Tryz.prog 79 #[.agg (enc3 x).toArray, .agg (enc3 y).toArray] w fun e w' => e = .returned (.int .i64 (cf3 x y)) ∧ ∃ q os', w' = grow (w.drewN q) os' := by
  unfold enc3 cf3
  generalize (x.1 : Int) = a0
  generalize (x.2.1 : Int) = a1
  generalize (x.2.2 : Int) = a2
  generalize (y.1 : Int) = b0
  generalize (y.2.1 : Int) = b1
  generalize (y.2.2 : Int) = b2
  have C1 := hid compareI_any
  obtain ⟨W1, hW1⟩ : ∃ W1 : World, W1 = (w.alloc (.cells #[.int .i64 a0, .int .i64 a1, .int .i64 a2] 46)).alloc (.cells #[.int .i64 b0, .int .i64 b1, .int .i64 b2] 46) := ⟨_, rfl⟩
  have lt1 : w.heap.size < (w.alloc (.cells #[.int .i64 a0, .int .i64 a1, .int .i64 a2] 46)).heap.size := by simp
  have c0 : W1.cell? ⟨w.heap.size, 0, none⟩ = some (.int .i64 a0) := by rw [hW1]; exact (World.cell?_alloc_lt _ _ _ lt1).trans (World.cell?_alloc_at _ _ _ _ rfl)
  have c1 : W1.cell? ⟨w.heap.size, 1, none⟩ = some (.int .i64 a1) := by rw [hW1]; exact (World.cell?_alloc_lt _ _ _ lt1).trans (World.cell?_alloc_at _ _ _ _ rfl)
  have c2 : W1.cell? ⟨w.heap.size, 2, none⟩ = some (.int .i64 a2) := by rw [hW1]; exact (World.cell?_alloc_lt _ _ _ lt1).trans (World.cell?_alloc_at _ _ _ _ rfl)
  have d0 : W1.cell? ⟨w.heap.size + 1, 0, none⟩ = some (.int .i64 b0) := by rw [hW1]; exact World.cell?_alloc_at _ _ _ _ (by simp)
  have d1 : W1.cell? ⟨w.heap.size + 1, 1, none⟩ = some (.int .i64 b1) := by rw [hW1]; exact World.cell?_alloc_at _ _ _ _ (by simp)
  have d2 : W1.cell? ⟨w.heap.size + 1, 2, none⟩ = some (.int .i64 b2) := by rw [hW1]; exact World.cell?_alloc_at _ _ _ _ (by simp)
  go_enter Tryz.func79, Tryz.ntmps79
  go_wp2_with fail
  rw [← hW1]
  have HW1 := hid hW1
  clear hW1
  go_region_held3 (fun W => W.cell? ⟨w.heap.size, 0, none⟩ = some (.int .i64 a0) ∧ W.cell? ⟨w.heap.size, 1, none⟩ = some (.int .i64 a1) ∧ W.cell? ⟨w.heap.size, 2, none⟩ = some (.int .i64 a2) ∧ W.cell? ⟨w.heap.size + 1, 0, none⟩ = some (.int .i64 b0) ∧ W.cell? ⟨w.heap.size + 1, 1, none⟩ = some (.int .i64 b1) ∧ W.cell? ⟨w.heap.size + 1, 2, none⟩ = some (.int .i64 b2)) (go_keep)
    (first
      | (go_at_call 81; refine (C1.out _ _ _).mono ?_; rintro e w' ⟨rfl, rfl⟩)
      | (go_at_call 80; refine (or3_any _ _ _ _ _ (World.cell?_alloc_at _ _ _ _ rfl) (World.cell?_alloc_at _ _ _ _ rfl) (World.cell?_alloc_at _ _ _ _ rfl)).mono ?_; rintro e w' ⟨rfl, rfl⟩))
  go_wp2_with fail
  go_ret
  refine ⟨rfl, ?_⟩
  refine ⟨1, #[Obj.cells #[.int .i64 a0, .int .i64 a1, .int .i64 a2] 46] ++ (#[Obj.cells #[.int .i64 b0, .int .i64 b1, .int .i64 b2] 46] ++ #[Obj.cells #[.int .i64 (cmpI a0 b0), .int .i64 (cmpI a1 b1), .int .i64 (cmpI a2 b2)] 3]), ?_⟩
  rw [HW1.out, alloc_eq_grow, alloc_eq_grow, alloc_eq_grow, grow_grow, grow_grow]
  rfl
end Go.Proofs.YtdbebbbceeopaaaGreat

set_option linter.unusedSimpArgs false
namespace Go.Proofs.YtdbebbbceeopaaaGreat
open Go.RowKit Go.Maps Go.Shelf
open Go.Sort (grow Holds putRow SWO PermIn SortedIn alloc_eq_grow grow_grow cell?_grow cell?_putRow_other)
open Go.Sort

def flat3 (l : List T3) : List Value := l.flatMap enc3

theorem flat3_cons (x : T3) (r : List T3) : flat3 (x :: r) = .int .i64 x.1 :: .int .i64 x.2.1 :: .int .i64 x.2.2 :: flat3 r := rfl
theorem flat3_append (l r : List T3) : flat3 (l ++ r) = flat3 l ++ flat3 r := by unfold flat3; rw [List.flatMap_append]
theorem flat3_len (l : List T3) : (flat3 l).length = l.length * 3 := by
  induction l with
  | nil => rfl
  | cons x r ih => rw [flat3_cons]; simp [ih]; omega

theorem flat3_get : ∀ (l : List T3) (i c : Nat), c < 3 → (flat3 l)[i * 3 + c]? = (l[i]?).bind fun x => (enc3 x)[c]?
  | [], i, c, h => by simp [flat3]
  | x :: r, 0, c, h => by
    rw [flat3_cons]
    match c, h with
    | 0, _ => rfl
    | 1, _ => rfl
    | 2, _ => rfl
  | x :: r, i + 1, c, h => by
    rw [flat3_cons, show (i + 1) * 3 + c = i * 3 + c + 1 + 1 + 1 by omega, List.getElem?_cons_succ, List.getElem?_cons_succ, List.getElem?_cons_succ, flat3_get r i c h]
    rfl

theorem flatK_flat3 (d : Array T3) : (flatK enc3 3 d).toList = flat3 d.toList := by
  apply List.ext_getElem?
  intro t
  by_cases ht : t < d.size * 3
  · have e : t = t / 3 * 3 + t % 3 := by omega
    have hi : t / 3 < d.size := by omega
    have hg := get_flatK enc3 3 d t ht
    have hs : t < (flatK enc3 3 d).size := by simpa using ht
    rw [Array.getElem?_toList, Array.getElem?_eq_getElem hs, ← getElem!_pos (flatK enc3 3 d) t hs, hg]
    conv => rhs; rw [e]
    rw [flat3_get d.toList (t / 3) (t % 3) (by omega), Array.getElem?_toList, Array.getElem?_eq_getElem hi, getElem!_pos d (t / 3) hi]
    have h3 : t % 3 < (enc3 d[t / 3]).length := by show t % 3 < 3; omega
    simp [getElem!_pos, h3, List.getElem?_eq_getElem h3]
  · rw [List.getElem?_eq_none (by simp; omega), List.getElem?_eq_none (by rw [flat3_len]; simp; omega)]

theorem owns_put {w : World} {base : Nat} {e : TypeId} {g n cap q size : Nat} {xs : List Value} {F : Array Value} (h : w.ownsRow base e size (.slice (some ⟨g, 0, none⟩) n cap) n xs) (hF : F.size = n * size) (os : Array Obj) :
    (grow (putRow id (Sort.ahead w q) g 0 F) os).ownsRow base e size (.slice (some ⟨g, 0, none⟩) n cap) n F.toList := by
  rcases h.2 with ⟨e0, _⟩ | ⟨g', cap', cur, e0, hb, hg, hn, hm, hs, ht⟩
  · cases e0
  · injection e0 with e1 _ e3
    injection e1 with e1
    injection e1 with e1
    subst e1; subst e3
    have hle : n * size ≤ cap * size := Nat.mul_le_mul_right _ hn
    refine ⟨by simpa using hF, .inr ⟨g, cap, Sort.putCells id 0 F cur, rfl, hb, ?_, hn, hm, by simpa [Sort.putCells] using hs, ?_⟩⟩
    · have hlt : g < (putRow id (Sort.ahead w q) g 0 F).heap.size := by rw [Sort.size_putRow]; exact (Array.getElem?_eq_some_iff.1 hg).1
      show ((putRow id (Sort.ahead w q) g 0 F).heap ++ os)[g]? = _
      rw [Array.getElem?_append_left hlt]
      simp [putRow, Sort.mapBlock, Sort.ahead, Array.getElem?_modify, hg, Sort.onCells]
    · apply List.ext_getElem?
      intro j
      rw [List.getElem?_take, Array.getElem?_toList, Array.getElem?_toList]
      by_cases hj : j < n * size
      · have hjc : j < cur.size := by omega
        simp only [if_pos hj, Sort.putCells, Array.getElem?_mapIdx, Array.getElem?_eq_getElem hjc, Option.map_some]
        rw [if_pos (by omega), Array.getElem?_eq_getElem (by omega)]
        simp [getElem!_pos, show j < F.size by omega]
      · have : ¬ j < F.size := by omega
        simp [hj, this]

theorem holds_own3 {w : World} {base g cap : Nat} {l : List T3} (h : w.ownsRow base 46 3 (.slice (some ⟨g, 0, none⟩) l.length cap) l.length (flat3 l)) : HoldsK enc3 3 w g 0 l.toArray := by
  intro j hj
  have hj' : j < l.length * 3 := by simpa using hj
  have e : (flatK enc3 3 l.toArray)[j]? = (flat3 l)[j]? := by
    rw [← Array.getElem?_toList, flatK_flat3]
  refine ⟨?_, by rw [Nat.zero_add]; exact h.frozenAt j⟩
  rw [Nat.zero_add, h.cellAt j hj', ← e, Array.getElem?_eq_getElem hj, getElem!_pos _ j hj]
  rfl

/-- What has been collected of a mesh's triangles. -/
structure Col (M : Nat → Nat → Option Nat) (left : Lit → Bool) (l : List T3) : Prop where
  nd : l.Nodup
  tri : ∀ t ∈ l, M t.1 t.2.1 = some t.2.2 ∧ t.1 < t.2.1 ∧ t.1 < t.2.2 ∧ t.1 < 1000 ∧ t.2.1 < 1000 ∧ left (klL t.1 t.2.1) = false
  all : ∀ a b c, M a b = some c → a < 1000 → b < 1000 → a < b → a < c → left (klL a b) = false → (a, b, c) ∈ l

theorem Col.skip {M : Nat → Nat → Option Nat} {left : Lit → Bool} {l : List T3} {u v d : Nat} (h : Col M left l) (hu : u < 1000) (hv : v < 1000) (hd : M u v = some d) (hn : ¬ (u < v ∧ u < d)) : Col M (fun z => left z && !z.sameKey (klL u v)) l := by
  refine ⟨h.nd, fun t ht => ?_, fun a b c e ha hb h1 h2 hf => ?_⟩
  · obtain ⟨t1, t2, t3, t4, t5, t6⟩ := h.tri t ht
    exact ⟨t1, t2, t3, t4, t5, by simp [t6]⟩
  · rw [Bool.and_eq_false_iff] at hf
    rcases hf with hf | hf
    · exact h.all a b c e ha hb h1 h2 hf
    · simp at hf
      obtain ⟨rfl, rfl⟩ := same_kl ha hb hu hv hf
      rw [hd] at e
      cases e
      exact absurd ⟨h1, h2⟩ hn

theorem Col.add {M : Nat → Nat → Option Nat} {left : Lit → Bool} {l : List T3} {u v d : Nat} (h : Col M left l) (hu : u < 1000) (hv : v < 1000) (hd : M u v = some d) (h1 : u < v) (h2 : u < d) (hl : left (klL u v) = true) : Col M (fun z => left z && !z.sameKey (klL u v)) (l ++ [(u, v, d)]) := by
  have ks : (klL u v).sameKey (klL u v) = true := WideAt.sameKey_self (kl_key u v hu hv)
  refine ⟨?_, fun t ht => ?_, fun a b c e ha hb k1 k2 hf => ?_⟩
  · refine List.nodup_append.2 ⟨h.nd, by simp, fun t ht t' ht' e => ?_⟩
    simp at ht'
    subst ht'
    subst e
    have := (h.tri _ ht).2.2.2.2.2
    dsimp only at this
    rw [hl] at this
    cases this
  · rcases List.mem_append.1 ht with ht | ht
    · obtain ⟨t1, t2, t3, t4, t5, t6⟩ := h.tri t ht
      exact ⟨t1, t2, t3, t4, t5, by simp [t6]⟩
    · simp at ht
      subst ht
      exact ⟨hd, h1, h2, hu, hv, by simp [ks]⟩
  · rw [Bool.and_eq_false_iff] at hf
    rcases hf with hf | hf
    · exact List.mem_append_left _ (h.all a b c e ha hb k1 k2 hf)
    · simp at hf
      obtain ⟨rfl, rfl⟩ := same_kl ha hb hu hv hf
      rw [hd] at e
      cases e
      exact List.mem_append_right _ (by simp)
end Go.Proofs.YtdbebbbceeopaaaGreat

set_option linter.unusedSimpArgs false
namespace Go.Proofs.YtdbebbbceeopaaaGreat
open Go.RowKit Go.Maps Go.Shelf
open Go.Sort

theorem owns_len3 {w : World} {base n : Nat} {v : Value} {xs : List Value} (h : w.ownsRow base 46 3 v n xs) : ∃ a c, v = .slice a n c := by
  rcases h.2 with ⟨rfl, rfl⟩ | ⟨g', cap', cur, h', _⟩
  · exact ⟨_, _, rfl⟩
  · exact ⟨_, _, h'⟩

theorem own_ge3 {w : World} {base : Nat} {v : Value} {n : Nat} {xs : List Value} (h : w.ownsRow base 46 3 v n xs) : ∀ g, v.ownBlock = some g → base ≤ g ∧ g < w.heap.size := by
  intro g hg
  rcases h.2 with ⟨rfl, _⟩ | ⟨g', cap', cur, rfl, hb, hh, _⟩
  · cases hg
  · cases hg
    exact ⟨hb, (Array.getElem?_eq_some_iff.1 hh).1⟩

theorem owns_shape3 {w : World} {base n : Nat} {v : Value} {xs : List Value} (h : w.ownsRow base 46 3 v n xs) (hn : 0 < n) : ∃ g c, v = .slice (some ⟨g, 0, none⟩) n c ∧ base ≤ g ∧ g < w.heap.size ∧ n ≤ c := by
  rcases h.2 with ⟨_, rfl⟩ | ⟨g', cap', cur, h', hb, hg, hc, _⟩
  · omega
  · exact ⟨g', cap', h', hb, (Array.getElem?_eq_some_iff.1 hg).1, hc⟩

theorem cmpLays3 (g sz : Nat) (w : World) : CmpLays Tryz.prog 79 #[] enc3 3 cf3 g 0 sz w := by
  intro m os dk hs x y
  exact closure3_any x y _

theorem below_sortK {B g q : Nat} {w : World} {d : Array T3} (os : Array Obj) (hg : B ≤ g) (hB : B ≤ w.heap.size) : Below B w (sortWorldK enc3 3 w g 0 q d os) := by
  unfold sortWorldK putRowK
  have h1 := Lib.below_putRow (enc := id) (q := q) (d := flatK enc3 3 d) (Below.refl B w) hg
  have h2 := Lib.below_grow B (putRow id (Sort.ahead w q) g 0 (flatK enc3 3 d)) (by rw [Sort.size_putRow]; exact hB) 0 os
  exact h1.trans h2

/-- The sorted list of a mesh's triangles. -/
structure Tris (M : Nat → Nat → Option Nat) (d : Array T3) : Prop where
  tri : ∀ t ∈ d.toList, M t.1 t.2.1 = some t.2.2 ∧ t.1 < t.2.1 ∧ t.1 < t.2.2
  all : ∀ a b c, M a b = some c → a < b → a < c → (a, b, c) ∈ d.toList
  nd : d.toList.Nodup
  srt : SortedIn (ltOf cf3) 0 d.size d

set_option maxRecDepth 100000 in
set_option maxHeartbeats 4000000 in
theorem trianglesM_any (mb bm N pb po n cap : Nat) (px py : Nat → Int) (M : Nat → Nat → Option Nat) (lv : Value) (ls : List (Nat × Nat)) (w : World) (hM : MeshAt w mb bm N pb po n cap px py M lv ls) (hN : N ≤ 1600) (hlt : ∀ a b c, M a b = some c → a < n ∧ b < n) (hn : n ≤ 40) (hex : ∃ a b c, M a b = some c ∧ a < b ∧ a < c) :
    Calls Tryz.prog 44 #[.pointer (some ⟨mb, 0, none⟩)] w fun e w' => Below w.heap.size w w' ∧ ∃ (g cp : Nat) (d : Array T3), e = .returned (.slice (some ⟨g, 0, none⟩) d.size cp) ∧ w.heap.size ≤ g ∧ d.size ≤ 1600 ∧ w'.ownsRow w.heap.size 46 3 (.slice (some ⟨g, 0, none⟩) d.size cp) d.size (flat3 d.toList) ∧ Tris M d := by
  obtain ⟨i0, hi, hz0, hz1, hz2⟩ := info_parts Tryz.info46
  obtain ⟨D, hown, hR⟩ := hM.map
  have HR := hid hR
  have bl := hM.map.lt
  have SZ := hid hown.size_le
  have k1 := hM.c1
  have HO := hid hown
  clear hM hown hR
  go_enter Tryz.func44, Tryz.ntmps44
  go_wp2_with (at_range; refine wpList_range_own _ rfl _ 102 rfl 110 3 Tryz.keyed99 Tryz.underlying102 _ bm N _ rfl HO.out ?_; intro w0 hrg0 hg0 hs0)
  have R0 := hid hrg0
  have BW0 : Hid (Below w.heap.size w w0) := hid ((Below.refl _ _).grown hg0 (Nat.le_refl _) (fun k e => by cases e))
  have Z0 := hid hs0
  clear hrg0 hg0 hs0 k1 HO
  go_frame
  go_loopw [3, 4, 5] (fun v _ _ wr => ∃ (left : Lit → Bool) (cnt : Nat) (l : List T3), Hid (wr.ranges Tryz.prog 110 (plainElem Tryz.prog 3) bm w.heap.size N D left cnt) ∧ Hid (wr.ownsRow (w.heap.size + 1) 46 3 v l.length (flat3 l)) ∧ l.length + cnt ≤ Maps.size D ∧ Hid (∀ kl, left kl = true → Maps.has D kl = true) ∧ Hid (Col M left l) ∧ Hid (Below w.heap.size w wr))
    (fun _ _ _ wr => wr.rangeLeft bm w.heap.size)
  case atStart =>
    refine ⟨_, _, [], R0, hid (World.ownsRow_nil _ _ _ _), by simp, hid (fun _ h => h), hid ⟨List.nodup_nil, (fun t ht => by cases ht), fun a b c e ha hb h1 h2 hf => ?_⟩, BW0⟩
    have := HR.out.has a b ha hb
    rw [hf, e] at this
    cases this
  case round =>
    obtain ⟨left, cnt, l, RG, HO, hlen, HLH, HC, HBW⟩ := hrel
    clear R0 BW0 Z0
    obtain ⟨a1, c1, hv⟩ := owns_len3 HO.out
    subst hv
    go_wp2_with (at_next; refine wpList_next_ranges _ rfl _ rfl 110 Tryz.keyed99 _ (fun x : Value => x) (fun x : Value => x) (fun key _ _ => ⟨key, rfl⟩) (fun v _ _ => ⟨v, rfl⟩) bm w.heap.size N _ _ _ rfl RG.out ?_ ?_)
    · intro h0 hl0
      have ALL : ∀ a b c, M a b = some c → a < b → a < c → (a, b, c) ∈ l := fun a b c e h1 h2 => by
        have := hlt a b c e
        exact HC.out.all a b c e (by omega) (by omega) h1 h2 (hl0 _)
      obtain ⟨a, b, c, e, h1, h2⟩ := hex
      have hpos : 0 < l.length := List.length_pos_of_mem (ALL a b c e h1 h2)
      obtain ⟨g, cp, hv, hg1, hg2, hcp⟩ := owns_shape3 HO.out hpos
      simp only [Value.slice.injEq, true_and] at hv
      obtain ⟨rfl, rfl⟩ := hv
      have eg : ∀ args w, (callFunc 79 args).run Tryz.prog w = .ok (.enter 79 args) w := enters_of Tryz.func79 (by kernel_rfl) rfl
      have hds : l.toArray.size = l.length := by simp
      have hso := AnyQ.slices_SortFunc Tryz.sortT 3 Tryz.isAgg46 Tryz.sizeOf46 enc3 (fun _ => rfl) (fun x v hv => by simp [enc3] at hv; rcases hv with rfl | rfl | rfl <;> rfl) cf3 cf3_swo 79 #[] g 0 c1 l.toArray wr eg (cmpLays3 g _ wr) (holds_own3 HO.out) hg2 (by rw [hds]; have := SZ.out; omega)
      change Calls Tryz.prog 78 _ _ _ at hso
      rw [hds] at hso
      have SO : Hid (Calls Tryz.prog 78 #[.slice (some ⟨g, 0, none⟩) l.length c1, .func (.func 79) #[] #[]] wr fun e w' => e = .returned (.tuple #[]) ∧ Below w.heap.size w w' ∧ ∃ d : Array T3, d.size = l.length ∧ w'.ownsRow w.heap.size 46 3 (.slice (some ⟨g, 0, none⟩) l.length c1) l.length (flat3 d.toList) ∧ Tris M d) := hid (by
        refine hso.mono ?_
        rintro e w' ⟨rfl, d', q, os, hp, hs, rfl⟩
        have hsz : d'.size = l.length := by have := hp.1; simp at this; exact this
        have hpm : d'.toList.Perm l := by
          have := hp.2.2
          rw [show d'.extract 0 l.length = d' from by rw [← hsz]; simp, show l.toArray.extract 0 l.length = l.toArray from by simp] at this
          simpa using this
        refine ⟨rfl, HBW.out.trans (below_sortK os (by omega) HBW.out.size), d', hsz, ?_, ⟨fun t ht => ?_, fun a b c e h1 h2 => hpm.mem_iff.2 (ALL a b c e h1 h2), hpm.nodup_iff.2 HC.out.nd, by rw [hsz]; exact hs⟩⟩
        · have h := owns_put (q := q) (F := flatK enc3 3 d') HO.out (by simp [hsz]) os
          rw [flatK_flat3] at h
          unfold sortWorldK putRowK
          exact ⟨h.1, by
            rcases h.2 with h2 | ⟨g', cap', cur, k1, k2, k3⟩
            · exact .inl h2
            · exact .inr ⟨g', cap', cur, k1, by omega, k3⟩⟩
        · have := HC.out.tri t (hpm.mem_iff.1 ht)
          exact ⟨this.1, this.2.1, this.2.2.1⟩)
      have hl16 : l.length ≤ 1600 := by have := SZ.out; omega
      have hgs : Hid (w.heap.size ≤ g) := hid (by omega)
      clear hl0 ALL e hso eg hds
      go_wp2_with fail
      refine SO.out.mono ?_
      rintro e w2 ⟨rfl, hb2, d, hd, ho2, ht2⟩
      have HB2 := hid hb2
      have HO2 := hid ho2
      have HT2 := hid ht2
      have HD := hid hd
      clear hb2 ho2 ht2 hd SO
      go_wp2_with fail
      go_ret
      refine ⟨HB2.out, g, c1, d, by rw [HD.out]; rfl, hgs.out, by rw [HD.out]; exact hl16, by rw [HD.out]; exact HO2.out, HT2.out⟩
    · intro key c kl y1 y2 w1 cnt1 hkey hlk hc hat hrg1 hclt hg1 hs1 hen
      obtain ⟨u, v, d, hu, hv, rfl, rfl, hd, rfl⟩ := side_of (y := (y1, y2)) HR.out hkey (HLH.out _ hlk) hc hat
      have rlt := RG.out.lt
      have vne : (Value.slice a1 l.length c1).ownBlock ≠ some w.heap.size := fun e => by have := own_ge3 HO.out _ e; omega
      have HO1 : Hid (w1.ownsRow (w.heap.size + 1) 46 3 (.slice a1 l.length c1) l.length (flat3 l)) := hid (HO.out.kept hg1 (.inr vne))
      have HB1 : Hid (Below w.heap.size w w1) := hid (HBW.out.grown hg1 HBW.out.size (fun k e => by have := Option.some.inj e; omega))
      obtain ⟨W2, hW2⟩ : ∃ W2, W2 = w1.alloc (.cells #[.int .i64 (u : Nat), .int .i64 (v : Nat)] 110) := ⟨_, rfl⟩
      have B2 : Hid (Below w1.heap.size w1 W2) := hid (by rw [hW2]; exact (Below.refl _ _).alloc (Nat.le_refl _) _)
      have RG2 : Hid (W2.ranges Tryz.prog 110 (plainElem Tryz.prog 3) bm w.heap.size N D (fun z => left z && !z.sameKey (klL u v)) cnt1) := hid (ranges_same hrg1 (B2.out.block bm (by have := hrg1.owns.lt; omega)) (B2.out.block _ (by have := hrg1.lt; omega)))
      have HO2 : Hid (W2.ownsRow (w.heap.size + 1) 46 3 (.slice a1 l.length c1) l.length (flat3 l)) := hid (by rw [hW2]; exact HO1.out.alloc _)
      have HB2 : Hid (Below w.heap.size w W2) := hid (HB1.out.trans (B2.out.mono HB1.out.size))
      have HLH2 : Hid (∀ kl, (left kl && !kl.sameKey (klL u v)) = true → Maps.has D kl = true) := hid (fun kl h => HLH.out kl (by simp at h; exact h.1))
      have RL : Hid (cnt1 < cnt) := hid hclt
      have LE := hid RG.out.left_eq
      have c1' : cnt1 < cnt := hclt
      by_cases huv : u < v
      · have duv : decide ((u : Int) < (v : Int)) = true := by simp; omega
        by_cases hud : u < d
        · have dud : decide ((u : Int) < (d : Int)) = true := by simp; omega
          have HC2 := hid (HC.out.add hu hv hd huv hud hlk)
          clear hkey hlk hc hat hrg1 hg1 hs1 hclt
          have S2 : Hid (W2.heap.size = w1.heap.size + 1) := hid (by rw [hW2]; simp)
          go_wp2_with (at_builtin; go_must (rw [← hW2]; refine wpList_append_own _ rfl _ _ 28 rfl (w.heap.size + 1) 46 i0 (.agg #[.int .i64 0, .int .i64 0, .int .i64 0]) 3 24 Tryz.underlying28 hi hz0 hz1 hz2 rfl (by decide) _ _ _ rfl (HO2.out.alloc _) ⟨w1.heap.size + 1, 0, none⟩ 1 1 [.int .i64 (u : Nat), .int .i64 (v : Nat), .int .i64 (d : Nat)] rfl rfl ?c1 ?c2 ?c3 ?c4 ?c5 ?_))
          case c1 =>
            intro j z hj
            have hadd : (⟨w1.heap.size + 1, 0, none⟩ : Addr).add j = ⟨w1.heap.size + 1, j, none⟩ := by unfold Addr.add; split <;> simp_all
            rw [hadd, World.cell?_alloc_at _ _ _ _ S2.out.symm]
            simpa using hj
          case c2 => intro z hz; simp at hz; rcases hz with rfl | rfl | rfl <;> rfl
          case c3 => have := SZ.out; unfold maxLen; omega
          case c4 => have := SZ.out; omega
          case c5 => have := HB2.out.size; have := S2.out; have := HB1.out.size; simp; omega
          intro v' w3 hown' hgrow _
          try rw [← hW2] at hgrow
          have vb : ∀ g, (Value.slice a1 l.length c1).ownBlock = some g → w.heap.size + 1 ≤ g := fun g e => (own_ge3 HO2.out g e).1
          have KB : ∀ k, k ≤ w.heap.size → w3.heap[k]? = W2.heap[k]? := fun k hk => by
            have hk2 : k < W2.heap.size := by have := S2.out; have := HB1.out.size; omega
            rw [hgrow.block k (by simp; omega) (fun e => by have := vb k e.symm; omega)]
            exact Below.heap_alloc _ _ _ hk2
          have RG3 : Hid (w3.ranges Tryz.prog 110 (plainElem Tryz.prog 3) bm w.heap.size N D (fun z => left z && !z.sameKey (klL u v)) cnt1) := hid (ranges_same RG2.out (KB bm (by omega)) (KB _ (Nat.le_refl _)))
          have HB3 : Hid (Below w.heap.size w w3) := hid ⟨hgrow.os.trans HB2.out.os, hgrow.tape.trans HB2.out.tape, hgrow.output.trans HB2.out.output, by have := hgrow.size; have := HB2.out.size; simp at *; omega, fun k hk => (KB k (by omega)).trans (HB2.out.block k hk)⟩
          have HO3 : Hid (w3.ownsRow (w.heap.size + 1) 46 3 v' (l ++ [(u, v, d)]).length (flat3 (l ++ [(u, v, d)]))) := hid (by
            rw [flat3_append, List.length_append]
            exact hown')
          have hl3 : (l ++ [(u, v, d)]).length = l.length + 1 := by simp
          have hl3b : (l ++ [(u, v, d)]).length + cnt1 ≤ Maps.size D := by omega
          clear hown' hgrow vb KB hW2 hl3
          go_wp2_with fail
          go_roundw
          case rel => exact ⟨_, cnt1, l ++ [(u, v, d)], RG3, HO3, hl3b, HLH2, HC2, HB3⟩
          case measure => rw [RG3.out.left_eq, LE.out]; exact RL.out
        · have dud : decide ((u : Int) < (d : Int)) = false := by simp; omega
          have HC2 := hid (HC.out.skip hu hv hd (by omega))
          clear hkey hlk hc hat hrg1 hg1 hs1 hclt
          go_wp2_with fail
          rw [← hW2]
          clear hW2
          go_roundw
          case rel => exact ⟨_, cnt1, l, RG2, HO2, by omega, HLH2, HC2, HB2⟩
          case measure => rw [RG2.out.left_eq, LE.out]; exact RL.out
      · have duv : decide ((u : Int) < (v : Int)) = false := by simp; omega
        have HC2 := hid (HC.out.skip hu hv hd (by omega))
        clear hkey hlk hc hat hrg1 hg1 hs1 hclt
        go_wp2_with fail
        rw [← hW2]
        clear hW2
        go_roundw
        case rel => exact ⟨_, cnt1, l, RG2, HO2, by omega, HLH2, HC2, HB2⟩
        case measure => rw [RG2.out.left_eq, LE.out]; exact RL.out
end Go.Proofs.YtdbebbbceeopaaaGreat
