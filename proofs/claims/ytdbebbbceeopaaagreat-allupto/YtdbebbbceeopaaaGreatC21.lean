import Derived.Test.YtdbebbbceeopaaaGreatC19
import Derived.Test.YtdbebbbceeopaaaGreatC6
import Derived.Test.YtdbebbbceeopaaaGreatC18
import Derived.Test.YtdbebbbceeopaaaGreatC12
import Derived.Test.YtdbebbbceeopaaaGreatC3
import Derived.Test.YtdbebbbceeopaaaGreatC20
set_option linter.unusedSimpArgs false
namespace Go.Proofs.YtdbebbbceeopaaaGreat
open Go.RowKit Go.Maps Go.Shelf
open Go.Sort (grow Holds putRow SWO PermIn SortedIn alloc_eq_grow grow_grow cell?_grow cell?_putRow_other)

/-- A triangle's three numbers. -/
abbrev T3 := Nat × Nat × Nat

def enc3 (t : T3) : List Value := [.int .i64 t.1, .int .i64 t.2.1, .int .i64 t.2.2]

def cf3 (t u : T3) : Int := orI (cmpI t.1 u.1) (orI (cmpI t.2.1 u.2.1) (cmpI t.2.2 u.2.2))

def lt3 (t u : T3) : Prop := t.1 < u.1 ∨ (t.1 = u.1 ∧ (t.2.1 < u.2.1 ∨ (t.2.1 = u.2.1 ∧ t.2.2 < u.2.2)))

theorem cf3_lt (t u : T3) : (cf3 t u < 0) ↔ lt3 t u := by
  unfold cf3 lt3 orI cmpI
  obtain ⟨a, b, c⟩ := t
  obtain ⟨d, e, f⟩ := u
  dsimp only
  rcases Nat.lt_trichotomy a d with h | h | h
  · have h1 : (a : Int) < d := by omega
    simp [h1, h]
  · subst h
    rcases Nat.lt_trichotomy b e with h | h | h
    · have h1 : (b : Int) < e := by omega
      simp [h1, h]
    · subst h
      rcases Nat.lt_trichotomy c f with h | h | h
      · have h1 : (c : Int) < f := by omega
        simp [h1, h]
      · subst h; simp
      · have h1 : ¬ (c : Int) < f := by omega
        have h2 : (f : Int) < c := by omega
        have h3 : ¬ c < f := by omega
        simp [h1, h2, h3]
    · have h1 : ¬ (b : Int) < e := by omega
      have h2 : (e : Int) < b := by omega
      have h3 : ¬ b < e := by omega
      have h4 : ¬ b = e := by omega
      simp [h1, h2, h3, h4]
  · have h1 : ¬ (a : Int) < d := by omega
    have h2 : (d : Int) < a := by omega
    have h3 : ¬ a < d := by omega
    have h4 : ¬ a = d := by omega
    simp [h1, h2, h3, h4]

theorem cf3_swo : SWO (ltOf cf3) := by
  refine ⟨fun x => ?_, fun x y z h1 h2 => ?_, fun x y z h1 h2 => ?_⟩
  · unfold ltOf; rw [decide_eq_false_iff_not, cf3_lt]; unfold lt3; omega
  · unfold ltOf at *
    rw [decide_eq_true_iff, cf3_lt] at *
    unfold lt3 at *; omega
  · unfold ltOf at *
    rw [decide_eq_false_iff_not, cf3_lt] at *
    unfold lt3 at *; omega

set_option maxHeartbeats 800000 in
theorem or3_any (b : Nat) (x y z : Int) (w : World) (h0 : w.cell? ⟨b, 0, none⟩ = some (.int .i64 x)) (h1 : w.cell? ⟨b, 1, none⟩ = some (.int .i64 y)) (h2 : w.cell? ⟨b, 2, none⟩ = some (.int .i64 z)) :
    Calls Tryz.prog 80 #[.slice (some ⟨b, 0, none⟩) 3 3] w fun e w' => e = .returned (.int .i64 (orI x (orI y z))) ∧ w' = w := by
  unfold orI
  by_cases hx : x = 0
  · subst hx
    by_cases hy : y = 0
    · subst hy
      by_cases hz : z = 0
      · subst hz
        go_enter Tryz.func80, Tryz.ntmps80
        go_wp2
        refine wp_loop_rounds 4 ?_
        rw [rounds_succ]
        go_wp2
        rw [rounds_succ]
        go_wp2
        rw [rounds_succ]
        go_wp2
        rw [rounds_succ]
        go_wp2
        go_ret
        exact ⟨rfl, rfl⟩
      · have hz' : (z != 0) = true := by simpa using hz
        go_enter Tryz.func80, Tryz.ntmps80
        go_wp2
        refine wp_loop_rounds 3 ?_
        rw [rounds_succ]
        go_wp2
        rw [rounds_succ]
        go_wp2
        rw [rounds_succ]
        go_wp2
        go_ret
        exact ⟨rfl, rfl⟩
    · have hy' : (y != 0) = true := by simpa using hy
      rw [if_pos hy]
      go_enter Tryz.func80, Tryz.ntmps80
      go_wp2
      refine wp_loop_rounds 2 ?_
      rw [rounds_succ]
      go_wp2
      rw [rounds_succ]
      go_wp2
      go_ret
      exact ⟨rfl, rfl⟩
  · have hx' : (x != 0) = true := by simpa using hx
    rw [if_pos hx]
    go_enter Tryz.func80, Tryz.ntmps80
    go_wp2
    refine wp_loop_rounds 1 ?_
    rw [rounds_succ]
    go_wp2
    go_ret
    exact ⟨rfl, rfl⟩

set_option maxRecDepth 100000 in
set_option maxHeartbeats 4000000 in
theorem closure3_any (x y : T3) (w : World) :
    Calls Tryz.prog 79 #[.agg (enc3 x).toArray, .agg (enc3 y).toArray] w fun e w' => e = .returned (.int .i64 (cf3 x y)) ∧ ∃ q os', w' = grow (w.drewN q) os' := by
  unfold enc3 cf3
  generalize (x.1 : Int) = a0
  generalize (x.2.1 : Int) = a1
  generalize (x.2.2 : Int) = a2
  generalize (y.1 : Int) = b0
  generalize (y.2.1 : Int) = b1
  generalize (y.2.2 : Int) = b2
  have C1 := hid compareI_any
  obtain ⟨W1, hW1⟩ : ∃ W1 : World, W1 = (w.alloc (.cells #[.int .i64 a0, .int .i64 a1, .int .i64 a2] 46)).alloc (.cells #[.int .i64 b0, .int .i64 b1, .int .i64 b2] 46) := ⟨_, rfl⟩
  have lt1 : w.heap.size < (w.alloc (.cells #[.int .i64 a0, .int .i64 a1, .int .i64 a2] 46)).heap.size := by simp
  have c0 : W1.cell? ⟨w.heap.size, 0, none⟩ = some (.int .i64 a0) := by rw [hW1]; exact (World.cell?_alloc_lt _ _ _ lt1).trans (World.cell?_alloc_at _ _ _ _ rfl)
  have c1 : W1.cell? ⟨w.heap.size, 1, none⟩ = some (.int .i64 a1) := by rw [hW1]; exact (World.cell?_alloc_lt _ _ _ lt1).trans (World.cell?_alloc_at _ _ _ _ rfl)
  have c2 : W1.cell? ⟨w.heap.size, 2, none⟩ = some (.int .i64 a2) := by rw [hW1]; exact (World.cell?_alloc_lt _ _ _ lt1).trans (World.cell?_alloc_at _ _ _ _ rfl)
  have d0 : W1.cell? ⟨w.heap.size + 1, 0, none⟩ = some (.int .i64 b0) := by rw [hW1]; exact World.cell?_alloc_at _ _ _ _ (by simp)
  have d1 : W1.cell? ⟨w.heap.size + 1, 1, none⟩ = some (.int .i64 b1) := by rw [hW1]; exact World.cell?_alloc_at _ _ _ _ (by simp)
  have d2 : W1.cell? ⟨w.heap.size + 1, 2, none⟩ = some (.int .i64 b2) := by rw [hW1]; exact World.cell?_alloc_at _ _ _ _ (by simp)
  go_enter Tryz.func79, Tryz.ntmps79
  go_wp2_with fail
  rw [← hW1]
  have HW1 := hid hW1
  clear hW1
  go_region_held3 (fun W => W.cell? ⟨w.heap.size, 0, none⟩ = some (.int .i64 a0) ∧ W.cell? ⟨w.heap.size, 1, none⟩ = some (.int .i64 a1) ∧ W.cell? ⟨w.heap.size, 2, none⟩ = some (.int .i64 a2) ∧ W.cell? ⟨w.heap.size + 1, 0, none⟩ = some (.int .i64 b0) ∧ W.cell? ⟨w.heap.size + 1, 1, none⟩ = some (.int .i64 b1) ∧ W.cell? ⟨w.heap.size + 1, 2, none⟩ = some (.int .i64 b2)) (go_keep)
    (first
      | (go_at_call 81; refine (C1.out _ _ _).mono ?_; rintro e w' ⟨rfl, rfl⟩)
      | (go_at_call 80; refine (or3_any _ _ _ _ _ (World.cell?_alloc_at _ _ _ _ rfl) (World.cell?_alloc_at _ _ _ _ rfl) (World.cell?_alloc_at _ _ _ _ rfl)).mono ?_; rintro e w' ⟨rfl, rfl⟩))
  go_wp2_with fail
  go_ret
  refine ⟨rfl, ?_⟩
  refine ⟨1, #[Obj.cells #[.int .i64 a0, .int .i64 a1, .int .i64 a2] 46] ++ (#[Obj.cells #[.int .i64 b0, .int .i64 b1, .int .i64 b2] 46] ++ #[Obj.cells #[.int .i64 (cmpI a0 b0), .int .i64 (cmpI a1 b1), .int .i64 (cmpI a2 b2)] 3]), ?_⟩
  rw [HW1.out, alloc_eq_grow, alloc_eq_grow, alloc_eq_grow, grow_grow, grow_grow]
  rfl
end Go.Proofs.YtdbebbbceeopaaaGreat

set_option linter.unusedSimpArgs false
namespace Go.Proofs.YtdbebbbceeopaaaGreat
open Go.RowKit Go.Maps Go.Shelf
open Go.Sort (grow Holds putRow SWO PermIn SortedIn alloc_eq_grow grow_grow cell?_grow cell?_putRow_other)
open Go.Sort

def flat3 (l : List T3) : List Value := l.flatMap enc3

theorem flat3_cons (x : T3) (r : List T3) : flat3 (x :: r) = .int .i64 x.1 :: .int .i64 x.2.1 :: .int .i64 x.2.2 :: flat3 r := rfl
theorem flat3_append (l r : List T3) : flat3 (l ++ r) = flat3 l ++ flat3 r := by unfold flat3; rw [List.flatMap_append]
theorem flat3_len (l : List T3) : (flat3 l).length = l.length * 3 := by
  induction l with
  | nil => rfl
  | cons x r ih => rw [flat3_cons]; simp [ih]; omega

theorem flat3_get : ∀ (l : List T3) (i c : Nat), c < 3 → (flat3 l)[i * 3 + c]? = (l[i]?).bind fun x => (enc3 x)[c]?
  | [], i, c, h => by simp [flat3]
  | x :: r, 0, c, h => by
    rw [flat3_cons]
    match c, h with
    | 0, _ => rfl
    | 1, _ => rfl
    | 2, _ => rfl
  | x :: r, i + 1, c, h => by
    rw [flat3_cons, show (i + 1) * 3 + c = i * 3 + c + 1 + 1 + 1 by omega, List.getElem?_cons_succ, List.getElem?_cons_succ, List.getElem?_cons_succ, flat3_get r i c h]
    rfl

theorem flatK_flat3 (d : Array T3) : (flatK enc3 3 d).toList = flat3 d.toList := by
  apply List.ext_getElem?
  intro t
  by_cases ht : t < d.size * 3
  · have e : t = t / 3 * 3 + t % 3 := by omega
    have hi : t / 3 < d.size := by omega
    have hg := get_flatK enc3 3 d t ht
    have hs : t < (flatK enc3 3 d).size := by simpa using ht
    rw [Array.getElem?_toList, Array.getElem?_eq_getElem hs, ← getElem!_pos (flatK enc3 3 d) t hs, hg]
    conv => rhs; rw [e]
    rw [flat3_get d.toList (t / 3) (t % 3) (by omega), Array.getElem?_toList, Array.getElem?_eq_getElem hi, getElem!_pos d (t / 3) hi]
    have h3 : t % 3 < (enc3 d[t / 3]).length := by show t % 3 < 3; omega
    simp [getElem!_pos, h3, List.getElem?_eq_getElem h3]
  · rw [List.getElem?_eq_none (by simp; omega), List.getElem?_eq_none (by rw [flat3_len]; simp; omega)]

theorem owns_put {w : World} {base : Nat} {e : TypeId} {g n cap q size : Nat} {xs : List Value} {F : Array Value} (h : w.ownsRow base e size (.slice (some ⟨g, 0, none⟩) n cap) n xs) (hF : F.size = n * size) (os : Array Obj) :
    (grow (putRow id (Sort.ahead w q) g 0 F) os).ownsRow base e size (.slice (some ⟨g, 0, none⟩) n cap) n F.toList := by
  rcases h.2 with ⟨e0, _⟩ | ⟨g', cap', cur, e0, hb, hg, hn, hm, hs, ht⟩
  · cases e0
  · injection e0 with e1 _ e3
    injection e1 with e1
    injection e1 with e1
    subst e1; subst e3
    have hle : n * size ≤ cap * size := Nat.mul_le_mul_right _ hn
    refine ⟨by simpa using hF, .inr ⟨g, cap, Sort.putCells id 0 F cur, rfl, hb, ?_, hn, hm, by simpa [Sort.putCells] using hs, ?_⟩⟩
    · have hlt : g < (putRow id (Sort.ahead w q) g 0 F).heap.size := by rw [Sort.size_putRow]; exact (Array.getElem?_eq_some_iff.1 hg).1
      show ((putRow id (Sort.ahead w q) g 0 F).heap ++ os)[g]? = _
      rw [Array.getElem?_append_left hlt]
      simp [putRow, Sort.mapBlock, Sort.ahead, Array.getElem?_modify, hg, Sort.onCells]
    · apply List.ext_getElem?
      intro j
      rw [List.getElem?_take, Array.getElem?_toList, Array.getElem?_toList]
      by_cases hj : j < n * size
      · have hjc : j < cur.size := by omega
        simp only [if_pos hj, Sort.putCells, Array.getElem?_mapIdx, Array.getElem?_eq_getElem hjc, Option.map_some]
        rw [if_pos (by omega), Array.getElem?_eq_getElem (by omega)]
        simp [getElem!_pos, show j < F.size by omega]
      · have : ¬ j < F.size := by omega
        simp [hj, this]

theorem holds_own3 {w : World} {base g cap : Nat} {l : List T3} (h : w.ownsRow base 46 3 (.slice (some ⟨g, 0, none⟩) l.length cap) l.length (flat3 l)) : HoldsK enc3 3 w g 0 l.toArray := by
  intro j hj
  have hj' : j < l.length * 3 := by simpa using hj
  have e : (flatK enc3 3 l.toArray)[j]? = (flat3 l)[j]? := by
    rw [← Array.getElem?_toList, flatK_flat3]
  refine ⟨?_, by rw [Nat.zero_add]; exact h.frozenAt j⟩
  rw [Nat.zero_add, h.cellAt j hj', ← e, Array.getElem?_eq_getElem hj, getElem!_pos _ j hj]
  rfl

/-- What has been collected of a mesh's triangles. -/
structure Col (M : Nat → Nat → Option Nat) (left : Lit → Bool) (l : List T3) : Prop where
  nd : l.Nodup
  tri : ∀ t ∈ l, M t.1 t.2.1 = some t.2.2 ∧ t.1 < t.2.1 ∧ t.1 < t.2.2 ∧ t.1 < 1000 ∧ t.2.1 < 1000 ∧ left (klL t.1 t.2.1) = false
  all : ∀ a b c, M a b = some c → a < 1000 → b < 1000 → a < b → a < c → left (klL a b) = false → (a, b, c) ∈ l

theorem Col.skip {M : Nat → Nat → Option Nat} {left : Lit → Bool} {l : List T3} {u v d : Nat} (h : Col M left l) (hu : u < 1000) (hv : v < 1000) (hd : M u v = some d) (hn : ¬ (u < v ∧ u < d)) : Col M (fun z => left z && !z.sameKey (klL u v)) l := by
  refine ⟨h.nd, fun t ht => ?_, fun a b c e ha hb h1 h2 hf => ?_⟩
  · obtain ⟨t1, t2, t3, t4, t5, t6⟩ := h.tri t ht
    exact ⟨t1, t2, t3, t4, t5, by simp [t6]⟩
  · rw [Bool.and_eq_false_iff] at hf
    rcases hf with hf | hf
    · exact h.all a b c e ha hb h1 h2 hf
    · simp at hf
      obtain ⟨rfl, rfl⟩ := same_kl ha hb hu hv hf
      rw [hd] at e
      cases e
      exact absurd ⟨h1, h2⟩ hn

theorem Col.add {M : Nat → Nat → Option Nat} {left : Lit → Bool} {l : List T3} {u v d : Nat} (h : Col M left l) (hu : u < 1000) (hv : v < 1000) (hd : M u v = some d) (h1 : u < v) (h2 : u < d) (hl : left (klL u v) = true) : Col M (fun z => left z && !z.sameKey (klL u v)) (l ++ [(u, v, d)]) := by
  have ks : (klL u v).sameKey (klL u v) = true := WideAt.sameKey_self (kl_key u v hu hv)
  refine ⟨?_, fun t ht => ?_, fun a b c e ha hb k1 k2 hf => ?_⟩
  · refine List.nodup_append.2 ⟨h.nd, by simp, fun t ht t' ht' e => ?_⟩
    simp at ht'
    subst ht'
    subst e
    have := (h.tri _ ht).2.2.2.2.2
    dsimp only at this
    rw [hl] at this
    cases this
  · rcases List.mem_append.1 ht with ht | ht
    · obtain ⟨t1, t2, t3, t4, t5, t6⟩ := h.tri t ht
      exact ⟨t1, t2, t3, t4, t5, by simp [t6]⟩
    · simp at ht
      subst ht
      exact ⟨hd, h1, h2, hu, hv, by simp [ks]⟩
  · rw [Bool.and_eq_false_iff] at hf
    rcases hf with hf | hf
    · exact List.mem_append_left _ (h.all a b c e ha hb k1 k2 hf)
    · simp at hf
      obtain ⟨rfl, rfl⟩ := same_kl ha hb hu hv hf
      rw [hd] at e
      cases e
      exact List.mem_append_right _ (by simp)
end Go.Proofs.YtdbebbbceeopaaaGreat

set_option linter.unusedSimpArgs false
namespace Go.Proofs.YtdbebbbceeopaaaGreat
open Go.RowKit Go.Maps Go.Shelf
open Go.Sort


theorem owns_len3 {w : World} {base n : Nat} {v : Value} {xs : List Value} (h : w.ownsRow base 46 3 v n xs) : ∃ a c, v = .slice a n c := by
  rcases h.2 with ⟨rfl, rfl⟩ | ⟨g', cap', cur, h', _⟩
  · exact ⟨_, _, rfl⟩
  · exact ⟨_, _, h'⟩

theorem own_ge3 {w : World} {base : Nat} {v : Value} {n : Nat} {xs : List Value} (h : w.ownsRow base 46 3 v n xs) : ∀ g, v.ownBlock = some g → base ≤ g ∧ g < w.heap.size := by
  intro g hg
  rcases h.2 with ⟨rfl, _⟩ | ⟨g', cap', cur, rfl, hb, hh, _⟩
  · cases hg
  · cases hg
    exact ⟨hb, (Array.getElem?_eq_some_iff.1 hh).1⟩

theorem owns_shape3 {w : World} {base n : Nat} {v : Value} {xs : List Value} (h : w.ownsRow base 46 3 v n xs) (hn : 0 < n) : ∃ g c, v = .slice (some ⟨g, 0, none⟩) n c ∧ base ≤ g ∧ g < w.heap.size ∧ n ≤ c := by
  rcases h.2 with ⟨_, rfl⟩ | ⟨g', cap', cur, h', hb, hg, hc, _⟩
  · omega
  · exact ⟨g', cap', h', hb, (Array.getElem?_eq_some_iff.1 hg).1, hc⟩

theorem cmpLays3 (g sz : Nat) (w : World) : CmpLays Tryz.prog 79 #[] enc3 3 cf3 g 0 sz w := by
  intro m os dk hs x y
  exact closure3_any x y _

theorem below_sortK {B g q : Nat} {w : World} {d : Array T3} (os : Array Obj) (hg : B ≤ g) (hB : B ≤ w.heap.size) : Below B w (sortWorldK enc3 3 w g 0 q d os) := by
  unfold sortWorldK putRowK
  have h1 := Lib.below_putRow (enc := id) (q := q) (d := flatK enc3 3 d) (Below.refl B w) hg
  have h2 := Lib.below_grow B (putRow id (Sort.ahead w q) g 0 (flatK enc3 3 d)) (by rw [Sort.size_putRow]; exact hB) 0 os
  exact h1.trans h2

/-- The sorted list of a mesh's triangles. -/
structure Tris (M : Nat → Nat → Option Nat) (d : Array T3) : Prop where
  tri : ∀ t ∈ d.toList, M t.1 t.2.1 = some t.2.2 ∧ t.1 < t.2.1 ∧ t.1 < t.2.2
  all : ∀ a b c, M a b = some c → a < b → a < c → (a, b, c) ∈ d.toList
  nd : d.toList.Nodup
  srt : SortedIn (ltOf cf3) 0 d.size d

set_option maxRecDepth 100000 in
set_option maxHeartbeats 4000000 in
theorem trianglesM_any (mb bm N pb po n cap : Nat) (px py : Nat → Int) (M : Nat → Nat → Option Nat) (lv : Value) (ls : List (Nat × Nat)) (w : World) (hM : MeshAt w mb bm N pb po n cap px py M lv ls) (hN : N ≤ 1600) (hlt : ∀ a b c, M a b = some c → a < n ∧ b < n) (hn : n ≤ 40) (hex : ∃ a b c, M a b = some c ∧ a < b ∧ a < c) :
    Calls Tryz.prog 44 #[.pointer (some ⟨mb, 0, none⟩)] w fun e w' => Below w.heap.size w w' ∧ ∃ (g cp : Nat) (d : Array T3), e = .returned (.slice (some ⟨g, 0, none⟩) d.size cp) ∧ w.heap.size ≤ g ∧ d.size ≤ 1600 ∧ w'.ownsRow w.heap.size 46 3 (.slice (some ⟨g, 0, none⟩) d.size cp) d.size (flat3 d.toList) ∧ Tris M d := by
  obtain ⟨i0, hi, hz0, hz1, hz2⟩ := info_parts Tryz.info46
  obtain ⟨D, hown, hR⟩ := hM.map
  have HR := hid hR
  have bl := hM.map.lt
  have SZ := hid hown.size_le
  have k1 := hM.c1
  have HO := hid hown
  clear hM hown hR
  go_enter Tryz.func44, Tryz.ntmps44
  go_wp2_with (at_range; refine wpList_range_own _ rfl _ 102 rfl 110 3 Tryz.keyed99 Tryz.underlying102 _ bm N _ rfl HO.out ?_; intro w0 hrg0 hg0 hs0)
  have R0 := hid hrg0
  have BW0 : Hid (Below w.heap.size w w0) := hid ((Below.refl _ _).grown hg0 (Nat.le_refl _) (fun k e => by cases e))
  have Z0 := hid hs0
  clear hrg0 hg0 hs0 k1 HO
  go_frame
  go_loopw [3, 4, 5] (fun v _ _ wr => ∃ (left : Lit → Bool) (cnt : Nat) (l : List T3), Hid (wr.ranges Tryz.prog 110 (plainElem Tryz.prog 3) bm w.heap.size N D left cnt) ∧ Hid (wr.ownsRow (w.heap.size + 1) 46 3 v l.length (flat3 l)) ∧ l.length + cnt ≤ Maps.size D ∧ Hid (∀ kl, left kl = true → Maps.has D kl = true) ∧ Hid (Col M left l) ∧ Hid (Below w.heap.size w wr))
    (fun _ _ _ wr => wr.rangeLeft bm w.heap.size)
  case atStart =>
    refine ⟨_, _, [], R0, hid (World.ownsRow_nil _ _ _ _), by simp, hid (fun _ h => h), hid ⟨List.nodup_nil, (fun t ht => by cases ht), fun a b c e ha hb h1 h2 hf => ?_⟩, BW0⟩
    have := HR.out.has a b ha hb
    rw [hf, e] at this
    cases this
  case round =>
    obtain ⟨left, cnt, l, RG, HO, hlen, HLH, HC, HBW⟩ := hrel
    clear R0 BW0 Z0
    obtain ⟨a1, c1, hv⟩ := owns_len3 HO.out
    subst hv
    go_wp2_with (at_next; refine wpList_next_ranges _ rfl _ rfl 110 Tryz.keyed99 _ (fun x : Value => x) (fun x : Value => x) (fun key _ _ => ⟨key, rfl⟩) (fun v _ _ => ⟨v, rfl⟩) bm w.heap.size N _ _ _ rfl RG.out ?_ ?_)
    · intro h0 hl0
      have ALL : ∀ a b c, M a b = some c → a < b → a < c → (a, b, c) ∈ l := fun a b c e h1 h2 => by
        have := hlt a b c e
        exact HC.out.all a b c e (by omega) (by omega) h1 h2 (hl0 _)
      obtain ⟨a, b, c, e, h1, h2⟩ := hex
      have hpos : 0 < l.length := List.length_pos_of_mem (ALL a b c e h1 h2)
      obtain ⟨g, cp, hv, hg1, hg2, hcp⟩ := owns_shape3 HO.out hpos
      simp only [Value.slice.injEq, true_and] at hv
      obtain ⟨rfl, rfl⟩ := hv
      have eg : ∀ args w, (callFunc 79 args).run Tryz.prog w = .ok (.enter 79 args) w := enters_of Tryz.func79 (by kernel_rfl) rfl
      have hds : l.toArray.size = l.length := by simp
      have hso := AnyQ.slices_SortFunc Tryz.sortT 3 Tryz.isAgg46 Tryz.sizeOf46 enc3 (fun _ => rfl) (fun x v hv => by simp [enc3] at hv; rcases hv with rfl | rfl | rfl <;> rfl) cf3 cf3_swo 79 #[] g 0 c1 l.toArray wr eg (cmpLays3 g _ wr) (holds_own3 HO.out) hg2 (by rw [hds]; have := SZ.out; omega)
      change Calls Tryz.prog 78 _ _ _ at hso
      rw [hds] at hso
      have SO : Hid (Calls Tryz.prog 78 #[.slice (some ⟨g, 0, none⟩) l.length c1, .func (.func 79) #[] #[]] wr fun e w' => e = .returned (.tuple #[]) ∧ Below w.heap.size w w' ∧ ∃ d : Array T3, d.size = l.length ∧ w'.ownsRow w.heap.size 46 3 (.slice (some ⟨g, 0, none⟩) l.length c1) l.length (flat3 d.toList) ∧ Tris M d) := hid (by
        refine hso.mono ?_
        rintro e w' ⟨rfl, d', q, os, hp, hs, rfl⟩
        have hsz : d'.size = l.length := by have := hp.1; simp at this; exact this
        have hpm : d'.toList.Perm l := by
          have := hp.2.2
          rw [show d'.extract 0 l.length = d' from by rw [← hsz]; simp, show l.toArray.extract 0 l.length = l.toArray from by simp] at this
          simpa using this
        refine ⟨rfl, HBW.out.trans (below_sortK os (by omega) HBW.out.size), d', hsz, ?_, ⟨fun t ht => ?_, fun a b c e h1 h2 => hpm.mem_iff.2 (ALL a b c e h1 h2), hpm.nodup_iff.2 HC.out.nd, by rw [hsz]; exact hs⟩⟩
        · have h := owns_put (q := q) (F := flatK enc3 3 d') HO.out (by simp [hsz]) os
          rw [flatK_flat3] at h
          unfold sortWorldK putRowK
          exact ⟨h.1, by
            rcases h.2 with h2 | ⟨g', cap', cur, k1, k2, k3⟩
            · exact .inl h2
            · exact .inr ⟨g', cap', cur, k1, by omega, k3⟩⟩
        · have := HC.out.tri t (hpm.mem_iff.1 ht)
          exact ⟨this.1, this.2.1, this.2.2.1⟩)
      have hl16 : l.length ≤ 1600 := by have := SZ.out; omega
      have hgs : Hid (w.heap.size ≤ g) := hid (by omega)
      clear hl0 ALL e hso eg hds
      go_wp2_with fail
      refine SO.out.mono ?_
      rintro e w2 ⟨rfl, hb2, d, hd, ho2, ht2⟩
      have HB2 := hid hb2
      have HO2 := hid ho2
      have HT2 := hid ht2
      have HD := hid hd
      clear hb2 ho2 ht2 hd SO
      go_wp2_with fail
      go_ret
      refine ⟨HB2.out, g, c1, d, by rw [HD.out]; rfl, hgs.out, by rw [HD.out]; exact hl16, by rw [HD.out]; exact HO2.out, HT2.out⟩
    · intro key c kl y1 y2 w1 cnt1 hkey hlk hc hat hrg1 hclt hg1 hs1 hen
      obtain ⟨u, v, d, hu, hv, rfl, rfl, hd, rfl⟩ := side_of (y := (y1, y2)) HR.out hkey (HLH.out _ hlk) hc hat
      have rlt := RG.out.lt
      have vne : (Value.slice a1 l.length c1).ownBlock ≠ some w.heap.size := fun e => by have := own_ge3 HO.out _ e; omega
      have HO1 : Hid (w1.ownsRow (w.heap.size + 1) 46 3 (.slice a1 l.length c1) l.length (flat3 l)) := hid (HO.out.kept hg1 (.inr vne))
      have HB1 : Hid (Below w.heap.size w w1) := hid (HBW.out.grown hg1 HBW.out.size (fun k e => by have := Option.some.inj e; omega))
      obtain ⟨W2, hW2⟩ : ∃ W2, W2 = w1.alloc (.cells #[.int .i64 (u : Nat), .int .i64 (v : Nat)] 110) := ⟨_, rfl⟩
      have B2 : Hid (Below w1.heap.size w1 W2) := hid (by rw [hW2]; exact (Below.refl _ _).alloc (Nat.le_refl _) _)
      have RG2 : Hid (W2.ranges Tryz.prog 110 (plainElem Tryz.prog 3) bm w.heap.size N D (fun z => left z && !z.sameKey (klL u v)) cnt1) := hid (ranges_same hrg1 (B2.out.block bm (by have := hrg1.owns.lt; omega)) (B2.out.block _ (by have := hrg1.lt; omega)))
      have HO2 : Hid (W2.ownsRow (w.heap.size + 1) 46 3 (.slice a1 l.length c1) l.length (flat3 l)) := hid (by rw [hW2]; exact HO1.out.alloc _)
      have HB2 : Hid (Below w.heap.size w W2) := hid (HB1.out.trans (B2.out.mono HB1.out.size))
      have HLH2 : Hid (∀ kl, (left kl && !kl.sameKey (klL u v)) = true → Maps.has D kl = true) := hid (fun kl h => HLH.out kl (by simp at h; exact h.1))
      have RL : Hid (cnt1 < cnt) := hid hclt
      have LE := hid RG.out.left_eq
      have c1' : cnt1 < cnt := hclt
      by_cases huv : u < v
      · have duv : decide ((u : Int) < (v : Int)) = true := by simp; omega
        by_cases hud : u < d
        · have dud : decide ((u : Int) < (d : Int)) = true := by simp; omega
          have HC2 := hid (HC.out.add hu hv hd huv hud hlk)
          clear hkey hlk hc hat hrg1 hg1 hs1 hclt
          have S2 : Hid (W2.heap.size = w1.heap.size + 1) := hid (by rw [hW2]; simp)
          go_wp2_with (at_builtin; go_must (rw [← hW2]; refine wpList_append_own _ rfl _ _ 28 rfl (w.heap.size + 1) 46 i0 (.agg #[.int .i64 0, .int .i64 0, .int .i64 0]) 3 24 Tryz.underlying28 hi hz0 hz1 hz2 rfl (by decide) _ _ _ rfl (HO2.out.alloc _) ⟨w1.heap.size + 1, 0, none⟩ 1 1 [.int .i64 (u : Nat), .int .i64 (v : Nat), .int .i64 (d : Nat)] rfl rfl ?c1 ?c2 ?c3 ?c4 ?c5 ?_))
          case c1 =>
            intro j z hj
            have hadd : (⟨w1.heap.size + 1, 0, none⟩ : Addr).add j = ⟨w1.heap.size + 1, j, none⟩ := by unfold Addr.add; split <;> simp_all
            rw [hadd, World.cell?_alloc_at _ _ _ _ S2.out.symm]
            simpa using hj
          case c2 => intro z hz; simp at hz; rcases hz with rfl | rfl | rfl <;> rfl
          case c3 => have := SZ.out; unfold maxLen; omega
          case c4 => have := SZ.out; omega
          case c5 => have := HB2.out.size; have := S2.out; have := HB1.out.size; simp; omega
          intro v' w3 hown' hgrow _
          try rw [← hW2] at hgrow
          have vb : ∀ g, (Value.slice a1 l.length c1).ownBlock = some g → w.heap.size + 1 ≤ g := fun g e => (own_ge3 HO2.out g e).1
          have KB : ∀ k, k ≤ w.heap.size → w3.heap[k]? = W2.heap[k]? := fun k hk => by
            have hk2 : k < W2.heap.size := by have := S2.out; have := HB1.out.size; omega
            rw [hgrow.block k (by simp; omega) (fun e => by have := vb k e.symm; omega)]
            exact Below.heap_alloc _ _ _ hk2
          have RG3 : Hid (w3.ranges Tryz.prog 110 (plainElem Tryz.prog 3) bm w.heap.size N D (fun z => left z && !z.sameKey (klL u v)) cnt1) := hid (ranges_same RG2.out (KB bm (by omega)) (KB _ (Nat.le_refl _)))
          have HB3 : Hid (Below w.heap.size w w3) := hid ⟨hgrow.os.trans HB2.out.os, hgrow.tape.trans HB2.out.tape, hgrow.output.trans HB2.out.output, by have := hgrow.size; have := HB2.out.size; simp at *; omega, fun k hk => (KB k (by omega)).trans (HB2.out.block k hk)⟩
          have HO3 : Hid (w3.ownsRow (w.heap.size + 1) 46 3 v' (l ++ [(u, v, d)]).length (flat3 (l ++ [(u, v, d)]))) := hid (by
            rw [flat3_append, List.length_append]
            exact hown')
          have hl3 : (l ++ [(u, v, d)]).length = l.length + 1 := by simp
          have hl3b : (l ++ [(u, v, d)]).length + cnt1 ≤ Maps.size D := by omega
          clear hown' hgrow vb KB hW2 hl3
          go_wp2_with fail
          go_roundw
          case rel => exact ⟨_, cnt1, l ++ [(u, v, d)], RG3, HO3, hl3b, HLH2, HC2, HB3⟩
          case measure => rw [RG3.out.left_eq, LE.out]; exact RL.out
        · have dud : decide ((u : Int) < (d : Int)) = false := by simp; omega
          have HC2 := hid (HC.out.skip hu hv hd (by omega))
          clear hkey hlk hc hat hrg1 hg1 hs1 hclt
          go_wp2_with fail
          rw [← hW2]
          clear hW2
          go_roundw
          case rel => exact ⟨_, cnt1, l, RG2, HO2, by omega, HLH2, HC2, HB2⟩
          case measure => rw [RG2.out.left_eq, LE.out]; exact RL.out
      · have duv : decide ((u : Int) < (v : Int)) = false := by simp; omega
        have HC2 := hid (HC.out.skip hu hv hd (by omega))
        clear hkey hlk hc hat hrg1 hg1 hs1 hclt
        go_wp2_with fail
        rw [← hW2]
        clear hW2
        go_roundw
        case rel => exact ⟨_, cnt1, l, RG2, HO2, by omega, HLH2, HC2, HB2⟩
        case measure => rw [RG2.out.left_eq, LE.out]; exact RL.out
end Go.Proofs.YtdbebbbceeopaaaGreat

set_option linter.unusedSimpArgs false
namespace Go.Proofs.YtdbebbbceeopaaaGreat
open Go.RowKit Go.Maps
open Go.Sort (SortedIn)
open Geo (Mesh Cor Quad flipM Sd bad lift Inj)

set_option maxHeartbeats 1000000 in
theorem allJoin_nil (a : Option Addr) (n cap : Nat) (w : World) :
    Calls Tryz.prog 69 #[.slice a n cap, .slice none 0 0] w fun e w' => e = .returned (.bool true) ∧ w' = w := by
  go_enter Tryz.func69, Tryz.ntmps69
  go_wp2
  refine wp_loop_rounds 1 ?_
  rw [rounds_succ]
  go_wp2
  go_ret
  exact ⟨rfl, rfl⟩

set_option maxHeartbeats 1000000 in
theorem inWay_nil (a : Option Addr) (n cap : Nat) (w : World) :
    Calls Tryz.prog 70 #[.slice a n cap, .slice none 0 0] w fun e w' => e = .returned (.bool false) ∧ Below w.heap.size w w' := by
  go_enter Tryz.func70, Tryz.ntmps70
  go_wp2
  refine wp_loop_rounds 1 ?_
  rw [rounds_succ]
  go_wp2
  go_ret
  exact ⟨rfl, (Below.refl _ _).alloc (Nat.le_refl _) _⟩

set_option maxHeartbeats 1000000 in
theorem lineRef_nil (px py : Nat → Int) (n qb qo cap : Nat) (w : World) (hp : Pts w qb qo n px py) (hn : n ≤ 40) (hbd : ∀ i, i < n → (-1000 ≤ px i ∧ px i ≤ 1000) ∧ (-1000 ≤ py i ∧ py i ≤ 1000)) :
    Calls Tryz.prog 40 #[.slice (some ⟨qb, qo, none⟩) n cap, .slice none 0 0] w fun e w' => e = .returned (.int .i64 0) ∧ Below w.heap.size w w' := by
  have C1 := hid (allJoin_nil (some ⟨qb, qo, none⟩) n cap w)
  have C2 := hid (places_any px py n qb qo cap w hp hn hbd)
  have C3 := hid (fun W => inWay_nil (some ⟨w.heap.size, 0, none⟩) n n W)
  clear hp hbd
  go_enter Tryz.func40, Tryz.ntmps40
  go_wp2_with fail
  refine C1.out.mono ?_
  rintro e w1 ⟨rfl, rfl⟩
  go_wp2_with fail
  refine C2.out.mono ?_
  rintro e w2 ⟨rfl, hb2, _⟩
  have HB2 := hid hb2
  clear hb2
  go_wp2_with fail
  refine (C3.out w2).mono ?_
  rintro e w3 ⟨rfl, hb3⟩
  have HB3 := hid (HB2.out.trans (hb3.mono HB2.out.size))
  clear hb3
  go_wp2_with fail
  go_ret
  exact ⟨rfl, HB3.out⟩

theorem sum_flip {px py : Nat → Int} {n : Nat} {M : Nat → Nat → Option Nat} {a b c d : Nat} (hm : Mesh px py n M) (q : Quad px py M a b c d) : Sd n (flipM M a b c d) (fun u v _ => Geo.c2 px py u v) = Sd n M (fun u v _ => Geo.c2 px py u v) := by
  have h1 := are_c2 (hm.flipQ q)
  have h2 := are_c2 hm
  have h3 := Geo.flip_Are hm q
  omega

/-- What comes of points: a mesh of them as round as can be, its triangles in order. -/
structure Msh (px py : Nat → Int) (n : Nat) (M : Nat → Nat → Option Nat) (hs : List Nat) : Prop where
  mesh : Mesh px py n M
  cor : Cor n M
  sum : Sd n M (fun u v _ => Geo.c2 px py u v) = fanI px py hs (hs.length - 2)
  hull : Geo.IsHull px py n hs
  hl : ∀ y ∈ hs, y < n
  hlen : hs.length ≤ 40
  h3 : 3 ≤ hs.length
  ord : ∃ os : List Nat, (3 ≤ os.length ∧ os.Pairwise (Geo.Lt Geo.Lex px py) ∧ ∀ p, p ∈ os ↔ p < n) ∧ hs = hullOf (T px py) os ∧ Geo.Reach px py n (mesh0 px py os) M

theorem getD_mem {h : List Nat} {y : Nat} (hy : y ∈ h) : ∃ i, i < h.length ∧ h.getD i 0 = y := by
  obtain ⟨i, hi, rfl⟩ := List.getElem_of_mem hy
  exact ⟨i, hi, by simp [List.getD_eq_getElem?_getD, hi]⟩

theorem hull_len {px py : Nat → Int} {n : Nat} {h : List Nat} (H : Geo.IsHull px py n h) : h.length ≤ n := by
  have hnd : h.Nodup := by
    rw [List.nodup_iff_pairwise_ne, List.pairwise_iff_getElem]
    intro i j hi hj hij
    have := H.inj i j hij hj
    simpa [List.getD_eq_getElem?_getD, hi, hj] using this
  have := Geo.sub_len h (List.range n) hnd (fun y hy => by
    obtain ⟨i, hi, rfl⟩ := getD_mem hy
    exact List.mem_range.2 (H.lt i hi))
  simpa using this

theorem ord0 {px py : Nat → Int} {n : Nat} [NeZero n] {d : Array (Fin n)} (h3 : 3 ≤ n) (hr : refI px py n = 0) (hd : d.size = n) (hp : d.toList.Perm (List.finRange n)) (hs : SortedIn (ltOf (cfI px py)) 0 n d) : 3 ≤ (nums d).length ∧ (nums d).Pairwise (Geo.Lt Geo.Lex px py) ∧ ∀ p, p ∈ nums d ↔ p < n :=
  ⟨by rw [nums_len, hd]; exact h3, nums_sorted hd hp hs (refI_ne hr), nums_mem hp⟩

theorem msh0 {px py : Nat → Int} {n : Nat} [NeZero n] {d : Array (Fin n)} (h3 : 3 ≤ n) (hn : n ≤ 40) (hr : refI px py n = 0) (hd : d.size = n) (hp : d.toList.Perm (List.finRange n)) (hs : SortedIn (ltOf (cfI px py)) 0 n d) : Msh px py n (mesh0 px py (nums d)) (hullOf (T px py) (nums d)) := by
  have hne := refI_ne hr
  have hw := refI_wide h3 hr
  have H := hullOf_isHull h3 hd hp hs hne hw
  obtain ⟨i, hi, hT⟩ := hw
  have hmem := nums_mem hp
  have wide : Geo.Wide px py (nums d) := ⟨0, (hmem 0).2 (by omega), 1, (hmem 1).2 (by omega), i, (hmem i).2 hi, hT⟩
  have h := mesh0_ok (n := n) (os := nums d) (by rw [nums_len, hd]; exact h3) (nums_sorted hd hp hs hne) hmem wide
  exact ⟨h.1, h.2.1, h.2.2, H, (fun y hy => by obtain ⟨j, hj, rfl⟩ := getD_mem hy; exact H.lt j hj), by have := hull_len H; omega, H.len, ⟨nums d, ord0 h3 hr hd hp hs, rfl, .refl⟩⟩

theorem one_tri {px py : Nat → Int} {n : Nat} {M : Nat → Nat → Option Nat} (hm : Mesh px py n M) (hc : Cor n M) (h1 : 0 < n) : ∃ a b c, M a b = some c ∧ a < b ∧ a < c := by
  obtain ⟨x, y, e⟩ := hc 0 h1
  have e2 := hm.cyc _ _ _ e
  have e3 := hm.cyc _ _ _ e2
  rcases least hm e with k | k | k
  · exact ⟨_, _, _, e, k.1, k.2⟩
  · exact ⟨_, _, _, e2, k.1, k.2⟩
  · exact ⟨_, _, _, e3, k.1, k.2⟩

theorem loc_of {px py : Nat → Int} {M : Nat → Nat → Option Nat} (h : ∀ u v, bad px py (okL []) (lift px py) M u v = false) : Geo.Loc px py M := by
  intro a b c d e1 e2
  rcases Int.lt_or_le 0 (Geo.Wn px py a b c d) with k | k
  · have hb := Geo.bad_of (px := px) (py := py) (ok := okL []) (h := lift px py) (u := a) (v := b) rfl e1 e2 (by rw [Geo.Wg_lift]; exact k)
    rw [h a b] at hb
    cases hb
  · exact k

set_option maxRecDepth 100000 in
set_option maxHeartbeats 2000000 in
theorem bound_ok (px py : Nat → Int) (n : Nat) [NeZero n] (qb qo cap : Nat) (w : World) (hp : Pts w qb qo n px py) (h3 : 3 ≤ n) (hn : n ≤ 40) (hcap : n ≤ cap) (hr : refI px py n = 0) :
    Calls Tryz.prog 25 #[.slice (some ⟨qb, qo, none⟩) n cap, .slice none 0 0] w fun e w' => Below w.heap.size w w' ∧ ∃ (g cp : Nat) (d : Array T3) (M : Nat → Nat → Option Nat) (hs : List Nat), e = .returned (.tuple #[.slice (some ⟨g, 0, none⟩) d.size cp, .int .i64 0]) ∧ w.heap.size ≤ g ∧ d.size ≤ 1600 ∧ w'.ownsRow w.heap.size 46 3 (.slice (some ⟨g, 0, none⟩) d.size cp) d.size (flat3 d.toList) ∧ Tris M d ∧ Msh px py n M hs ∧ Geo.Loc px py M := by
  have c1 := refusal_any px py n qb qo cap w hp h3 hn hcap
  rw [hr] at c1
  have C1 := hid c1
  have HP := hid hp
  have hA : allB px py n = true := by
    cases h : allB px py n with
    | true => rfl
    | false => simp [refI, h] at hr
  have hbd : ∀ i, i < n → (-1000 ≤ px i ∧ px i ≤ 1000) ∧ (-1000 ≤ py i ∧ py i ≤ 1000) := by
    intro i hi
    have := (allB_iff px py n).1 hA i hi
    exact ⟨(near_iff _).1 this.1, (near_iff _).1 this.2⟩
  have HBD := hid hbd
  have HRR := hid hr
  clear hp c1 hr hA hbd
  go_enter Tryz.func25, Tryz.ntmps25
  go_wp2_with fail
  refine C1.out.mono ?_
  rintro e w1 ⟨rfl, hb1⟩
  have c2 := hid (lineRef_nil px py n qb qo cap w1 (HP.out.below hb1 HP.out.lt) hn HBD.out)
  have HB1 := hid hb1
  clear C1 hb1
  go_wp2_with fail
  refine c2.out.mono ?_
  rintro e w2 ⟨rfl, hb2⟩
  have HB2 := hid (HB1.out.trans (hb2.mono HB1.out.size))
  have c3 := hid (places_any px py n qb qo cap w2 (HP.out.below HB2.out HP.out.lt) hn HBD.out)
  clear c2 hb2 HB1
  go_wp2_with fail
  refine c3.out.mono ?_
  rintro e w3 ⟨rfl, hb3, hp3⟩
  have HB3 := hid (HB2.out.trans (hb3.mono HB2.out.size))
  have c4 := hid (new_any px py n w2.heap.size 0 n w3 hp3 hn)
  clear c3 hb3 hp3
  go_wp2_with fail
  refine c4.out.mono ?_
  rintro e w4 ⟨mb, bm, rfl, hmb, hbm, hb4, dd, hdd, hperm, hsort, hM4⟩
  have HB4 := hid (HB3.out.trans (hb4.mono HB3.out.size))
  have MS := hid (msh0 h3 hn HRR.out hdd hperm hsort)
  have OD := hid (ord0 h3 HRR.out hdd hperm hsort)
  have c5 := hid (draw_nil mb w4)
  have HM4 := hid hM4
  have HMB := hid (And.intro hmb hbm)
  clear c4 hb4 hM4 hperm hsort hdd hmb hbm
  go_wp2_with fail
  refine c5.out.mono ?_
  rintro e w5 ⟨rfl, hb5⟩
  have HB5 := hid (HB4.out.trans (hb5.mono HB4.out.size))
  have HM5 := hid (HM4.out.below hb5)
  have c6 := hid (round_any mb bm w2.heap.size 0 n n px py _ (.slice none 0 0) [] (fun M => Sd n M (fun u v _ => Geo.c2 px py u v) = fanI px py (hullOf (T px py) (nums dd)) ((hullOf (T px py) (nums dd)).length - 2) ∧ Geo.Reach px py n (mesh0 px py (nums dd)) M) w5 hn (HM5.out.tight MS.out.mesh hn) (by simp) MS.out.mesh MS.out.cor ⟨MS.out.sum, .refl⟩ (fun M a b c d hm q _ hk => ⟨by rw [sum_flip hm q]; exact hk.1, .flip hk.2 hm q⟩))
  clear c5 hb5
  go_wp2_with fail
  refine c6.out.mono ?_
  rintro e w6 ⟨rfl, hg6, M, hM6, hm6, hc6, hk6, hbad⟩
  have HB6 := hid (HB5.out.grown hg6 HB5.out.size (fun k e => by have := Option.some.inj e; have := HMB.out.2; have := HB3.out.size; omega))
  have c7 := hid (trianglesM_any mb bm 1600 w2.heap.size 0 n n px py M (.slice none 0 0) [] w6 hM6 (Nat.le_refl _) (fun a b c e => ⟨(hm6.lts e).1, (hm6.lts e).2.1⟩) hn (one_tri hm6 hc6 (by omega)))
  have MS6 : Hid (Msh px py n M (hullOf (T px py) (nums dd))) := hid ⟨hm6, hc6, hk6.1, MS.out.hull, MS.out.hl, MS.out.hlen, MS.out.h3, ⟨nums dd, OD.out, rfl, hk6.2⟩⟩
  have LC := hid (loc_of hbad)
  clear c6 hg6 hM6 hm6 hc6 hk6 hbad
  go_wp2_with fail
  refine c7.out.mono ?_
  rintro e w7 ⟨hb7, g, cp, d, rfl, hg7, hd7, ho7, ht7⟩
  have HB7 := hid (HB6.out.trans (hb7.mono HB6.out.size))
  have HO7 : Hid (w7.ownsRow w.heap.size 46 3 (.slice (some ⟨g, 0, none⟩) d.size cp) d.size (flat3 d.toList)) := hid ⟨ho7.1, by
    rcases ho7.2 with h2 | ⟨g', cap', cur, k1, k2, k3⟩
    · exact .inl h2
    · exact .inr ⟨g', cap', cur, k1, Nat.le_trans HB6.out.size k2, k3⟩⟩
  have HG7 := hid (Nat.le_trans HB6.out.size hg7)
  have HT7 := hid ht7
  have HD7 := hid hd7
  clear c7 hb7 hg7 hd7 ho7 ht7
  go_wp2_with fail
  go_ret2
  exact ⟨HB7.out, g, cp, d, M, _, rfl, HG7.out, HD7.out, HO7.out, HT7.out, MS6.out, LC.out⟩

set_option maxRecDepth 100000 in
set_option maxHeartbeats 2000000 in
theorem triangles_ok (px py : Nat → Int) (n : Nat) [NeZero n] (qb qo cap : Nat) (w : World) (hp : Pts w qb qo n px py) (h3 : 3 ≤ n) (hn : n ≤ 40) (hcap : n ≤ cap) (hr : refI px py n = 0) :
    Calls Tryz.prog 15 #[.slice (some ⟨qb, qo, none⟩) n cap] w fun e w' => Below w.heap.size w w' ∧ ∃ (g cp : Nat) (d : Array T3) (M : Nat → Nat → Option Nat) (hs : List Nat), e = .returned (.tuple #[.slice (some ⟨g, 0, none⟩) d.size cp, .int .i64 0]) ∧ w.heap.size ≤ g ∧ d.size ≤ 1600 ∧ w'.ownsRow w.heap.size 46 3 (.slice (some ⟨g, 0, none⟩) d.size cp) d.size (flat3 d.toList) ∧ Tris M d ∧ Msh px py n M hs ∧ Geo.Loc px py M := by
  have C := hid (bound_ok px py n qb qo cap w hp h3 hn hcap hr)
  clear hp hr
  go_enter Tryz.func15, Tryz.ntmps15
  go_wp2_with fail
  refine C.out.mono ?_
  rintro e w1 ⟨hb, g, cp, d, M, hs, rfl, h⟩
  have H := hid h
  have HB := hid hb
  clear h hb
  go_wp2_with fail
  go_ret2
  exact ⟨HB.out, g, cp, d, M, hs, rfl, H.out⟩

set_option maxHeartbeats 1000000 in
theorem triangles_err {arg : Value} {w : World} {x : Int} (hx : x ≠ 0) (hc : Calls Tryz.prog 33 #[arg] w fun e w' => e = .returned (.int .i64 x) ∧ Below w.heap.size w w') :
    Calls Tryz.prog 15 #[arg] w fun e w' => e = .returned (.tuple #[.slice none 0 0, .int .i64 x]) ∧ Below w.heap.size w w' := by
  have C := hid hc
  have d : (x != 0) = true := by simpa using hx
  have B : Hid (Calls Tryz.prog 25 #[arg, .slice none 0 0] w fun e w' => e = .returned (.tuple #[.slice none 0 0, .int .i64 x]) ∧ Below w.heap.size w w') := hid (by
    clear hc hx
    go_enter Tryz.func25, Tryz.ntmps25
    go_wp2_with fail
    refine C.out.mono ?_
    rintro e w1 ⟨rfl, hb⟩
    have HB := hid hb
    clear hb
    go_wp2_with fail
    go_ret2
    exact ⟨rfl, HB.out⟩)
  clear hc hx C d
  go_enter Tryz.func15, Tryz.ntmps15
  go_wp2_with fail
  refine B.out.mono ?_
  rintro e w1 ⟨rfl, hb⟩
  have HB := hid hb
  clear hb
  go_wp2_with fail
  go_ret2
  exact ⟨rfl, HB.out⟩
end Go.Proofs.YtdbebbbceeopaaaGreat

set_option linter.unusedSimpArgs false
namespace Go.Proofs.YtdbebbbceeopaaaGreat
open Geo
variable {px py : Nat → Int} {n m : Nat} {M : Nat → Nat → Option Nat} {A B C : Nat → Nat}

theorem Lists.count (h : Lists M m A B C) (hm : Mesh px py n M) : (m : Int) * 3 = Sd n M (fun _ _ _ => 1) := by
  have e1 : Sd n M (fun _ _ _ => 1) = Sd n M (Kc fun _ _ _ => 1) + Sd n M (fun u v w => Kc (fun _ _ _ => 1) v w u) + Sd n M (fun u v w => Kc (fun _ _ _ => 1) w u v) := by
    unfold Sd
    rw [← sm2_add, ← sm2_add]
    refine sm2_congr fun u v _ _ => ?_
    cases e : M u v with
    | none => rfl
    | some w =>
      simp only [el_some, Kc]
      rcases least hm e with k | k | k
      · rw [if_pos k, if_neg (by omega), if_neg (by omega)]; omega
      · rw [if_neg (by omega), if_pos k, if_neg (by omega)]; omega
      · rw [if_neg (by omega), if_neg (by omega), if_pos k]; omega
  have r1 : Sd n M (Kc fun _ _ _ => 1) = Sd n M (fun u v w => Kc (fun _ _ _ => 1) v w u) := rotS hm _
  have r2 : Sd n M (fun u v w => Kc (fun _ _ _ => 1) v w u) = Sd n M (fun u v w => Kc (fun _ _ _ => 1) w u v) := rotS hm _
  have e2 : Sd n M (Kc fun _ _ _ => 1) = (m : Int) := by
    have d := sm2_diff (n := n) ((List.range m).map fun j => (A j, B j)) (fun u v => el (M u v) fun w => Kc (fun _ _ _ => 1) u v w) (fun _ _ => 0) (by
        refine List.nodup_iff_pairwise_ne.2 (List.pairwise_map.2 (List.pairwise_iff_getElem.2 fun i j hi hj hij => ?_))
        simp at hi hj
        simp only [List.getElem_range, ne_eq, Prod.mk.injEq, not_and]
        intro k1 k2
        have t1 := (h.tri i hi).1
        have t2 := (h.tri j hj).1
        rw [k1, k2, t2] at t1
        have := h.inj hi hj k1 k2 (Option.some.inj t1).symm
        omega) (by
        intro k hk
        obtain ⟨j, hj, rfl⟩ := List.mem_map.1 hk
        have := hm.lts (h.tri j (List.mem_range.1 hj)).1
        exact ⟨this.1, this.2.1⟩) (by
        intro u v _ _ hn
        cases e : M u v with
        | none => rfl
        | some w =>
          simp only [el_some, Kc]
          rw [if_neg]
          intro k
          obtain ⟨i, hi, e1, e2, _⟩ := h.all u v w e k.1 k.2
          exact hn (List.mem_map.2 ⟨i, List.mem_range.2 hi, by rw [e1, e2]⟩))
    have z0 : sm2 n (fun _ _ => (0 : Int)) = 0 := by
      have : sm2 n (fun _ _ => (0 : Int)) = sm n (fun _ => 0) := sm_congr fun _ _ => sm_zero n
      rw [this, sm_zero]
    unfold Sd
    rw [d, z0, List.map_map, Int.zero_add]
    have e : (List.range m).map ((fun k : Nat × Nat => el (M k.1 k.2) (fun w => Kc (fun _ _ _ => 1) k.1 k.2 w) - 0) ∘ fun j => (A j, B j)) = (List.range m).map fun _ => (1 : Int) := by
      refine List.map_congr_left fun j hj => ?_
      have t := h.tri j (List.mem_range.1 hj)
      simp only [Function.comp, t.1, el_some, Kc]
      rw [if_pos t.2]
      omega
    rw [e]
    clear e d z0 h
    induction m with
    | zero => rfl
    | succ m ih => rw [List.range_succ, List.map_append, List.sum_append, ih]; simp
  omega


theorem refI_Wide (h3 : 3 ≤ n) (hr : refI px py n = 0) {os : List Nat} (hn : ∀ p, p ∈ os ↔ p < n) : Wide px py os := by
  obtain ⟨i, hi, hT⟩ := refI_wide h3 hr
  exact ⟨0, (hn 0).2 (by omega), 1, (hn 1).2 (by omega), i, (hn i).2 hi, hT⟩

/-- How many triangles there are. -/
theorem Msh.count {hs : List Nat} (h : Msh px py n M hs) (h3 : 3 ≤ n) (hr : refI px py n = 0) (hj : Inj px py n) (hl : Lists M m A B C) : (m : Int) = 2 * n - bdc px py n - 2 := by
  obtain ⟨os, ⟨o3, op, om⟩, rfl, hre⟩ := h.ord
  have hw := refI_Wide h3 hr om
  obtain ⟨s1, q1, s2, q2, R⟩ := ring0 o3 op om hw
  have m0 := mesh0_ok o3 op om hw
  have b := R.bdc m0.1 hj m0.2.1 om hw
  have c := R.cnt
  have rc := reach_cnt hre
  have lc := hl.count h.mesh
  have len := ord_len op om
  omega

end Go.Proofs.YtdbebbbceeopaaaGreat

set_option linter.unusedSimpArgs false
namespace Go.Proofs.YtdbebbbceeopaaaGreat
open Geo
variable {px py : Nat → Int} {n : Nat}

theorem bdc_shift (x y : Int) : bdc (fun i => px i + x) (fun i => py i + y) n = bdc px py n := by
  have e : ∀ i, Bdr (fun i => px i + x) (fun i => py i + y) n i = Bdr px py n i := fun i => by
    unfold Bdr
    simp only [T_shift]
  unfold bdc
  exact sm_congr fun i _ => by rw [e]

theorem bdr_rev {i : Nat} : Bdr (fun i => px (rv n i)) (fun i => py (rv n i)) n i ↔ Bdr px py n (rv n i) := by
  constructor
  · rintro ⟨a, b, ha, hb, hne, h, h0⟩
    refine ⟨rv n a, rv n b, rv_lt ha, rv_lt hb, fun e => hne ?_, fun p hp => ?_, h0⟩
    · rw [← rv_rv ha, e, rv_rv hb]
    · have := h (rv n p) (rv_lt hp)
      unfold T at this ⊢
      simp only [rv_rv hp] at this
      exact this
  · rintro ⟨a, b, ha, hb, hne, h, h0⟩
    refine ⟨rv n a, rv n b, rv_lt ha, rv_lt hb, fun e => hne ?_, fun p hp => ?_, ?_⟩
    · rw [← rv_rv ha, e, rv_rv hb]
    · have := h (rv n p) (rv_lt hp)
      unfold T at this ⊢
      simp only [rv_rv ha, rv_rv hb]
      exact this
    · unfold T at h0 ⊢
      simp only [rv_rv ha, rv_rv hb]
      exact h0

open Classical in
theorem bdc_rev : bdc (fun i => px (rv n i)) (fun i => py (rv n i)) n = bdc px py n := by
  unfold bdc
  rw [← sm_rev (fun i => if Bdr px py n i then 1 else 0) n]
  exact sm_congr fun i _ => by
    have e : Bdr (fun i => px (rv n i)) (fun i => py (rv n i)) n i = Bdr px py n (n - 1 - i) := propext bdr_rev
    rw [e]

/-- Is a side of a mesh one between two points? -/
def Joined (M : Nat → Nat → Option Nat) (i k : Nat) : Prop := M i k ≠ none ∨ M k i ≠ none

theorem joined_same {M M' : Nat → Nat → Option Nat} (h : Mesh px py n M) (hi : Inj px py n) (hc : Cor n M) (hl : Geo.Loc px py M) (h' : Mesh px py n M') (hc' : Cor n M') (hl' : Geo.Loc px py M') (hf : Free px py n) (i k : Nat) : Joined M i k ↔ Joined M' i k := by
  have key : ∀ {M M' : Nat → Nat → Option Nat}, Mesh px py n M → Cor n M → Geo.Loc px py M → Mesh px py n M' → Cor n M' → Geo.Loc px py M' → ∀ i k, M i k ≠ none → Joined M' i k := by
    intro M M' h hc hl h' hc' hl' i k g
    cases e : M i k with
    | none => exact absurd e g
    | some z =>
      rcases same_sides h hi hc hl h' hc' hl' hf e with ⟨c, q⟩ | ⟨c, q⟩
      · exact .inl (by rw [q]; simp)
      · exact .inr (by rw [q]; simp)
  constructor
  · rintro (g | g)
    · exact key h hc hl h' hc' hl' i k g
    · exact (key h hc hl h' hc' hl' k i g).symm
  · rintro (g | g)
    · exact key h' hc' hl' h hc hl i k g
    · exact (key h' hc' hl' h hc hl k i g).symm

theorem joined_rev {M : Nat → Nat → Option Nat} {i k : Nat} (hi : i < n) (hk : k < n) : Joined (revM n M) i k ↔ Joined M (rv n i) (rv n k) := by
  unfold Joined
  rw [Ne, Ne, Ne, Ne, revM_none hi hk, revM_none hk hi]

end Go.Proofs.YtdbebbbceeopaaaGreat

set_option linter.unusedSimpArgs false
namespace Go.Proofs.YtdbebbbceeopaaaGreat
open Go.RowKit Go.Maps
open Geo (up bad Wg Mesh Cor Quad flipM Inj)

theorem crossB_symm1 (px py : Nat → Int) (i j u v : Nat) : crossB px py i j u v = crossB px py j i u v := by
  have e1 : T px py j i u = - T px py i j u := Geo.T_swap _ _ _
  have e2 : T px py j i v = - T px py i j v := Geo.T_swap _ _ _
  have e3 : T px py u v j * T px py u v i = T px py u v i * T px py u v j := Int.mul_comm _ _
  unfold crossB
  rw [e1, e2, e3, Int.neg_mul_neg]

theorem crossB_pair (px py : Nat → Int) (i j u v : Nat) : crossB px py i j u v = crossB px py u v i j := by
  unfold crossB
  rw [Bool.and_comm]

theorem crossB_self (px py : Nat → Int) (i j : Nat) : crossB px py i j i j = false := by
  unfold crossB
  rw [Geo.T_one, Int.zero_mul]
  rfl

theorem up_is (u v : Nat) : up u v = (u, v) ∨ up u v = (v, u) := by
  unfold up
  rcases Nat.le_total u v with h | h
  · left; rw [Nat.min_eq_left h, Nat.max_eq_right h]
  · right; rw [Nat.min_eq_right h, Nat.max_eq_left h]

theorem crossB_up (px py : Nat → Int) (i j u v : Nat) : crossB px py (up i j).1 (up i j).2 (up u v).1 (up u v).2 = crossB px py i j u v := by
  rcases up_is i j with h | h <;> rcases up_is u v with k | k <;> rw [h, k] <;> dsimp only
  · rw [crossB_symm]
  · rw [crossB_symm1]
  · rw [crossB_symm, crossB_symm1]

theorem betwB_symm (px py : Nat → Int) (i j p : Nat) : betwB px py i j p = betwB px py j i p := by
  have e1 : T px py j i p = - T px py i j p := Geo.T_swap _ _ _
  have e2 : Geo.dt px py p j i = Geo.dt px py p i j := by unfold Geo.dt; rw [Int.mul_comm (px j - px p), Int.mul_comm (py j - py p)]
  unfold betwB
  rw [e1, e2]
  have : decide (- T px py i j p = 0) = decide (T px py i j p = 0) := by
    by_cases h : T px py i j p = 0
    · rw [h]; rfl
    · rw [decide_eq_false h, decide_eq_false (by omega)]
  rw [this]

theorem betwB_up (px py : Nat → Int) (i j p : Nat) : betwB px py (up i j).1 (up i j).2 p = betwB px py i j p := by
  rcases up_is i j with h | h <;> rw [h] <;> dsimp only
  exact (betwB_symm px py i j p).symm

theorem joined_flip {M : Nat → Nat → Option Nat} {a b c d u v : Nat} (h : Joined M u v) (n1 : ¬ (u = a ∧ v = b)) (n2 : ¬ (u = b ∧ v = a)) : Joined (flipM M a b c d) u v := by
  have key : ∀ u v, ¬ (u = a ∧ v = b) → ¬ (u = b ∧ v = a) → M u v ≠ none → flipM M a b c d u v ≠ none := by
    intro u v k1 k2 k
    unfold flipM
    rw [if_neg (by rintro (h | h); exact k1 h; exact k2 h)]
    (repeat' split) <;> first | exact k | simp
  rcases h with h | h
  · exact .inl (key u v n1 n2 h)
  · exact .inr (key v u (fun k => n2 ⟨k.2, k.1⟩) (fun k => n1 ⟨k.2, k.1⟩) h)

/-- A line with nothing in its way is a side, once nothing is to be turned over any more. -/
theorem drawn {px py : Nat → Int} {n : Nat} {M : Nat → Nat → Option Nat} (h : Mesh px py n M) (hi : Inj px py n) (hc : Cor n M) {i j : Nat} (h1 : i < n) (h2 : j < n) (hne : i ≠ j) (hb : ∀ p, p < n → betwB px py i j p = false) (hbad : ∀ u v, bad px py (crossB px py i j) (away px py i j) M u v = false) : Joined M i j := by
  have hl := h.line hi hc h1 h2 hne (fun d hd h0 hlt => by
    have := hb d hd
    unfold betwB at this
    rw [decide_eq_true h0, decide_eq_true hlt] at this
    cases this) (fun a b c d e1 e2 t1 t2 t3 t4 => by
    have hx : crossB px py i j a b = true := by
      unfold crossB
      rw [decide_eq_true (Int.mul_neg_of_neg_of_pos t1 t2), decide_eq_true (Int.mul_neg_of_pos_of_neg t3 t4)]
      rfl
    have := hbad a b
    rw [bad_some e1 e2, hx] at this
    have k : ¬ 0 < Wg px py (away px py i j) a b c d := by
      intro k
      rw [decide_eq_true k] at this
      cases this
    exact Int.not_lt.1 k)
  rcases hl with ⟨c, e⟩ | ⟨c, e⟩
  · exact .inl (by rw [e]; simp)
  · exact .inr (by rw [e]; simp)

/-- Lines that may be drawn. -/
structure Lok (px py : Nat → Int) (n : Nat) (xs : List (Nat × Nat)) : Prop where
  lt : ∀ x ∈ xs, x.1 < n ∧ x.2 < n ∧ x.1 ≠ x.2
  cross : ∀ x ∈ xs, ∀ y ∈ xs, crossB px py x.1 x.2 y.1 y.2 = false
  betw : ∀ x ∈ xs, ∀ p, p < n → betwB px py x.1 x.2 p = false

theorem MeshAt.same {w w' : World} {mb bm N pb po n cap : Nat} {px py : Nat → Int} {M : Nat → Nat → Option Nat} {lv : Value} {ls : List (Nat × Nat)} (h : MeshAt w mb bm N pb po n cap px py M lv ls) (hs : w.heap.size ≤ w'.heap.size) (e1 : w'.heap[mb]? = w.heap[mb]?) (e2 : w'.heap[bm]? = w.heap[bm]?) (e3 : w'.heap[pb]? = w.heap[pb]?) (e4 : ∀ q, lv.ownBlock = some q → w'.heap[q]? = w.heap[q]?) : MeshAt w' mb bm N pb po n cap px py M lv ls := by
  have c : ∀ o, w'.cell? ⟨mb, o, none⟩ = w.cell? ⟨mb, o, none⟩ := fun o => World.cell?_of_block (w := w) (a := ⟨mb, o, none⟩) e1
  refine ⟨(c 0).trans h.c0, (c 1).trans h.c1, (c 2).trans h.c2, (World.frozen?_of_block (w := w) (a := ⟨mb, 2, none⟩) e1).trans h.f2, ⟨h.ln.1, ?_⟩, h.nl, h.plc.ofBlock hs e3, h.map.ofBlock e2, h.ne, h.np⟩
  rcases h.ln.2 with k | ⟨g, cp, cur, k1, k2, k3, k4⟩
  · exact .inl k
  · exact .inr ⟨g, cp, cur, k1, k2, (e4 g (by rw [k1]; rfl)).trans k3, k4⟩

theorem Hp.same {w w' : World} {hb : Nat} {l : List (Nat × Nat)} (h : Hp w hb l) (e1 : w'.heap[hb]? = w.heap[hb]?) (e2 : ∀ q, Rw w hb q → w'.heap[q]? = w.heap[q]?) : Hp w' hb l := by
  obtain ⟨v, c, o⟩ := h.ex
  have c' := (World.cell?_of_block (w := w) (a := ⟨hb, 0, none⟩) e1).trans c
  refine Hp.of c' ⟨o.1, ?_⟩ ((World.frozen?_of_block (w := w) (a := ⟨hb, 0, none⟩) e1).trans h.fr) (h.ne v c)
  rcases o.2 with k | ⟨g, cp, cur, k1, k2, k3, k4⟩
  · exact .inl k
  · exact .inr ⟨g, cp, cur, k1, k2, (e2 g ⟨v, c, by rw [k1]; rfl⟩).trans k3, k4⟩

/-- What is known between two lines that are drawn: w is the world ahead of all. -/
structure Dw (w W : World) (hb mb bm pb po n cap : Nat) (px py : Nat → Int) (M0 M : Nat → Nat → Option Nat) (lv : Value) (ls l : List (Nat × Nat)) : Prop where
  hp : Hp W hb l
  me : MeshAt W mb bm 1600 pb po n cap px py M lv ls
  ap : ∀ q, lv.ownBlock = some q → w.heap.size ≤ q ∧ q ≠ hb ∧ ¬ Rw W hb q
  fr : Dm w W mb bm (.slice none 0 0) lv
  mesh : Mesh px py n M
  cor : Cor n M
  re : Geo.Reach px py n M0 M
  jo : ∀ x ∈ ls, Joined M x.1 x.2

theorem Dw.next {w W W' : World} {hb mb bm pb po n cap : Nat} {px py : Nat → Int} {M0 M : Nat → Nat → Option Nat} {lv : Value} {ls l l' : List (Nat × Nat)} (h : Dw w W hb mb bm pb po n cap px py M0 M lv ls l) (hhb : hb = w.heap.size + 1) (h1 : mb < w.heap.size) (h2 : bm < w.heap.size) (h3 : pb < w.heap.size) (hp' : Hp W' hb l') (hf : Fm W W' hb) : Dw w W' hb mb bm pb po n cap px py M0 M lv ls l' := by
  have rw' : ∀ q, Rw W hb q → w.heap.size ≤ q := by
    rintro q ⟨v, c, e⟩
    obtain ⟨v', c', o⟩ := h.hp.ex
    rw [c] at c'
    cases c'
    have := (own_geH o q e).1
    omega
  have sz := h.fr.size
  have old : ∀ q, q < w.heap.size → W'.heap[q]? = W.heap[q]? := fun q hq => hf.block q (by omega) (by omega) (fun k => by have := rw' q k; omega)
  have own := own_geH h.me.ln
  refine ⟨hp', h.me.same hf.size (old _ h1) (old _ h2) (old _ h3) (fun q e => hf.block q (own q e).2 (h.ap q e).2.1 (h.ap q e).2.2), fun q e => ⟨(h.ap q e).1, (h.ap q e).2.1, fun k => (h.ap q e).2.2 (hf.row q (own q e).2 k)⟩, ?_, h.mesh, h.cor, h.re, h.jo⟩
  exact ⟨hf.os.trans h.fr.os, hf.tape.trans h.fr.tape, hf.output.trans h.fr.output, Nat.le_trans sz hf.size, fun k hk k1 k2 k3 => (old k hk).trans (h.fr.block k hk k1 k2 k3), h.fr.row⟩

theorem Dw.draw {w W W' : World} {hb mb bm pb po n cap : Nat} {px py : Nat → Int} {M0 M M' : Nat → Nat → Option Nat} {lv lv' : Value} {ls l : List (Nat × Nat)} {x : Nat × Nat} (h : Dw w W hb mb bm pb po n cap px py M0 M lv ls l) (hhb : hb = w.heap.size + 1) (h1 : mb < w.heap.size) (h2 : bm < w.heap.size)
    (hM : MeshAt W' mb bm 1600 pb po n cap px py M' lv' (ls ++ [x])) (hd : Dm W W' mb bm lv lv') (hm : Mesh px py n M') (hc : Cor n M') (hr : Geo.Reach px py n M0 M') (hj : ∀ y ∈ ls, Joined M' y.1 y.2) (hx : Joined M' x.1 x.2) : Dw w W' hb mb bm pb po n cap px py M0 M' lv' (ls ++ [x]) l := by
  have rw' : ∀ q, Rw W hb q → w.heap.size ≤ q ∧ q < W.heap.size := by
    rintro q ⟨v, c, e⟩
    obtain ⟨v', c', o⟩ := h.hp.ex
    rw [c] at c'
    cases c'
    have := own_geH o q e
    omega
  have sz := h.fr.size
  have lhb := h.hp.lt
  have nhb : lv.ownBlock ≠ some hb := fun e => (h.ap hb e).2.1 rfl
  have ehb : W'.heap[hb]? = W.heap[hb]? := hd.block hb lhb (by omega) (by omega) nhb
  have own := own_geH hM.ln
  refine ⟨h.hp.same ehb (fun q k => hd.block q (rw' q k).2 (by have := (rw' q k).1; omega) (by have := (rw' q k).1; omega) (fun e => (h.ap q e).2.2 k)), hM, fun q e => ?_, ?_, hm, hc, hr, fun y hy => ?_⟩
  · rcases Nat.lt_or_ge q W.heap.size with k | k
    · have e' := hd.row q k e
      refine ⟨(h.ap q e').1, (h.ap q e').2.1, fun r => (h.ap q e').2.2 ?_⟩
      obtain ⟨v, c, e2⟩ := r
      exact ⟨v, (World.cell?_of_block (w := W) (a := ⟨hb, 0, none⟩) ehb).symm.trans c, e2⟩
    · refine ⟨by omega, by omega, fun r => ?_⟩
      obtain ⟨v, c, e2⟩ := r
      have := (rw' q ⟨v, (World.cell?_of_block (w := W) (a := ⟨hb, 0, none⟩) ehb).symm.trans c, e2⟩).2
      omega
  · refine ⟨hd.os.trans h.fr.os, hd.tape.trans h.fr.tape, hd.output.trans h.fr.output, Nat.le_trans sz hd.size, fun k hk k1 k2 k3 => (hd.block k (by omega) k1 k2 (fun e => by have := (h.ap k e).1; omega)).trans (h.fr.block k hk k1 k2 k3), fun k hk e => ?_⟩
    have e' := hd.row k (by omega) e
    have := (h.ap k e').1
    omega
  · rcases List.mem_append.1 hy with k | k
    · exact hj y k
    · simp at k; subst k; exact hx

end Go.Proofs.YtdbebbbceeopaaaGreat

set_option linter.unusedSimpArgs false
namespace Go.Proofs.YtdbebbbceeopaaaGreat
open Go.RowKit Go.Maps
open Geo (up bad Wg Mesh Cor Quad flipM Inj)

/-- A row of lines: two cells each. -/
def Lns (w : World) (a : Option Addr) (xs : List (Nat × Nat)) : Prop := xs = [] ∨ ∃ g o, a = some ⟨g, o, none⟩ ∧ g < w.heap.size ∧ ∀ i, (hi : i < xs.length) → w.cell? ⟨g, o + i * 2, none⟩ = some (.int .i64 (xs[i].1 : Nat)) ∧ w.cell? ⟨g, o + i * 2 + 1, none⟩ = some (.int .i64 (xs[i].2 : Nat))

theorem Lns.below {w w' : World} {a : Option Addr} {xs : List (Nat × Nat)} (h : Lns w a xs) (hb : Below w.heap.size w w') : Lns w' a xs := by
  rcases h with h | ⟨g, o, e, hg, hc⟩
  · exact .inl h
  · exact .inr ⟨g, o, e, Nat.lt_of_lt_of_le hg hb.size, fun i hi => ⟨(hb.cell (by exact hg)).trans (hc i hi).1, (hb.cell (by exact hg)).trans (hc i hi).2⟩⟩

set_option maxRecDepth 100000 in
set_option maxHeartbeats 8000000 in
theorem drawAll_any (mb bm pb po n cap lcap : Nat) (px py : Nat → Int) (M0 : Nat → Nat → Option Nat) (la : Option Addr) (xs : List (Nat × Nat)) (w : World) (hn : n ≤ 40) (hM : MeshAt w mb bm 1600 pb po n cap px py M0 (.slice none 0 0) []) (hm0 : Mesh px py n M0) (hc0 : Cor n M0) (hinj : Inj px py n) (hmp : mb ≠ pb)
    (hl : Lns w la xs) (hlen : xs.length ≤ 100) (hok : Lok px py n xs) :
    Calls Tryz.prog 42 #[.pointer (some ⟨mb, 0, none⟩), .slice la xs.length lcap] w fun e w' => e = .returned (.tuple #[]) ∧
      ∃ M lv ls, MeshAt w' mb bm 1600 pb po n cap px py M lv ls ∧ Dm w w' mb bm (.slice none 0 0) lv ∧ Mesh px py n M ∧ Cor n M ∧ Geo.Reach px py n M0 M ∧ ls.length ≤ 100 ∧ (∀ x ∈ ls, Joined M x.1 x.2) ∧ (∀ x ∈ xs, up x.1 x.2 ∈ ls) ∧ ∀ y ∈ ls, ∃ x ∈ xs, y = up x.1 x.2 := by
  obtain ⟨hb, hhb⟩ : ∃ hb, hb = w.heap.size + 1 := ⟨_, rfl⟩
  have HHB := hid hhb
  obtain ⟨W1, hW1⟩ : ∃ W1, W1 = (w.alloc (.cells #[] 110)).alloc (.cells #[.slice (some ⟨w.heap.size, 0, none⟩) 0 0] 107) := ⟨_, rfl⟩
  have B1 : Hid (Below w.heap.size w W1) := hid (by rw [hW1]; exact ((Below.refl _ _).alloc (Nat.le_refl _) _).alloc (by simp) _)
  have S1 : Hid (W1.heap.size = w.heap.size + 2) := hid (by rw [hW1]; simp)
  have G0 : Hid (W1.heap[w.heap.size]? = some (.cells #[] 110 (0, 0))) := hid (by
    rw [hW1]
    rw [Below.heap_alloc _ _ _ (by simp)]
    exact heap_new w (.cells #[] 110))
  have K1 : Hid (W1.heap[hb]? = some (.cells #[.slice (some ⟨w.heap.size, 0, none⟩) 0 0] 107 (0, 0))) := hid (by
    rw [hW1, HHB.out]
    have := heap_new (w.alloc (.cells #[] 110)) (.cells #[.slice (some ⟨w.heap.size, 0, none⟩) 0 0] 107)
    rw [size_new] at this
    exact this)
  have HP1 : Hid (Hp W1 hb []) := hid (Hp.of (heap_cell K1.out 0) ⟨rfl, .inr ⟨w.heap.size, 0, #[], rfl, by have := HHB.out; omega, G0.out, Nat.le_refl _, by unfold maxLen; omega, rfl, rfl⟩⟩ (heap_free K1.out 0) (by intro e; have h : w.heap.size = hb := Option.some.inj e; have := HHB.out; omega))
  have HM := hid hM
  have HL := hid hl
  have HOK := hid hok
  have m1 : mb < w.heap.size := World.block_lt_of_cell? w _ hM.c0
  have m2 : bm < w.heap.size := hM.map.lt
  have m3 : pb < w.heap.size := hM.plc.lt
  obtain ⟨k, hk⟩ : ∃ k, k = xs.length := ⟨_, rfl⟩
  have HK := hid hk
  rw [← hk] at hlen ⊢
  clear hM hl hok hk K1 G0
  go_enter Tryz.func42, Tryz.ntmps42
  go_wp2_with fail
  rw [← hW1, ← hhb]
  clear hW1 hhb
  go_loopw [11] (fun ix wr => ∃ (i : Nat) (l : List (Nat × Nat)), i ≤ k ∧ ix = .int .i64 i ∧ l.length = i ∧ Hid (Hp wr hb l) ∧ Hid (∀ y ∈ l, ∃ x ∈ xs, y = up x.1 x.2) ∧ Hid (∀ r, (hr : r < xs.length) → r < i → up xs[r].1 xs[r].2 ∈ l) ∧ Hid (Below w.heap.size w wr)) (fun ix _ => k - (intOf ix).toNat)
  case atStart => exact ⟨0, [], Nat.zero_le _, rfl, rfl, HP1, hid (fun y hy => by cases hy), hid (fun r _ hr => by omega), B1⟩
  case round =>
    obtain ⟨i, l, hi, rfl, hll, HP, HY, HX, HB⟩ := hrel
    clear HP1 B1
    by_cases hik : i < k
    · have hik' : (i : Int) < k := by omega
      have hix : i < xs.length := by rw [← HK.out]; exact hik
      obtain ⟨lg, lo, hla, hlg, hlc⟩ : ∃ lg lo, la = some ⟨lg, lo, none⟩ ∧ lg < w.heap.size ∧ (w.cell? ⟨lg, lo + i * 2, none⟩ = some (.int .i64 (xs[i].1 : Nat)) ∧ w.cell? ⟨lg, lo + i * 2 + 1, none⟩ = some (.int .i64 (xs[i].2 : Nat))) := by
        rcases HL.out with h | ⟨g, o, e, h1, h2⟩
        · rw [h] at hix; simp at hix
        · exact ⟨g, o, e, h1, h2 i hix⟩
      subst hla
      have xc := (HB.out.cell (p := ⟨lg, lo + i * 2, none⟩) hlg).trans hlc.1
      have yc := (HB.out.cell (p := ⟨lg, lo + i * 2 + 1, none⟩) hlg).trans hlc.2
      have HUP : Hid (∃ x ∈ xs, up xs[i].1 xs[i].2 = up x.1 x.2) := hid ⟨xs[i], List.getElem_mem hix, rfl⟩
      have HXI : Hid (∀ z, z = up xs[i].1 xs[i].2 → ∀ r, (hr : r < xs.length) → r < i + 1 → up xs[r].1 xs[r].2 ∈ z :: l) := hid (fun z hz r hr hri => by
        rcases Nat.lt_or_ge r i with q | q
        · exact List.mem_cons_of_mem _ (HX.out r hr q)
        · have : r = i := by omega
          subst this; rw [hz]; exact List.mem_cons_self)
      obtain ⟨u, hu⟩ : ∃ u, u = xs[i].1 := ⟨_, rfl⟩
      obtain ⟨v, hv⟩ : ∃ v, v = xs[i].2 := ⟨_, rfl⟩
      rw [← hu] at xc HUP HXI
      rw [← hv] at yc HUP HXI
      have HXJ := hid (HXI.out _ rfl)
      clear hu hv hlc HXI
      obtain ⟨W2, hW2⟩ : ∃ W2, W2 = wr.alloc (.cells #[.int .i64 (u : Nat), .int .i64 (v : Nat)] 54) := ⟨_, rfl⟩
      have B2 : Hid (Below wr.heap.size wr W2) := hid (by rw [hW2]; exact (Below.refl _ _).alloc (Nat.le_refl _) _)
      have HP2 := hid (HP.out.below B2.out (Nat.le_refl _))
      have WA := hid (wait_any hb u v l W2 HP2.out (by omega))
      have HB2 : Hid (Below w.heap.size w W2) := hid (HB.out.trans (B2.out.mono HB.out.size))
      have q1 : (0 : Int) ≤ (i : Int) := by omega
      go_wp2_with fail
      rw [← hW2]
      refine WA.out.mono ?_
      rintro e w3 ⟨rfl, ⟨l', hp3, hpm⟩, hf3⟩
      have HP3 := hid hp3
      have HB3 : Hid (Below w.heap.size w w3) := hid (HB2.out.trans (hf3.belowB HP2.out (by have := HHB.out; omega) HB2.out.size))
      have HY3 : Hid (∀ y ∈ l', ∃ x ∈ xs, y = up x.1 x.2) := hid (fun y hy => by
        rcases List.mem_cons.1 (hpm.mem_iff.1 hy) with rfl | hy
        · exact HUP.out
        · exact HY.out y hy)
      have HX3 : Hid (∀ r, (hr : r < xs.length) → r < i + 1 → up xs[r].1 xs[r].2 ∈ l') := hid (fun r hr hri => hpm.mem_iff.2 (HXJ.out r hr hri))
      have hl3 : l'.length = i + 1 := by rw [hpm.length_eq, List.length_cons, hll]
      clear hp3 hf3 hpm hW2 WA xc yc
      go_wp2_with fail
      go_roundw
      case rel => exact ⟨i + 1, l', by omega, by go_num, hl3, HP3, HY3, HX3, HB3⟩
      case measure => simp [intOf]; omega
    · have hii : k = i := by omega
      subst hii
      have HXX : Hid (∀ x ∈ xs, up x.1 x.2 ∈ l) := hid (fun x hx => by
        obtain ⟨r, hr, rfl⟩ := List.getElem_of_mem hx
        exact HX.out r hr (by rw [HK.out]; exact hr))
      have D0 : Hid (Dw w wr hb mb bm pb po n cap px py M0 M0 (.slice none 0 0) [] l) := hid ⟨HP.out, (HM.out.belowB HB.out m1 m2 m3 (fun g e => by cases e)), fun q e => (by cases e), ⟨HB.out.os, HB.out.tape, HB.out.output, HB.out.size, fun k hk _ _ _ => HB.out.block k hk, fun k hk e => e⟩, hm0, hc0, .refl, fun x hx => by cases hx⟩
      clear HX HP HB HM hm0 hc0
      go_wp2_with fail
      clear HL HK
      go_loopw [23] (fun _ wr => ∃ (M : Nat → Nat → Option Nat) (lv : Value) (ls l : List (Nat × Nat)), Hid (Dw w wr hb mb bm pb po n cap px py M0 M lv ls l) ∧ ls.length + l.length = k ∧ Hid (∀ y ∈ l, ∃ x ∈ xs, y = up x.1 x.2) ∧ Hid (∀ y ∈ ls, ∃ x ∈ xs, y = up x.1 x.2) ∧ Hid (∀ x ∈ xs, up x.1 x.2 ∈ ls ∨ up x.1 x.2 ∈ l)) (fun _ wr => lenW wr hb)
      case atStart => exact ⟨M0, _, [], l, D0, by simp [hll], HY, hid (fun y hy => by cases hy), hid (fun x hx => .inr (HXX.out x hx))⟩
      case round =>
        clear D0 HY HXX hll
        obtain ⟨M, lv, ls, l, HD, hlen2, HY, HZ, HE⟩ := hrel
        obtain ⟨v, c0, ho⟩ := HD.out.hp.ex
        obtain ⟨a1, c1, hv⟩ := owns_len2 ho
        subst hv
        have HLN := hid (len_any a1 l.length c1 wr)
        clear ho
        by_cases hl0 : l.length = 0
        · have hle : l = [] := List.eq_nil_of_length_eq_zero hl0
          rw [hl0] at c0 HLN
          have FIN : Hid (∀ x ∈ xs, up x.1 x.2 ∈ ls) := hid (fun x hx => by
            rcases HE.out x hx with h | h
            · exact h
            · rw [hle] at h; cases h)
          clear hle
          go_wp2_with fail
          refine HLN.out.mono ?_
          rintro e w1 ⟨rfl, rfl⟩
          go_wp2_with fail
          go_end0
          exact ⟨rfl, M, lv, ls, HD.out.me, HD.out.fr, HD.out.mesh, HD.out.cor, HD.out.re, by omega, HD.out.jo, FIN.out, HZ.out⟩
        · have hd : decide ((0 : Int) < (l.length : Int)) = true := by simp; omega
          have NX := hid (next_any hb l wr HD.out.hp (by omega) (by omega))
          go_wp2_with fail
          refine HLN.out.mono ?_
          rintro e w1 ⟨rfl, rfl⟩
          go_wp2_with fail
          refine NX.out.mono ?_
          rintro e w2 ⟨⟨x, l1, rfl, hp2, hpm⟩, hf2⟩
          have HD2 := hid (HD.out.next HHB.out m1 m2 m3 hp2 hf2)
          have LW : Hid (lenW w1 hb = l.length) := hid (lenW_eq HD.out.hp)
          have hl1 : l.length = l1.length + 1 := by rw [hpm.length_eq]; rfl
          obtain ⟨x0, hx0, ex0⟩ := HY.out x (hpm.mem_iff.2 List.mem_cons_self)
          have lx := HOK.out.lt x0 hx0
          have ux : x.1 < n ∧ x.2 < n ∧ x.1 ≠ x.2 := by
            rw [ex0]
            rcases up_is x0.1 x0.2 with h | h <;> rw [h] <;> dsimp only <;> omega
          have bx : ∀ p, p < n → betwB px py x.1 x.2 p = false := fun p hp => by rw [ex0, betwB_up]; exact HOK.out.betw x0 hx0 p hp
          have cx : ∀ y ∈ ls, crossB px py x.1 x.2 y.1 y.2 = false := fun y hy => by
            obtain ⟨y0, hy0, ey0⟩ := HZ.out y hy
            rw [ex0, ey0, crossB_up]
            exact HOK.out.cross x0 hx0 y0 hy0
          have nlp : lv.ownBlock ≠ some pb := fun e => by have := (HD.out.ap pb e).1; omega
          have DR := hid (draw_any mb bm pb po n cap x.1 x.2 px py M lv ls (fun M => Geo.Reach px py n M0 M ∧ ∀ y ∈ ls, Joined M y.1 y.2) w2 hn HD2.out.me (by omega) HD2.out.mesh HD2.out.cor ⟨HD2.out.re, HD2.out.jo⟩ ux.1 ux.2.1 hmp nlp
            (fun M a b c d hm q hx hk => ⟨.flip hk.1 hm q, fun y hy => joined_flip (hk.2 y hy) (fun e => by rw [← e.1, ← e.2, cx y hy] at hx; cases hx) (fun e => by rw [crossB_symm, ← e.1, ← e.2, cx y hy] at hx; cases hx)⟩))
          have HUX := hid ux
          have HBX := hid bx
          have HPM := hid hpm
          have HX0 := hid (⟨x0, hx0, ex0⟩ : ∃ x0 ∈ xs, x = up x0.1 x0.2)
          clear hp2 hpm hf2 c0 NX HLN ex0 hx0 lx ux bx cx nlp HD
          go_wp2_with fail
          refine DR.out.mono ?_
          rintro e w3 ⟨rfl, M', lv', hM3, hd3, hm3, hc3, hk3, hbad⟩
          have HJ := drawn hm3 hinj hc3 HUX.out.1 HUX.out.2.1 HUX.out.2.2 HBX.out hbad
          have HD3 := hid (HD2.out.draw HHB.out m1 m2 hM3 hd3 hm3 hc3 hk3.1 hk3.2 HJ)
          have LW3 : Hid (lenW w3 hb = l1.length) := hid (lenW_eq HD3.out.hp)
          clear hM3 hd3 hm3 hc3 hk3 hbad HJ DR HD2
          go_wp2_with fail
          go_roundw
          case rel =>
            refine ⟨M', lv', ls ++ [x], l1, HD3, by simp; omega, hid (fun y hy => HY.out y (HPM.out.mem_iff.2 (List.mem_cons_of_mem _ hy))), hid (fun y hy => ?_), hid (fun z hz => ?_)⟩
            · rcases List.mem_append.1 hy with h | h
              · exact HZ.out y h
              · simp at h; subst h; exact HX0.out
            · rcases HE.out z hz with h | h
              · exact .inl (List.mem_append_left _ h)
              · rcases List.mem_cons.1 (HPM.out.mem_iff.1 h) with h | h
                · exact .inl (List.mem_append_right _ (by rw [h]; simp))
                · exact .inr h
          case measure => rw [LW3.out, LW.out]; omega
end Go.Proofs.YtdbebbbceeopaaaGreat

set_option linter.unusedSimpArgs false
namespace Go.Proofs.YtdbebbbceeopaaaGreat
open Go.RowKit Go.Maps

/-- A row of lines as they come in: two numbers each. -/
def LnI (w : World) (a : Option Addr) (xs : List (Int × Int)) : Prop := xs = [] ∨ ∃ g o, a = some ⟨g, o, none⟩ ∧ g < w.heap.size ∧ ∀ i, (hi : i < xs.length) → w.cell? ⟨g, o + i * 2, none⟩ = some (.int .i64 xs[i].1) ∧ w.cell? ⟨g, o + i * 2 + 1, none⟩ = some (.int .i64 xs[i].2)

theorem LnI.below {w w' : World} {a : Option Addr} {xs : List (Int × Int)} (h : LnI w a xs) (hb : Below w.heap.size w w') : LnI w' a xs := by
  rcases h with h | ⟨g, o, e, hg, hc⟩
  · exact .inl h
  · exact .inr ⟨g, o, e, Nat.lt_of_lt_of_le hg hb.size, fun i hi => ⟨(hb.cell (by exact hg)).trans (hc i hi).1, (hb.cell (by exact hg)).trans (hc i hi).2⟩⟩

/-- Is a line one of two different points? -/
def Jn (n : Nat) (x : Int × Int) : Prop := (0 ≤ x.1 ∧ x.1 < n) ∧ (0 ≤ x.2 ∧ x.2 < n) ∧ x.1 ≠ x.2

/-- What allJoinTwo answers. -/
def JnR (n : Nat) (xs : List (Int × Int)) (e : Ending) : Prop := ∃ b : Bool, e = .returned (.bool b) ∧ (b = true ↔ ∀ x ∈ xs, Jn n x)

set_option maxRecDepth 100000 in
set_option maxHeartbeats 4000000 in
theorem allJoin_any (n cap lcap : Nat) (pa la : Option Addr) (xs : List (Int × Int)) (w : World) (hl : LnI w la xs) (hk : xs.length ≤ 1000000) :
    Calls Tryz.prog 69 #[.slice pa n cap, .slice la xs.length lcap] w fun e w' => JnR n xs e ∧ Below w.heap.size w w' := by
  have HL := hid hl
  obtain ⟨k, hkk⟩ : ∃ k, k = xs.length := ⟨_, rfl⟩
  have HK := hid hkk
  rw [← hkk] at hk ⊢
  clear hl hkk
  go_enter Tryz.func69, Tryz.ntmps69
  go_wp2_with fail
  go_loopw [9] (fun ix wr => ∃ i : Nat, i ≤ k ∧ ix = .int .i64 i ∧ Hid (∀ r, (hr : r < xs.length) → r < i → Jn n xs[r]) ∧ Hid (Below w.heap.size w wr)) (fun ix _ => k - (intOf ix).toNat)
  case atStart => exact ⟨0, Nat.zero_le _, rfl, hid (fun r _ h => by omega), hid (Below.refl _ _)⟩
  case round =>
    obtain ⟨i, hi, rfl, HJ, HB⟩ := hrel
    by_cases hik : i < k
    · have hik' : (i : Int) < k := by omega
      have hix : i < xs.length := by rw [← HK.out]; exact hik
      obtain ⟨lg, lo, hla, hlg, hlc⟩ : ∃ lg lo, la = some ⟨lg, lo, none⟩ ∧ lg < w.heap.size ∧ (w.cell? ⟨lg, lo + i * 2, none⟩ = some (.int .i64 xs[i].1) ∧ w.cell? ⟨lg, lo + i * 2 + 1, none⟩ = some (.int .i64 xs[i].2)) := by
        rcases HL.out with h | ⟨g, o, e, h1, h2⟩
        · rw [h] at hix; simp at hix
        · exact ⟨g, o, e, h1, h2 i hix⟩
      subst hla
      have xc := (HB.out.cell (p := ⟨lg, lo + i * 2, none⟩) hlg).trans hlc.1
      have yc := (HB.out.cell (p := ⟨lg, lo + i * 2 + 1, none⟩) hlg).trans hlc.2
      have HNO : Hid (¬ Jn n xs[i] → ¬ ∀ x ∈ xs, Jn n x) := hid (fun h h' => h (h' _ (List.getElem_mem hix)))
      have HYES : Hid (Jn n xs[i] → ∀ r, (hr : r < xs.length) → r < i + 1 → Jn n xs[r]) := hid (fun h r hr hri => by
        rcases Nat.lt_or_ge r i with q | q
        · exact HJ.out r hr q
        · have : r = i := by omega
          subst this; exact h)
      obtain ⟨a, ha⟩ : ∃ a, a = xs[i].1 := ⟨_, rfl⟩
      obtain ⟨b, hb⟩ : ∃ b, b = xs[i].2 := ⟨_, rfl⟩
      have hab : xs[i] = (a, b) := by rw [ha, hb]
      rw [← ha] at xc
      rw [← hb] at yc
      rw [hab] at HNO HYES
      clear ha hb hab hlc
      have q1 : (0 : Int) ≤ (i : Int) := by omega
      have HB2 : Hid (∀ o, Below w.heap.size w (wr.alloc o)) := hid (fun o => HB.out.alloc HB.out.size o)
      obtain ⟨mn, hmn⟩ : ∃ mn, min a b = mn := ⟨_, rfl⟩
      obtain ⟨mx, hmx⟩ : ∃ mx, max a b = mx := ⟨_, rfl⟩
      have HMN := hid (show mn ≤ a ∧ mn ≤ b ∧ (mn = a ∨ mn = b) by omega)
      have HMX := hid (show a ≤ mx ∧ b ≤ mx ∧ (mx = a ∨ mx = b) by omega)
      by_cases g1 : mn < 0
      · have NO := hid (HNO.out (fun h => by have := HMN.out; have := h.1; have := h.2.1; dsimp only at *; omega))
        clear HNO HYES
        go_wp2_with fail
        go_ret
        exact ⟨⟨false, rfl, ⟨fun h => (by cases h), fun h => absurd h NO.out⟩⟩, HB2.out _⟩
      · by_cases g2 : (n : Int) ≤ mx
        · have NO := hid (HNO.out (fun h => by have := HMX.out; have := h.1; have := h.2.1; dsimp only at *; omega))
          clear HNO HYES
          go_wp2_with fail
          go_ret
          exact ⟨⟨false, rfl, ⟨fun h => (by cases h), fun h => absurd h NO.out⟩⟩, HB2.out _⟩
        · by_cases g3 : a = b
          · have NO := hid (HNO.out (fun h => h.2.2 g3))
            have d3 : (a == b) = true := by simpa using g3
            clear HNO HYES g3
            go_wp2_with fail
            go_ret
            exact ⟨⟨false, rfl, ⟨fun h => (by cases h), fun h => absurd h NO.out⟩⟩, HB2.out _⟩
          · have YES := hid (HYES.out ⟨by have := HMN.out; have := HMX.out; dsimp only; omega, by have := HMN.out; have := HMX.out; dsimp only; omega, g3⟩)
            have d3 : (a == b) = false := by simpa using g3
            clear HNO HYES
            go_wp2_with fail
            go_roundw
            case rel => exact ⟨i + 1, by omega, by go_num, YES, hid (HB2.out _)⟩
            case measure => simp [intOf]; omega
    · have hii : k = i := by omega
      subst hii
      go_wp2_with fail
      go_ret
      exact ⟨⟨true, rfl, ⟨fun _ x hx => by
        obtain ⟨r, hr, rfl⟩ := List.getElem_of_mem hx
        exact HJ.out r hr (by rw [HK.out]; exact hr), fun _ => rfl⟩⟩, HB.out⟩
end Go.Proofs.YtdbebbbceeopaaaGreat

set_option linter.unusedSimpArgs false
namespace Go.Proofs.YtdbebbbceeopaaaGreat
open Go.RowKit Go.Maps
open Flt (Is)

/-- What IndexFunc answers: a number from 0 on, if there is one. -/
def IdxR (f : Nat → Bool) (n : Nat) (e : Ending) : Prop := ∃ r : Int, e = .returned (.int .i64 r) ∧ decide (0 ≤ r) = decide (∃ i, i < n ∧ f i = true)

def BolR (f : Nat → Bool) (n : Nat) (e : Ending) : Prop := e = .returned (.bool (decide (∃ i, i < n ∧ f i = true)))

set_option maxRecDepth 100000 in
set_option maxHeartbeats 2000000 in
theorem index126 (pb po n cap : Nat) (px py : Nat → Int) (f : Nat → Bool) (caps : Array Value) (w : World) (hn : n ≤ 1000) (hp : Plc w pb po n px py)
    (hcl : ∀ (W : World) (i r q : Nat), i < n → Below w.heap.size w W → w.cell? ⟨pb, po + i, none⟩ = some (.complex .f64 r q) → Calls Tryz.prog 99 (#[.complex .f64 r q] ++ caps) W fun e w' => e = .returned (.bool (f i)) ∧ Below W.heap.size W w') :
    Calls Tryz.prog 126 #[.slice (some ⟨pb, po, none⟩) n cap, .func (.func 99) #[] caps] w fun e w' => IdxR f n e ∧ Below w.heap.size w w' := by
  have HP := hid hp
  have CL := hid hcl
  clear hp hcl
  go_enter Tryz.func126, Tryz.ntmps126
  go_wp2_with fail
  go_loopw [8] (fun ix wr => ∃ i : Nat, i ≤ n ∧ ix = .int .i64 i ∧ Hid (∀ r, r < i → f r = false) ∧ Hid (Below w.heap.size w wr)) (fun ix _ => n - (intOf ix).toNat)
  case atStart => exact ⟨0, Nat.zero_le _, rfl, hid (fun r h => by omega), hid (Below.refl _ _)⟩
  case round =>
    obtain ⟨i, hi, rfl, HF, HB⟩ := hrel
    by_cases hin : i < n
    · have hin' : (i : Int) < n := by omega
      obtain ⟨r, q, c0, _, _⟩ := HP.out.cell i hin
      have c1 := (HB.out.cell (p := ⟨pb, po + i, none⟩) HP.out.lt).trans c0
      have C := hid (CL.out wr i r q hin HB.out c0)
      have q1 : (0 : Int) ≤ (i : Int) := by omega
      clear c0
      go_wp2_with fail
      refine C.out.mono ?_
      rintro e w1 ⟨rfl, hb1⟩
      have HB1 := hid (HB.out.trans (hb1.mono HB.out.size))
      clear hb1 C c1
      obtain ⟨b, hb⟩ : ∃ b, b = f i := ⟨_, rfl⟩
      rw [← hb]
      cases b with
      | true =>
        have HR : Hid (decide (0 ≤ (i : Int)) = decide (∃ i, i < n ∧ f i = true)) := hid (by rw [decide_eq_true (show (0 : Int) ≤ i by omega), decide_eq_true (⟨i, hin, hb.symm⟩ : ∃ i, i < n ∧ f i = true)])
        clear hb
        go_wp2_with fail
        go_ret
        exact ⟨⟨i, rfl, HR.out⟩, HB1.out⟩
      | false =>
        have HF1 : Hid (∀ r, r < i + 1 → f r = false) := hid (fun r hr => by
          rcases Nat.lt_or_ge r i with k | k
          · exact HF.out r k
          · have : r = i := by omega
            subst this; exact hb.symm)
        clear hb
        go_wp2_with fail
        go_roundw
        case rel => exact ⟨i + 1, by omega, by go_num, HF1, HB1⟩
        case measure => simp [intOf]; omega
    · have hii : n = i := by omega
      subst hii
      go_wp2_with fail
      go_ret
      exact ⟨⟨-1, rfl, by
        rw [decide_eq_false (by omega), decide_eq_false]
        rintro ⟨r, hr, h⟩
        rw [HF.out r hr] at h
        cases h⟩, HB.out⟩

set_option maxHeartbeats 1000000 in
theorem contains98 (pb po n cap : Nat) (px py : Nat → Int) (f : Nat → Bool) (caps : Array Value) (w : World) (hn : n ≤ 1000) (hp : Plc w pb po n px py)
    (hcl : ∀ (W : World) (i r q : Nat), i < n → Below w.heap.size w W → w.cell? ⟨pb, po + i, none⟩ = some (.complex .f64 r q) → Calls Tryz.prog 99 (#[.complex .f64 r q] ++ caps) W fun e w' => e = .returned (.bool (f i)) ∧ Below W.heap.size W w') :
    Calls Tryz.prog 98 #[.slice (some ⟨pb, po, none⟩) n cap, .func (.func 99) #[] caps] w fun e w' => BolR f n e ∧ Below w.heap.size w w' := by
  have C := hid (index126 pb po n cap px py f caps w hn hp hcl)
  clear hp hcl
  go_enter Tryz.func98, Tryz.ntmps98
  go_wp2_with fail
  refine C.out.mono ?_
  rintro e w1 ⟨⟨r, rfl, hr⟩, hb⟩
  have HB := hid hb
  obtain ⟨b, hbb⟩ : ∃ b, b = decide (∃ i, i < n ∧ f i = true) := ⟨_, rfl⟩
  have HBB := hid hbb
  rw [← hbb] at hr
  clear hb hbb
  go_wp2_with fail
  go_ret
  exact ⟨by unfold BolR; rw [← HBB.out]; rfl, HB.out⟩
set_option maxRecDepth 100000 in
set_option maxHeartbeats 2000000 in
theorem index127 (n cap : Nat) (la : Option Addr) (xs : List (Nat × Nat)) (f : Nat → Bool) (caps : Array Value) (w : World) (hn : n ≤ 1000) (hp : Lns w la xs) (hx : n ≤ xs.length)
    (hcl : ∀ (W : World) (i : Nat) (hi : i < xs.length), i < n → Below w.heap.size w W → Calls Tryz.prog 102 (#[.agg #[.int .i64 (xs[i].1 : Nat), .int .i64 (xs[i].2 : Nat)]] ++ caps) W fun e w' => e = .returned (.bool (f i)) ∧ Below W.heap.size W w') :
    Calls Tryz.prog 127 #[.slice la n cap, .func (.func 102) #[] caps] w fun e w' => IdxR f n e ∧ Below w.heap.size w w' := by
  have HP := hid hp
  have CL := hid hcl
  clear hp hcl
  go_enter Tryz.func127, Tryz.ntmps127
  go_wp2_with fail
  go_loopw [8] (fun ix wr => ∃ i : Nat, i ≤ n ∧ ix = .int .i64 i ∧ Hid (∀ r, r < i → f r = false) ∧ Hid (Below w.heap.size w wr)) (fun ix _ => n - (intOf ix).toNat)
  case atStart => exact ⟨0, Nat.zero_le _, rfl, hid (fun r h => by omega), hid (Below.refl _ _)⟩
  case round =>
    obtain ⟨i, hi, rfl, HF, HB⟩ := hrel
    by_cases hin : i < n
    · have hin' : (i : Int) < n := by omega
      have hix : i < xs.length := by omega
      obtain ⟨lg, lo, hla, hlg, hlc⟩ : ∃ lg lo, la = some ⟨lg, lo, none⟩ ∧ lg < w.heap.size ∧ (w.cell? ⟨lg, lo + i * 2, none⟩ = some (.int .i64 (xs[i].1 : Nat)) ∧ w.cell? ⟨lg, lo + i * 2 + 1, none⟩ = some (.int .i64 (xs[i].2 : Nat))) := by
        rcases HP.out with h | ⟨g, o, e, h1, h2⟩
        · rw [h] at hix; simp at hix
        · exact ⟨g, o, e, h1, h2 i hix⟩
      subst hla
      have c1 := (HB.out.cell (p := ⟨lg, lo + i * 2, none⟩) hlg).trans hlc.1
      have c2 := (HB.out.cell (p := ⟨lg, lo + i * 2 + 1, none⟩) hlg).trans hlc.2
      have C := hid (CL.out wr i hix hin HB.out)
      have q1 : (0 : Int) ≤ (i : Int) := by omega
      obtain ⟨u, hu⟩ : ∃ u, u = xs[i].1 := ⟨_, rfl⟩
      obtain ⟨v, hv⟩ : ∃ v, v = xs[i].2 := ⟨_, rfl⟩
      rw [← hu] at c1 C
      rw [← hv] at c2 C
      clear hlc hu hv
      go_wp2_with fail
      refine C.out.mono ?_
      rintro e w1 ⟨rfl, hb1⟩
      have HB1 := hid (HB.out.trans (hb1.mono HB.out.size))
      clear hb1 C c1 c2
      obtain ⟨b, hb⟩ : ∃ b, b = f i := ⟨_, rfl⟩
      rw [← hb]
      cases b with
      | true =>
        have HR : Hid (decide (0 ≤ (i : Int)) = decide (∃ i, i < n ∧ f i = true)) := hid (by rw [decide_eq_true (show (0 : Int) ≤ i by omega), decide_eq_true (⟨i, hin, hb.symm⟩ : ∃ i, i < n ∧ f i = true)])
        clear hb
        go_wp2_with fail
        go_ret
        exact ⟨⟨i, rfl, HR.out⟩, HB1.out⟩
      | false =>
        have HF1 : Hid (∀ r, r < i + 1 → f r = false) := hid (fun r hr => by
          rcases Nat.lt_or_ge r i with k | k
          · exact HF.out r k
          · have : r = i := by omega
            subst this; exact hb.symm)
        clear hb
        go_wp2_with fail
        go_roundw
        case rel => exact ⟨i + 1, by omega, by go_num, HF1, HB1⟩
        case measure => simp [intOf]; omega
    · have hii : n = i := by omega
      subst hii
      go_wp2_with fail
      go_ret
      exact ⟨⟨-1, rfl, by
        rw [decide_eq_false (by omega), decide_eq_false]
        rintro ⟨r, hr, h⟩
        rw [HF.out r hr] at h
        cases h⟩, HB.out⟩

set_option maxHeartbeats 1000000 in
theorem contains101 (n cap : Nat) (la : Option Addr) (xs : List (Nat × Nat)) (f : Nat → Bool) (caps : Array Value) (w : World) (hn : n ≤ 1000) (hp : Lns w la xs) (hx : n ≤ xs.length)
    (hcl : ∀ (W : World) (i : Nat) (hi : i < xs.length), i < n → Below w.heap.size w W → Calls Tryz.prog 102 (#[.agg #[.int .i64 (xs[i].1 : Nat), .int .i64 (xs[i].2 : Nat)]] ++ caps) W fun e w' => e = .returned (.bool (f i)) ∧ Below W.heap.size W w') :
    Calls Tryz.prog 101 #[.slice la n cap, .func (.func 102) #[] caps] w fun e w' => BolR f n e ∧ Below w.heap.size w w' := by
  have C := hid (index127 n cap la xs f caps w hn hp hx hcl)
  clear hp hcl
  go_enter Tryz.func101, Tryz.ntmps101
  go_wp2_with fail
  refine C.out.mono ?_
  rintro e w1 ⟨⟨r, rfl, hr⟩, hb⟩
  have HB := hid hb
  obtain ⟨b, hbb⟩ : ∃ b, b = decide (∃ i, i < n ∧ f i = true) := ⟨_, rfl⟩
  have HBB := hid hbb
  rw [← hbb] at hr
  clear hb hbb
  go_wp2_with fail
  go_ret
  exact ⟨by unfold BolR; rw [← HBB.out]; rfl, HB.out⟩
end Go.Proofs.YtdbebbbceeopaaaGreat

set_option linter.unusedSimpArgs false
namespace Go.Proofs.YtdbebbbceeopaaaGreat
open Go.RowKit Go.Maps
open Flt (Is)

set_option maxHeartbeats 1000000 in
theorem btw99 (ra ia rb ib rp ip bA bB : Nat) (px py : Nat → Int) (a b p : Nat) (hax : Is ra (px a)) (hay : Is ia (py a)) (hbx : Is rb (px b)) (hby : Is ib (py b)) (hpx : Is rp (px p)) (hpy : Is ip (py p))
    (A : (-1000 ≤ px a ∧ px a ≤ 1000) ∧ (-1000 ≤ py a ∧ py a ≤ 1000)) (B : (-1000 ≤ px b ∧ px b ≤ 1000) ∧ (-1000 ≤ py b ∧ py b ≤ 1000)) (P : (-1000 ≤ px p ∧ px p ≤ 1000) ∧ (-1000 ≤ py p ∧ py p ≤ 1000)) (w : World)
    (cA : w.cell? ⟨bA, 0, none⟩ = some (.complex .f64 ra ia)) (cB : w.cell? ⟨bB, 0, none⟩ = some (.complex .f64 rb ib)) :
    Calls Tryz.prog 99 #[.complex .f64 rp ip, .pointer (some ⟨bA, 0, none⟩), .pointer (some ⟨bB, 0, none⟩)] w fun e w' => e = .returned (.bool (betwB px py a b p)) ∧ Below w.heap.size w w' := by
  have C := hid (fun W => plBetween_any ra ia rb ib rp ip px py a b p hax hay hbx hby hpx hpy A B P W)
  clear hax hay hbx hby hpx hpy A B P
  go_enter Tryz.func99, Tryz.ntmps99
  go_wp2_with fail
  refine (C.out _).mono ?_
  rintro e w1 ⟨rfl, rfl⟩
  go_wp2_with fail
  go_ret
  exact ⟨rfl, Below.refl _ _⟩

set_option maxRecDepth 100000 in
set_option maxHeartbeats 2000000 in
theorem crs102 (ra ia rb ib bA bB bP pb po n cap u v : Nat) (px py : Nat → Int) (a b : Nat) (hax : Is ra (px a)) (hay : Is ia (py a)) (hbx : Is rb (px b)) (hby : Is ib (py b))
    (A : (-1000 ≤ px a ∧ px a ≤ 1000) ∧ (-1000 ≤ py a ∧ py a ≤ 1000)) (B : (-1000 ≤ px b ∧ px b ≤ 1000) ∧ (-1000 ≤ py b ∧ py b ≤ 1000)) (w : World) (hp : Plc w pb po n px py) (hu : u < n) (hv : v < n)
    (cA : w.cell? ⟨bA, 0, none⟩ = some (.complex .f64 ra ia)) (cB : w.cell? ⟨bB, 0, none⟩ = some (.complex .f64 rb ib)) (cP : w.cell? ⟨bP, 0, none⟩ = some (.slice (some ⟨pb, po, none⟩) n cap)) :
    Calls Tryz.prog 102 #[.agg #[.int .i64 u, .int .i64 v], .pointer (some ⟨bA, 0, none⟩), .pointer (some ⟨bB, 0, none⟩), .pointer (some ⟨bP, 0, none⟩)] w fun e w' => e = .returned (.bool (crossB px py a b u v)) ∧ Below w.heap.size w w' := by
  obtain ⟨W1, hW1⟩ : ∃ W1 : World, W1 = w.alloc (.cells #[.int .i64 u, .int .i64 v] 54) := ⟨_, rfl⟩
  have B1 : Hid (Below w.heap.size w W1) := hid (by rw [hW1]; exact (Below.refl _ _).alloc (Nat.le_refl _) _)
  obtain ⟨ru, iu, cu, au, au'⟩ := hp.cell u hu
  obtain ⟨rv, iv, cv, av, av'⟩ := hp.cell v hv
  have C := hid (fun W => cross_any ra ia rb ib ru iu rv iv px py a b u v hax hay hbx hby au au' av av' A B (hp.bd u hu) (hp.bd v hv) W)
  have x0 : W1.cell? ⟨w.heap.size, 0, none⟩ = some (.int .i64 u) := by rw [hW1]; exact World.cell?_alloc_at _ _ _ _ rfl
  have x1 : W1.cell? ⟨w.heap.size, 1, none⟩ = some (.int .i64 v) := by rw [hW1]; exact World.cell?_alloc_at _ _ _ _ rfl
  have yA : W1.cell? ⟨bA, 0, none⟩ = some (.complex .f64 ra ia) := by rw [hW1]; exact cell_new cA
  have yB : W1.cell? ⟨bB, 0, none⟩ = some (.complex .f64 rb ib) := by rw [hW1]; exact cell_new cB
  have yP : W1.cell? ⟨bP, 0, none⟩ = some (.slice (some ⟨pb, po, none⟩) n cap) := by rw [hW1]; exact cell_new cP
  have zu : W1.cell? ⟨pb, po + u, none⟩ = some (.complex .f64 ru iu) := by rw [hW1]; exact cell_new cu
  have zv : W1.cell? ⟨pb, po + v, none⟩ = some (.complex .f64 rv iv) := by rw [hW1]; exact cell_new cv
  have gu : (u : Int) < n := by omega
  have gv : (v : Int) < n := by omega
  have gu0 : (0 : Int) ≤ u := by omega
  have gv0 : (0 : Int) ≤ v := by omega
  have START : W1.drew.cell? ⟨w.heap.size, 0, none⟩ = some (.int .i64 u) ∧ W1.drew.cell? ⟨w.heap.size, 1, none⟩ = some (.int .i64 v) ∧ W1.drew.cell? ⟨bA, 0, none⟩ = some (.complex .f64 ra ia) ∧ W1.drew.cell? ⟨bB, 0, none⟩ = some (.complex .f64 rb ib) ∧ W1.drew.cell? ⟨bP, 0, none⟩ = some (.slice (some ⟨pb, po, none⟩) n cap) ∧ W1.drew.cell? ⟨pb, po + u, none⟩ = some (.complex .f64 ru iu) ∧ W1.drew.cell? ⟨pb, po + v, none⟩ = some (.complex .f64 rv iv) := ⟨x0, x1, yA, yB, yP, zu, zv⟩
  obtain ⟨cr, hcr⟩ : ∃ cr, cr = crossB px py a b u v := ⟨_, rfl⟩
  rw [← hcr] at C ⊢
  clear hcr hp cu cv au au' av av' hax hay hbx hby A B cA cB cP
  go_enter Tryz.func102, Tryz.ntmps102
  go_wp2_with fail
  rw [← hW1]
  clear hW1
  go_region_held3 (fun W => W.cell? ⟨w.heap.size, 0, none⟩ = some (.int .i64 u) ∧ W.cell? ⟨w.heap.size, 1, none⟩ = some (.int .i64 v) ∧ W.cell? ⟨bA, 0, none⟩ = some (.complex .f64 ra ia) ∧ W.cell? ⟨bB, 0, none⟩ = some (.complex .f64 rb ib) ∧ W.cell? ⟨bP, 0, none⟩ = some (.slice (some ⟨pb, po, none⟩) n cap) ∧ W.cell? ⟨pb, po + u, none⟩ = some (.complex .f64 ru iu) ∧ W.cell? ⟨pb, po + v, none⟩ = some (.complex .f64 rv iv)) (assumption)
    ((go_at_call 103; refine (C.out _).mono ?_; rintro e w9 ⟨rfl, he9⟩; subst he9))
  clear START
  go_wp2_with fail
  go_ret
  exact ⟨rfl, B1.out.drew⟩
end Go.Proofs.YtdbebbbceeopaaaGreat

set_option linter.unusedSimpArgs false
namespace Go.Proofs.YtdbebbbceeopaaaGreat
open Go.RowKit Go.Maps
open Flt (Is)

/-- Is something in the way of the line of this number? -/
def wayB (px py : Nat → Int) (n : Nat) (xs : List (Nat × Nat)) (i : Nat) : Prop := (∃ p, p < n ∧ betwB px py (xs.getD i (0, 0)).1 (xs.getD i (0, 0)).2 p = true) ∨ ∃ j, j < i ∧ crossB px py (xs.getD i (0, 0)).1 (xs.getD i (0, 0)).2 (xs.getD j (0, 0)).1 (xs.getD j (0, 0)).2 = true

/-- Does a line cross one ahead of it? -/
def crF (px py : Nat → Int) (xs : List (Nat × Nat)) (u v j : Nat) : Bool := crossB px py u v (xs.getD j (0, 0)).1 (xs.getD j (0, 0)).2

/-- What isInTheWay answers. -/
def WayR (px py : Nat → Int) (n : Nat) (xs : List (Nat × Nat)) (e : Ending) : Prop := ∃ b : Bool, e = .returned (.bool b) ∧ (b = true ↔ ∃ i, i < xs.length ∧ wayB px py n xs i)

set_option maxRecDepth 100000 in
set_option maxHeartbeats 8000000 in
theorem inWay_any (pb po n cap lcap : Nat) (px py : Nat → Int) (la : Option Addr) (xs : List (Nat × Nat)) (w : World) (hn : n ≤ 40) (hp : Plc w pb po n px py) (hl : Lns w la xs) (hk : xs.length ≤ 100) (hcap : xs.length ≤ lcap) (hx : ∀ x ∈ xs, x.1 < n ∧ x.2 < n) :
    Calls Tryz.prog 70 #[.slice (some ⟨pb, po, none⟩) n cap, .slice la xs.length lcap] w fun e w' => WayR px py n xs e ∧ Below w.heap.size w w' := by
  obtain ⟨W0, hW0⟩ : ∃ W0 : World, W0 = w.alloc (.cells #[.slice (some ⟨pb, po, none⟩) n cap] 68) := ⟨_, rfl⟩
  have B0 : Hid (Below w.heap.size w W0) := hid (by rw [hW0]; exact (Below.refl _ _).alloc (Nat.le_refl _) _)
  have P0 : W0.cell? ⟨w.heap.size, 0, none⟩ = some (.slice (some ⟨pb, po, none⟩) n cap) := by rw [hW0]; exact World.cell?_alloc_at _ _ _ _ rfl
  have HP := hid (hp.below B0.out hp.lt)
  have HL := hid (hl.below B0.out)
  have HX := hid hx
  have HP0 := hid P0
  have hW0s : Hid (w.heap.size < W0.heap.size) := hid (World.block_lt_of_cell? W0 _ P0)
  obtain ⟨k, hkk⟩ : ∃ k, k = xs.length := ⟨_, rfl⟩
  have HK := hid hkk
  rw [← hkk] at hk hcap ⊢
  clear hp hl hx hkk P0
  go_enter Tryz.func70, Tryz.ntmps70
  go_wp2_with fail
  rw [← hW0]
  clear hW0
  obtain ⟨bP, hbP⟩ : ∃ bP, bP = w.heap.size := ⟨_, rfl⟩
  rw [← hbP] at HP0 hW0s ⊢
  have HBP := hid hbP
  clear hbP
  go_loopw [11] (fun ix wr => ∃ i : Nat, i ≤ k ∧ ix = .int .i64 i ∧ Hid (∀ r, r < i → ¬ wayB px py n xs r) ∧ Hid (Below W0.heap.size W0 wr)) (fun ix _ => k - (intOf ix).toNat)
  case atStart => exact ⟨0, Nat.zero_le _, rfl, hid (fun r h => by omega), hid (Below.refl _ _)⟩
  case round =>
    obtain ⟨i, hi, rfl, HJ, HB⟩ := hrel
    by_cases hik : i < k
    · have hik' : (i : Int) < k := by omega
      have hix : i < xs.length := by rw [← HK.out]; exact hik
      obtain ⟨lg, lo, hla, hlg, hlc⟩ : ∃ lg lo, la = some ⟨lg, lo, none⟩ ∧ lg < W0.heap.size ∧ (W0.cell? ⟨lg, lo + i * 2, none⟩ = some (.int .i64 (xs[i].1 : Nat)) ∧ W0.cell? ⟨lg, lo + i * 2 + 1, none⟩ = some (.int .i64 (xs[i].2 : Nat))) := by
        rcases HL.out with h | ⟨g, o, e, h1, h2⟩
        · rw [h] at hix; simp at hix
        · exact ⟨g, o, e, h1, h2 i hix⟩
      subst hla
      have xc := (HB.out.cell (p := ⟨lg, lo + i * 2, none⟩) hlg).trans hlc.1
      have yc := (HB.out.cell (p := ⟨lg, lo + i * 2 + 1, none⟩) hlg).trans hlc.2
      have gd : xs.getD i (0, 0) = xs[i] := by simp [List.getD_eq_getElem?_getD, hix]
      have huv := HX.out xs[i] (List.getElem_mem hix)
      have HWB : Hid (wayB px py n xs i ↔ (∃ p, p < n ∧ betwB px py xs[i].1 xs[i].2 p = true) ∨ ∃ j, j < i ∧ crossB px py xs[i].1 xs[i].2 (xs.getD j (0, 0)).1 (xs.getD j (0, 0)).2 = true) := hid (by unfold wayB; rw [gd])
      obtain ⟨u, hu⟩ : ∃ u, u = xs[i].1 := ⟨_, rfl⟩
      obtain ⟨v, hv⟩ : ∃ v, v = xs[i].2 := ⟨_, rfl⟩
      rw [← hu] at xc huv HWB
      rw [← hv] at yc huv HWB
      clear hu hv hlc gd
      obtain ⟨W1, hW1⟩ : ∃ W1, W1 = wr.alloc (.cells #[.int .i64 (u : Nat), .int .i64 (v : Nat)] 54) := ⟨_, rfl⟩
      have b1 : Below wr.heap.size wr W1 := by rw [hW1]; exact (Below.refl _ _).alloc (Nat.le_refl _) _
      have S1 : W1.heap.size = wr.heap.size + 1 := by rw [hW1]; simp
      have HB1 := hid (HB.out.trans (b1.mono HB.out.size))
      have HPW := HP.out.below HB1.out HP.out.lt
      obtain ⟨ri, ii, ci, Ii, Ii'⟩ := HPW.cell u huv.1
      obtain ⟨rj, ij, cj, Ij, Ij'⟩ := HPW.cell v huv.2
      have cP := (HB1.out.cell (p := ⟨bP, 0, none⟩) hW0s.out).trans HP0.out
      have x0 : W1.cell? ⟨wr.heap.size, 0, none⟩ = some (.int .i64 (u : Nat)) := by rw [hW1]; exact World.cell?_alloc_at _ _ _ _ rfl
      have x1 : W1.cell? ⟨wr.heap.size, 1, none⟩ = some (.int .i64 (v : Nat)) := by rw [hW1]; exact World.cell?_alloc_at _ _ _ _ rfl
      have l1 := World.block_lt_of_cell? W1 _ cP
      have l2 := World.block_lt_of_cell? W1 _ ci
      have l3 := World.block_lt_of_cell? W1 _ x0
      have gu : (u : Int) < n := by omega
      have gv : (v : Int) < n := by omega
      have gu0 : (0 : Int) ≤ u := by omega
      have gv0 : (0 : Int) ≤ v := by omega
      have q1 : (0 : Int) ≤ (i : Int) := by omega
      have t0 : ((W1.alloc (.cells #[.complex .f64 0 0] 94)).alloc (.cells #[.complex .f64 0 0] 94)).cell? ⟨wr.heap.size + 1, 0, none⟩ = some (.complex .f64 0 0) := by
        rw [World.cell?_alloc_past _ _ _ (by simp; omega), World.cell?_alloc_at _ _ _ _ (by omega)]; rfl
      have t1 : ((W1.alloc (.cells #[.complex .f64 0 0] 94)).alloc (.cells #[.complex .f64 0 0] 94)).cell? ⟨wr.heap.size + 1 + 1, 0, none⟩ = some (.complex .f64 0 0) := by
        rw [World.cell?_alloc_at _ _ _ _ (by simp; omega)]; rfl
      have f0 : ((W1.alloc (.cells #[.complex .f64 0 0] 94)).alloc (.cells #[.complex .f64 0 0] 94)).frozen? ⟨wr.heap.size + 1, 0, none⟩ = false := by
        rw [World.frozen?_alloc_past _ _ _ (by simp; omega), World.frozen?_alloc_at _ _ _ _ (by omega)]
      have f1 : ((W1.alloc (.cells #[.complex .f64 0 0] 94)).alloc (.cells #[.complex .f64 0 0] 94)).frozen? ⟨wr.heap.size + 1 + 1, 0, none⟩ = false := by
        rw [World.frozen?_alloc_at _ _ _ _ (by simp; omega)]
      have s0 : ∀ u, (((W1.alloc (.cells #[.complex .f64 0 0] 94)).alloc (.cells #[.complex .f64 0 0] 94)).drew.setCell ⟨wr.heap.size + 1, 0, none⟩ u).cell? ⟨wr.heap.size + 1 + 1, 0, none⟩ = some (.complex .f64 0 0) := fun u => by rw [World.cell?_setCell_far _ _ _ _ (by show _ + 1 ≠ _ + 1 + 1; omega)]; exact t1
      have s1 : ∀ u, (((W1.alloc (.cells #[.complex .f64 0 0] 94)).alloc (.cells #[.complex .f64 0 0] 94)).drew.setCell ⟨wr.heap.size + 1 + 1, 0, none⟩ u).cell? ⟨wr.heap.size + 1, 0, none⟩ = some (.complex .f64 0 0) := fun u => by rw [World.cell?_setCell_far _ _ _ _ (by show _ + 1 + 1 ≠ _ + 1; omega)]; exact t0
      have t0' : ((W1.alloc (.cells #[.complex .f64 0 0] 94)).alloc (.cells #[.complex .f64 0 0] 94)).drew.cell? ⟨wr.heap.size + 1, 0, none⟩ = some (.complex .f64 0 0) := t0
      have t1' : ((W1.alloc (.cells #[.complex .f64 0 0] 94)).alloc (.cells #[.complex .f64 0 0] 94)).drew.cell? ⟨wr.heap.size + 1 + 1, 0, none⟩ = some (.complex .f64 0 0) := t1
      have f0' : ((W1.alloc (.cells #[.complex .f64 0 0] 94)).alloc (.cells #[.complex .f64 0 0] 94)).drew.frozen? ⟨wr.heap.size + 1, 0, none⟩ = false := f0
      have f1' : ((W1.alloc (.cells #[.complex .f64 0 0] 94)).alloc (.cells #[.complex .f64 0 0] 94)).drew.frozen? ⟨wr.heap.size + 1 + 1, 0, none⟩ = false := f1
      have h0 : ∀ u, (((W1.alloc (.cells #[.complex .f64 0 0] 94)).alloc (.cells #[.complex .f64 0 0] 94)).drew.setCell ⟨wr.heap.size + 1, 0, none⟩ u).frozen? ⟨wr.heap.size + 1 + 1, 0, none⟩ = false := fun u => by rw [World.frozen?_setCell]; exact f1
      have h1 : ∀ u, (((W1.alloc (.cells #[.complex .f64 0 0] 94)).alloc (.cells #[.complex .f64 0 0] 94)).drew.setCell ⟨wr.heap.size + 1 + 1, 0, none⟩ u).frozen? ⟨wr.heap.size + 1, 0, none⟩ = false := fun u => by rw [World.frozen?_setCell]; exact f0
      have hst : ∀ (a : Addr) (m : Mode) (x y : Nat) (w : World), (store a (.complex .f64 x y) m).run Tryz.prog w = stored Tryz.prog w a (.complex .f64 x y) m := fun a m x y w => run_store Tryz.prog w a _ m rfl
      have HII := hid (And.intro (And.intro Ii Ii') (And.intro Ij Ij'))
      have HPP := hid HPW
      clear Ii Ii' Ij Ij' HPW
      go_wp2_with fail
      rw [← hW1]
      clear hW1
      go_region_held3 (fun W => W.cell? ⟨bP, 0, none⟩ = some (.slice (some ⟨pb, po, none⟩) n cap) ∧ W.cell? ⟨wr.heap.size, 0, none⟩ = some (.int .i64 (u : Nat)) ∧ W.cell? ⟨wr.heap.size, 1, none⟩ = some (.int .i64 (v : Nat)) ∧ W.cell? ⟨pb, po + u, none⟩ = some (.complex .f64 ri ii) ∧ W.cell? ⟨pb, po + v, none⟩ = some (.complex .f64 rj ij)) (go_keep) (fail)
      all_goals
        clear t0 t1 f0 f1 s0 s1 t0' t1' f0' f1' h0 h1 hst
        first
          | (obtain ⟨W4, hW4⟩ : ∃ W4 : World, W4 = ((W1.alloc (.cells #[.complex .f64 ri ii] 94)).alloc (.cells #[.complex .f64 rj ij] 94)).drew := ⟨_, rfl⟩
             rw [← hW4]
             have hAB := ab_new W1 (wr.heap.size + 1) S1 (.complex .f64 ri ii) (.complex .f64 rj ij)
             rw [← hW4] at hAB
             obtain ⟨b3, hb3⟩ : ∃ b3, b3 = wr.heap.size + 1 + 1 := ⟨_, rfl⟩
             obtain ⟨b2, hb2⟩ : ∃ b2, b2 = wr.heap.size + 1 := ⟨_, rfl⟩
             rw [← hb3, ← hb2]
             rw [← hb3, ← hb2] at hAB
             obtain ⟨bA, hbA⟩ : ∃ bA, bA = b2 := ⟨_, rfl⟩
             obtain ⟨bB, hbB⟩ : ∃ bB, bB = b3 := ⟨_, rfl⟩
             rw [← hbA, ← hbB]
             rw [← hbA, ← hbB] at hAB
             have cA : W4.cell? ⟨bA, 0, none⟩ = some (.complex .f64 ri ii) := hAB.1
             have cB : W4.cell? ⟨bB, 0, none⟩ = some (.complex .f64 rj ij) := hAB.2.1)
          | (obtain ⟨W4, hW4⟩ : ∃ W4 : World, W4 = ((W1.alloc (.cells #[.complex .f64 rj ij] 94)).alloc (.cells #[.complex .f64 ri ii] 94)).drew := ⟨_, rfl⟩
             rw [← hW4]
             have hAB := ab_new W1 (wr.heap.size + 1) S1 (.complex .f64 rj ij) (.complex .f64 ri ii)
             rw [← hW4] at hAB
             obtain ⟨b3, hb3⟩ : ∃ b3, b3 = wr.heap.size + 1 + 1 := ⟨_, rfl⟩
             obtain ⟨b2, hb2⟩ : ∃ b2, b2 = wr.heap.size + 1 := ⟨_, rfl⟩
             rw [← hb3, ← hb2]
             rw [← hb3, ← hb2] at hAB
             obtain ⟨bA, hbA⟩ : ∃ bA, bA = b3 := ⟨_, rfl⟩
             obtain ⟨bB, hbB⟩ : ∃ bB, bB = b2 := ⟨_, rfl⟩
             rw [← hbA, ← hbB]
             rw [← hbA, ← hbB] at hAB
             have cA : W4.cell? ⟨bA, 0, none⟩ = some (.complex .f64 ri ii) := hAB.2.1
             have cB : W4.cell? ⟨bB, 0, none⟩ = some (.complex .f64 rj ij) := hAB.1)
        have b4 := hAB.2.2.1
        have z4 : W4.heap.size = wr.heap.size + 3 := by have := hAB.2.2.2; omega
        have HB4 := hid (HB1.out.trans (b4.mono HB1.out.size))
        have HP4 := hid (HPP.out.below b4 HPP.out.lt)
        have cP4 := (b4.cell l1).trans cP
        have HC := hid (And.intro cA (And.intro cB cP4))
        have bu := HP4.out.bd u huv.1
        have bv := HP4.out.bd v huv.2
        have kp : ∀ W, Below W4.heap.size W4 W → W.cell? ⟨bA, 0, none⟩ = some (.complex .f64 ri ii) ∧ W.cell? ⟨bB, 0, none⟩ = some (.complex .f64 rj ij) ∧ W.cell? ⟨bP, 0, none⟩ = some (.slice (some ⟨pb, po, none⟩) n cap) := fun W hW => ⟨(hW.cell (World.block_lt_of_cell? W4 _ cA)).trans cA, (hW.cell (World.block_lt_of_cell? W4 _ cB)).trans cB, (hW.cell (World.block_lt_of_cell? W4 _ cP4)).trans cP4⟩
        have CL : ∀ (W : World) (p r q : Nat), p < n → Below W4.heap.size W4 W → W4.cell? ⟨pb, po + p, none⟩ = some (.complex .f64 r q) → Calls Tryz.prog 99 #[.complex .f64 r q, .pointer (some ⟨bA, 0, none⟩), .pointer (some ⟨bB, 0, none⟩)] W fun e w' => e = .returned (.bool (betwB px py u v p)) ∧ Below W.heap.size W w' := fun W p r q hpn hW hc => by
          obtain ⟨r', q', e1, e2, e3⟩ := HP4.out.cell p hpn
          rw [e1] at hc
          have e4 : r' = r ∧ q' = q := by simpa using hc
          obtain ⟨rfl, rfl⟩ := e4
          exact btw99 ri ii rj ij r' q' bA bB px py u v p HII.out.1.1 HII.out.1.2 HII.out.2.1 HII.out.2.2 e2 e3 bu bv (HP4.out.bd p hpn) W (kp W hW).1 (kp W hW).2.1
        have C98 := hid (contains98 pb po n cap px py (betwB px py u v) #[.pointer (some ⟨bA, 0, none⟩), .pointer (some ⟨bB, 0, none⟩)] W4 (by omega) HP4.out CL)
        clear CL
        have HKP := hid kp
        have HUV := hid (And.intro huv (And.intro bu bv))
        clear hAB hW4 hb3 hb2 hbA hbB b4 x0 x1 ci cj cP S1 l1 l2 l3 cA cB kp xc yc b1 huv bu bv
        go_wp2_with fail
        refine C98.out.mono ?_
        rintro e w5 ⟨he, hb5⟩
        obtain ⟨bt, hbt⟩ : ∃ bt, bt = decide (∃ p, p < n ∧ betwB px py u v p = true) := ⟨_, rfl⟩
        have he' : e = .returned (.bool bt) := by rw [hbt]; exact he
        subst he'
        have HB5 := hid (HB4.out.trans (hb5.mono HB4.out.size))
        have HBE := hid hb5
        have HBT := hid hbt
        clear he hb5 hbt C98
        cases bt with
        | true =>
          have YES := hid (HWB.out.2 (.inl (of_decide_eq_true HBT.out.symm)))
          go_wp2_with fail
          go_ret
          exact ⟨⟨true, rfl, ⟨fun _ => ⟨i, by rw [← HK.out]; exact hik, YES.out⟩, fun _ => rfl⟩⟩, B0.out.trans (HB5.out.mono B0.out.size)⟩
        | false =>
          have NB := hid (of_decide_eq_false HBT.out.symm)
          have CL2 : ∀ (W : World) (j : Nat) (hj : j < xs.length), j < i → Below w5.heap.size w5 W → Calls Tryz.prog 102 #[.agg #[.int .i64 (xs[j].1 : Nat), .int .i64 (xs[j].2 : Nat)], .pointer (some ⟨bA, 0, none⟩), .pointer (some ⟨bB, 0, none⟩), .pointer (some ⟨bP, 0, none⟩)] W fun e w' => e = .returned (.bool (crF px py xs u v j)) ∧ Below W.heap.size W w' := fun W j hj hji hW => by
            have hWW := HBE.out.trans (hW.mono HBE.out.size)
            have gd : xs.getD j (0, 0) = xs[j] := by simp [List.getD_eq_getElem?_getD, hj]
            have ge : crF px py xs u v j = crossB px py u v xs[j].1 xs[j].2 := by unfold crF; rw [gd]
            rw [ge]
            have hxj := HX.out xs[j] (List.getElem_mem hj)
            have kk := HKP.out W hWW
            exact crs102 ri ii rj ij bA bB bP pb po n cap xs[j].1 xs[j].2 px py u v HII.out.1.1 HII.out.1.2 HII.out.2.1 HII.out.2.2 HUV.out.2.1 HUV.out.2.2 W (HP4.out.below hWW HP4.out.lt) hxj.1 hxj.2 kk.1 kk.2.1 kk.2.2
          have C101 := hid (contains101 i lcap (some ⟨lg, lo, none⟩) xs (crF px py xs u v) #[.pointer (some ⟨bA, 0, none⟩), .pointer (some ⟨bB, 0, none⟩), .pointer (some ⟨bP, 0, none⟩)] w5 (by omega) (HL.out.below HB5.out) (by omega) CL2)
          clear CL2
          have hil : (i : Int) ≤ lcap := by omega
          go_wp2_with fail
          refine C101.out.mono ?_
          rintro e w6 ⟨he, hb6⟩
          obtain ⟨ct, hct⟩ : ∃ ct, ct = decide (∃ j, j < i ∧ crF px py xs u v j = true) := ⟨_, rfl⟩
          have he' : e = .returned (.bool ct) := by rw [hct]; exact he
          subst he'
          have HB6 := hid (HB5.out.trans (hb6.mono HB5.out.size))
          have HCT := hid hct
          clear he hb6 hct C101
          cases ct with
          | true =>
            have YES := hid (HWB.out.2 (.inr (of_decide_eq_true HCT.out.symm)))
            go_wp2_with fail
            go_ret
            exact ⟨⟨true, rfl, ⟨fun _ => ⟨i, by rw [← HK.out]; exact hik, YES.out⟩, fun _ => rfl⟩⟩, B0.out.trans (HB6.out.mono B0.out.size)⟩
          | false =>
            have NC := hid (of_decide_eq_false HCT.out.symm)
            have HN : Hid (∀ r, r < i + 1 → ¬ wayB px py n xs r) := hid (fun r hr h => by
              rcases Nat.lt_or_ge r i with q | q
              · exact HJ.out r q h
              · have : r = i := by omega
                subst this
                rcases HWB.out.1 h with g | g
                · exact NB.out g
                · exact NC.out g)
            go_wp2_with fail
            go_roundw
            case rel => exact ⟨i + 1, by omega, by go_num, HN, HB6⟩
            case measure => simp [intOf]; omega
    · have hii : k = i := by omega
      subst hii
      go_wp2_with fail
      go_ret
      exact ⟨⟨false, rfl, ⟨fun h => (by cases h), fun ⟨r, hr, h⟩ => absurd h (HJ.out r (by rw [HK.out]; exact hr))⟩⟩, B0.out.trans (HB.out.mono B0.out.size)⟩
end Go.Proofs.YtdbebbbceeopaaaGreat

set_option linter.unusedSimpArgs false
namespace Go.Proofs.YtdbebbbceeopaaaGreat
open Go.RowKit Go.Maps
open Go.Sort (SortedIn)
open Geo (up bad lift Mesh Cor Quad flipM Inj Sd)

/-- Lines by the numbers of their points. -/
def toN (xs : List (Int × Int)) : List (Nat × Nat) := xs.map fun x => (x.1.toNat, x.2.toNat)

theorem toN_len (xs : List (Int × Int)) : (toN xs).length = xs.length := by simp [toN]

theorem LnI.toN {w : World} {a : Option Addr} {xs : List (Int × Int)} {n : Nat} (h : LnI w a xs) (hj : ∀ x ∈ xs, Jn n x) : Lns w a (toN xs) := by
  rcases h with h | ⟨g, o, e, hg, hc⟩
  · subst h; exact .inl rfl
  · refine .inr ⟨g, o, e, hg, fun i hi => ?_⟩
    have hi' : i < xs.length := by rw [toN_len] at hi; exact hi
    have j := hj xs[i] (List.getElem_mem hi')
    have e : (YtdbebbbceeopaaaGreat.toN xs)[i] = (xs[i].1.toNat, xs[i].2.toNat) := by simp [YtdbebbbceeopaaaGreat.toN]
    have c := hc i hi'
    rw [e]
    have e1 : ((xs[i].1.toNat : Nat) : Int) = xs[i].1 := Int.toNat_of_nonneg j.1.1
    have e2 : ((xs[i].2.toNat : Nat) : Int) = xs[i].2 := Int.toNat_of_nonneg j.2.1.1
    dsimp only
    rw [e1, e2]
    exact c

theorem toN_lt {xs : List (Int × Int)} {n : Nat} (hj : ∀ x ∈ xs, Jn n x) : ∀ y ∈ toN xs, y.1 < n ∧ y.2 < n ∧ y.1 ≠ y.2 := by
  intro y hy
  obtain ⟨x, hx, rfl⟩ := List.mem_map.1 hy
  obtain ⟨j1, j2, j3⟩ := hj x hx
  dsimp only
  omega

open Classical in
/-- What lineRefusal answers. -/
noncomputable def lineI (px py : Nat → Int) (n : Nat) (xs : List (Int × Int)) : Int :=
  if 20 < xs.length then 1 else if ¬ ∀ x ∈ xs, Jn n x then 5 else if ∃ i, i < (toN xs).length ∧ wayB px py n (toN xs) i then 6 else 0

set_option maxRecDepth 100000 in
set_option maxHeartbeats 2000000 in
theorem lineRef_any (px py : Nat → Int) (n qb qo cap lcap : Nat) (la : Option Addr) (xs : List (Int × Int)) (w : World) (hp : Pts w qb qo n px py) (hn : n ≤ 40) (hbd : ∀ i, i < n → (-1000 ≤ px i ∧ px i ≤ 1000) ∧ (-1000 ≤ py i ∧ py i ≤ 1000)) (hl : LnI w la xs) (hk : xs.length ≤ 1000000) (hcap : xs.length ≤ lcap) :
    Calls Tryz.prog 40 #[.slice (some ⟨qb, qo, none⟩) n cap, .slice la xs.length lcap] w fun e w' => e = .returned (.int .i64 (lineI px py n xs)) ∧ Below w.heap.size w w' := by
  have C1 := hid (allJoin_any n cap lcap (some ⟨qb, qo, none⟩) la xs w hl hk)
  have HP := hid hp
  have HBD := hid hbd
  have HL := hid hl
  obtain ⟨r, hr⟩ : ∃ r, r = lineI px py n xs := ⟨_, rfl⟩
  have R1 : Hid (20 < xs.length → r = 1) := hid (fun h => by rw [hr]; unfold lineI; rw [if_pos h])
  have R5 : Hid (¬ 20 < xs.length → (¬ ∀ x ∈ xs, Jn n x) → r = 5) := hid (fun h h' => by rw [hr]; unfold lineI; rw [if_neg h, if_pos h'])
  have R6 : Hid (¬ 20 < xs.length → (∀ x ∈ xs, Jn n x) → (∃ i, i < (toN xs).length ∧ wayB px py n (toN xs) i) → r = 6) := hid (fun h h' h'' => by rw [hr]; unfold lineI; rw [if_neg h, if_neg (fun k => k h'), if_pos h''])
  have R0 : Hid (¬ 20 < xs.length → (∀ x ∈ xs, Jn n x) → (¬ ∃ i, i < (toN xs).length ∧ wayB px py n (toN xs) i) → r = 0) := hid (fun h h' h'' => by rw [hr]; unfold lineI; rw [if_neg h, if_neg (fun k => k h'), if_neg h''])
  rw [← hr]
  clear hr
  obtain ⟨k, hkk⟩ : ∃ k, k = xs.length := ⟨_, rfl⟩
  have HK := hid hkk
  rw [← hkk] at hk hcap C1 R1 R5 R6 R0 ⊢
  clear hp hbd hl hkk
  by_cases h20 : 20 < k
  · have e := R1.out h20
    subst e
    have h20' : (20 : Int) < k := by omega
    go_enter Tryz.func40, Tryz.ntmps40
    go_wp2_with fail
    go_ret
    exact ⟨rfl, Below.refl _ _⟩
  · have h20' : ¬ (20 : Int) < k := by omega
    go_enter Tryz.func40, Tryz.ntmps40
    go_wp2_with fail
    refine C1.out.mono ?_
    rintro e w1 ⟨⟨b, rfl, hb⟩, hb1⟩
    have HB1 := hid hb1
    have HBJ := hid hb
    clear hb hb1 C1
    cases b with
    | false =>
      have e := R5.out h20 (fun h => by have := HBJ.out.2 h; cases this)
      subst e
      go_wp2_with fail
      go_ret
      exact ⟨rfl, HB1.out⟩
    | true =>
      have hj := HBJ.out.1 rfl
      have HJ := hid hj
      have C2 := hid (places_any px py n qb qo cap w1 (HP.out.below HB1.out HP.out.lt) hn HBD.out)
      clear hj
      go_wp2_with fail
      refine C2.out.mono ?_
      rintro e w2 ⟨rfl, hb2, hp2⟩
      have HB2 := hid (HB1.out.trans (hb2.mono HB1.out.size))
      have C3 := hid (inWay_any w1.heap.size 0 n n lcap px py la (toN xs) w2 hn hp2 ((HL.out.below HB2.out).toN HJ.out) (by rw [toN_len, ← HK.out]; omega) (by rw [toN_len, ← HK.out]; exact hcap) (fun y hy => ⟨(toN_lt HJ.out y hy).1, (toN_lt HJ.out y hy).2.1⟩))
      rw [toN_len, ← HK.out] at C3
      clear C2 hb2 hp2
      go_wp2_with fail
      refine C3.out.mono ?_
      rintro e w3 ⟨⟨b, rfl, hb⟩, hb3⟩
      have HB3 := hid (HB2.out.trans (hb3.mono HB2.out.size))
      have HBW := hid hb
      clear hb hb3 C3
      cases b with
      | true =>
        have hw := HBW.out.1 rfl
        have e := R6.out h20 HJ.out hw
        subst e
        clear hw
        go_wp2_with fail
        go_ret
        exact ⟨rfl, HB3.out⟩
      | false =>
        have e := R0.out h20 HJ.out (fun h => by have := HBW.out.2 h; cases this)
        subst e
        go_wp2_with fail
        go_ret
        exact ⟨rfl, HB3.out⟩

theorem lineI_ok {px py : Nat → Int} {n : Nat} {xs : List (Int × Int)} (h : lineI px py n xs = 0) : xs.length ≤ 20 ∧ (∀ x ∈ xs, Jn n x) ∧ Lok px py n (toN xs) := by
  unfold lineI at h
  by_cases h1 : 20 < xs.length
  · rw [if_pos h1] at h; cases h
  · rw [if_neg h1] at h
    by_cases h2 : ∀ x ∈ xs, Jn n x
    · rw [if_neg (fun k => k h2)] at h
      by_cases h3 : ∃ i, i < (toN xs).length ∧ wayB px py n (toN xs) i
      · rw [if_pos h3] at h; cases h
      · have nb : ∀ i, (hi : i < (toN xs).length) → ∀ p, p < n → betwB px py (toN xs)[i].1 (toN xs)[i].2 p = false := fun i hi p hp => by
          cases hb : betwB px py (toN xs)[i].1 (toN xs)[i].2 p with
          | false => rfl
          | true =>
            exfalso
            refine h3 ⟨i, hi, .inl ⟨p, hp, ?_⟩⟩
            rw [List.getD_eq_getElem?_getD, List.getElem?_eq_getElem hi]
            exact hb
        have nc : ∀ i j, (hi : i < (toN xs).length) → (hj : j < (toN xs).length) → j < i → crossB px py (toN xs)[i].1 (toN xs)[i].2 (toN xs)[j].1 (toN xs)[j].2 = false := fun i j hi hj hji => by
          cases hb : crossB px py (toN xs)[i].1 (toN xs)[i].2 (toN xs)[j].1 (toN xs)[j].2 with
          | false => rfl
          | true =>
            exfalso
            refine h3 ⟨i, hi, .inr ⟨j, hji, ?_⟩⟩
            rw [List.getD_eq_getElem?_getD, List.getElem?_eq_getElem hi, List.getD_eq_getElem?_getD, List.getElem?_eq_getElem hj]
            exact hb
        refine ⟨by omega, h2, ⟨toN_lt h2, fun x hx y hy => ?_, fun x hx p hp => ?_⟩⟩
        · obtain ⟨i, hi, rfl⟩ := List.getElem_of_mem hx
          obtain ⟨j, hj, rfl⟩ := List.getElem_of_mem hy
          rcases Nat.lt_trichotomy i j with k | k | k
          · rw [crossB_pair]; exact nc j i hj hi k
          · subst k; exact crossB_self _ _ _ _
          · exact nc i j hi hj k
        · obtain ⟨i, hi, rfl⟩ := List.getElem_of_mem hx
          exact nb i hi p hp
    · rw [if_pos h2] at h; cases h

end Go.Proofs.YtdbebbbceeopaaaGreat
