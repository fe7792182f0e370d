import Derived.Test.YtdbebbbceeopaaaGreatN22
import Derived.Test.YtdbebbbceeopaaaGreatN8
import Derived.Test.YtdbebbbceeopaaaGreatN20
import Derived.Test.YtdbebbbceeopaaaGreatN15
import Derived.Test.YtdbebbbceeopaaaGreatN18
import Derived.Test.YtdbebbbceeopaaaGreatN3
set_option linter.unusedSimpArgs false
namespace Go.Proofs.YtdbebbbceeopaaaGreat
open Go.RowKit Go.Maps Go.Shelf
open Go.Sort (grow Holds putRow SWO PermIn SortedIn alloc_eq_grow grow_grow cell?_grow cell?_putRow_other)

/-- A triangle's three numbers. -/
abbrev T3 := Nat × Nat × Nat

def enc3 (t : T3) : List Value := [.int .i64 t.1, .int .i64 t.2.1, .int .i64 t.2.2]

def cf3 (t u : T3) : Int := orI (cmpI t.1 u.1) (orI (cmpI t.2.1 u.2.1) (cmpI t.2.2 u.2.2))

def lt3 (t u : T3) : Prop := t.1 < u.1 ∨ (t.1 = u.1 ∧ (t.2.1 < u.2.1 ∨ (t.2.1 = u.2.1 ∧ t.2.2 < u.2.2)))

theorem cf3_lt (t u : T3) : (cf3 t u < 0) ↔ lt3 t u := by
  unfold cf3 lt3 orI cmpI
  obtain ⟨a, b, c⟩ := t
  obtain ⟨d, e, f⟩ := u
  dsimp only
  rcases Nat.lt_trichotomy a d with h | h | h
  · have h1 : (a : Int) < d := by omega
    simp [h1, h]
  · subst h
    rcases Nat.lt_trichotomy b e with h | h | h
    · have h1 : (b : Int) < e := by omega
      simp [h1, h]
    · subst h
      rcases Nat.lt_trichotomy c f with h | h | h
      · have h1 : (c : Int) < f := by omega
        simp [h1, h]
      · subst h; simp
      · have h1 : ¬ (c : Int) < f := by omega
        have h2 : (f : Int) < c := by omega
        have h3 : ¬ c < f := by omega
        simp [h1, h2, h3]
    · have h1 : ¬ (b : Int) < e := by omega
      have h2 : (e : Int) < b := by omega
      have h3 : ¬ b < e := by omega
      have h4 : ¬ b = e := by omega
      simp [h1, h2, h3, h4]
  · have h1 : ¬ (a : Int) < d := by omega
    have h2 : (d : Int) < a := by omega
    have h3 : ¬ a < d := by omega
    have h4 : ¬ a = d := by omega
    simp [h1, h2, h3, h4]

theorem cf3_swo : SWO (ltOf cf3) := by
  refine ⟨fun x => ?_, fun x y z h1 h2 => ?_, fun x y z h1 h2 => ?_⟩
  · unfold ltOf; rw [decide_eq_false_iff_not, cf3_lt]; unfold lt3; omega
  · unfold ltOf at *
    rw [decide_eq_true_iff, cf3_lt] at *
    unfold lt3 at *; omega
  · unfold ltOf at *
    rw [decide_eq_false_iff_not, cf3_lt] at *
    unfold lt3 at *; omega

set_option maxHeartbeats 800000 in
theorem or3_any (b : Nat) (x y z : Int) (w : World) (h0 : w.cell? ⟨b, 0, none⟩ = some (.int .i64 x)) (h1 : w.cell? ⟨b, 1, none⟩ = some (.int .i64 y)) (h2 : w.cell? ⟨b, 2, none⟩ = some (.int .i64 z)) :
    Calls Tryz.prog 80 #[.slice (some ⟨b, 0, none⟩) 3 3] w fun e w' => e = .returned (.int .i64 (orI x (orI y z))) ∧ w' = w := by
  unfold orI
  by_cases hx : x = 0
  · subst hx
    by_cases hy : y = 0
    · subst hy
      by_cases hz : z = 0
      · subst hz
        go_enter Tryz.func80, Tryz.ntmps80
        go_wp2
        refine wp_loop_rounds 4 ?_
        rw [rounds_succ]
        go_wp2
        rw [rounds_succ]
        go_wp2
        rw [rounds_succ]
        go_wp2
        rw [rounds_succ]
        go_wp2
        go_ret
        exact ⟨rfl, rfl⟩
      · have hz' : (z != 0) = true := by simpa using hz
        go_enter Tryz.func80, Tryz.ntmps80
        go_wp2
        refine wp_loop_rounds 3 ?_
        rw [rounds_succ]
        go_wp2
        rw [rounds_succ]
        go_wp2
        rw [rounds_succ]
        go_wp2
        go_ret
        exact ⟨rfl, rfl⟩
    · have hy' : (y != 0) = true := by simpa using hy
      rw [if_pos hy]
      go_enter Tryz.func80, Tryz.ntmps80
      go_wp2
      refine wp_loop_rounds 2 ?_
      rw [rounds_succ]
      go_wp2
      rw [rounds_succ]
      go_wp2
      go_ret
      exact ⟨rfl, rfl⟩
  · have hx' : (x != 0) = true := by simpa using hx
    rw [if_pos hx]
    go_enter Tryz.func80, Tryz.ntmps80
    go_wp2
    refine wp_loop_rounds 1 ?_
    rw [rounds_succ]
    go_wp2
    go_ret
    exact ⟨rfl, rfl⟩

set_option maxRecDepth 100000 in
set_option maxHeartbeats 4000000 in
theorem closure3_any (x y : T3) (w : World) :
    Calls Tryz.prog 79 #[.agg (enc3 x).toArray, .agg (enc3 y).toArray] w fun e w' => e = .returned (.int .i64 (cf3 x y)) ∧ ∃ q os', w' = grow (w.drewN q) os' := by
  unfold enc3 cf3
  generalize (x.1 : Int) = a0
  generalize (x.2.1 : Int) = a1
  generalize (x.2.2 : Int) = a2
  generalize (y.1 : Int) = b0
  generalize (y.2.1 : Int) = b1
  generalize (y.2.2 : Int) = b2
  have C1 := hid compareI_any
  obtain ⟨W1, hW1⟩ : ∃ W1 : World, W1 = (w.alloc (.cells #[.int .i64 a0, .int .i64 a1, .int .i64 a2] 46)).alloc (.cells #[.int .i64 b0, .int .i64 b1, .int .i64 b2] 46) := ⟨_, rfl⟩
  have lt1 : w.heap.size < (w.alloc (.cells #[.int .i64 a0, .int .i64 a1, .int .i64 a2] 46)).heap.size := by simp
  have c0 : W1.cell? ⟨w.heap.size, 0, none⟩ = some (.int .i64 a0) := by rw [hW1]; exact (World.cell?_alloc_lt _ _ _ lt1).trans (World.cell?_alloc_at _ _ _ _ rfl)
  have c1 : W1.cell? ⟨w.heap.size, 1, none⟩ = some (.int .i64 a1) := by rw [hW1]; exact (World.cell?_alloc_lt _ _ _ lt1).trans (World.cell?_alloc_at _ _ _ _ rfl)
  have c2 : W1.cell? ⟨w.heap.size, 2, none⟩ = some (.int .i64 a2) := by rw [hW1]; exact (World.cell?_alloc_lt _ _ _ lt1).trans (World.cell?_alloc_at _ _ _ _ rfl)
  have d0 : W1.cell? ⟨w.heap.size + 1, 0, none⟩ = some (.int .i64 b0) := by rw [hW1]; exact World.cell?_alloc_at _ _ _ _ (by simp)
  have d1 : W1.cell? ⟨w.heap.size + 1, 1, none⟩ = some (.int .i64 b1) := by rw [hW1]; exact World.cell?_alloc_at _ _ _ _ (by simp)
  have d2 : W1.cell? ⟨w.heap.size + 1, 2, none⟩ = some (.int .i64 b2) := by rw [hW1]; exact World.cell?_alloc_at _ _ _ _ (by simp)
  go_enter Tryz.func79, Tryz.ntmps79
  go_wp2_with fail
  rw [← hW1]
  have HW1 := hid hW1
  clear hW1
  go_region_held3 (fun W => W.cell? ⟨w.heap.size, 0, none⟩ = some (.int .i64 a0) ∧ W.cell? ⟨w.heap.size, 1, none⟩ = some (.int .i64 a1) ∧ W.cell? ⟨w.heap.size, 2, none⟩ = some (.int .i64 a2) ∧ W.cell? ⟨w.heap.size + 1, 0, none⟩ = some (.int .i64 b0) ∧ W.cell? ⟨w.heap.size + 1, 1, none⟩ = some (.int .i64 b1) ∧ W.cell? ⟨w.heap.size + 1, 2, none⟩ = some (.int .i64 b2)) (go_keep)
    (first
      | (go_at_call 81; refine (C1.out _ _ _).mono ?_; rintro e w' ⟨rfl, rfl⟩)
      | (go_at_call 80; refine (or3_any _ _ _ _ _ (World.cell?_alloc_at _ _ _ _ rfl) (World.cell?_alloc_at _ _ _ _ rfl) (World.cell?_alloc_at _ _ _ _ rfl)).mono ?_; rintro e w' ⟨rfl, rfl⟩))
  go_wp2_with fail
  go_ret
  refine ⟨rfl, ?_⟩
  refine ⟨1, #[Obj.cells #[.int .i64 a0, .int .i64 a1, .int .i64 a2] 46] ++ (#[Obj.cells #[.int .i64 b0, .int .i64 b1, .int .i64 b2] 46] ++ #[Obj.cells #[.int .i64 (cmpI a0 b0), .int .i64 (cmpI a1 b1), .int .i64 (cmpI a2 b2)] 3]), ?_⟩
  rw [HW1.out, alloc_eq_grow, alloc_eq_grow, alloc_eq_grow, grow_grow, grow_grow]
  rfl
end Go.Proofs.YtdbebbbceeopaaaGreat

set_option linter.unusedSimpArgs false
namespace Go.Proofs.YtdbebbbceeopaaaGreat
open Go.RowKit Go.Maps Go.Shelf
open Go.Sort (grow Holds putRow SWO PermIn SortedIn alloc_eq_grow grow_grow cell?_grow cell?_putRow_other)
open Go.Sort

def flat3 (l : List T3) : List Value := l.flatMap enc3

theorem flat3_cons (x : T3) (r : List T3) : flat3 (x :: r) = .int .i64 x.1 :: .int .i64 x.2.1 :: .int .i64 x.2.2 :: flat3 r := rfl
theorem flat3_append (l r : List T3) : flat3 (l ++ r) = flat3 l ++ flat3 r := by unfold flat3; rw [List.flatMap_append]
theorem flat3_len (l : List T3) : (flat3 l).length = l.length * 3 := by
  induction l with
  | nil => rfl
  | cons x r ih => rw [flat3_cons]; simp [ih]; omega

theorem flat3_get : ∀ (l : List T3) (i c : Nat), c < 3 → (flat3 l)[i * 3 + c]? = (l[i]?).bind fun x => (enc3 x)[c]?
  | [], i, c, h => by simp [flat3]
  | x :: r, 0, c, h => by
    rw [flat3_cons]
    match c, h with
    | 0, _ => rfl
    | 1, _ => rfl
    | 2, _ => rfl
  | x :: r, i + 1, c, h => by
    rw [flat3_cons, show (i + 1) * 3 + c = i * 3 + c + 1 + 1 + 1 by omega, List.getElem?_cons_succ, List.getElem?_cons_succ, List.getElem?_cons_succ, flat3_get r i c h]
    rfl

theorem flatK_flat3 (d : Array T3) : (flatK enc3 3 d).toList = flat3 d.toList := by
  apply List.ext_getElem?
  intro t
  by_cases ht : t < d.size * 3
  · have e : t = t / 3 * 3 + t % 3 := by omega
    have hi : t / 3 < d.size := by omega
    have hg := get_flatK enc3 3 d t ht
    have hs : t < (flatK enc3 3 d).size := by simpa using ht
    rw [Array.getElem?_toList, Array.getElem?_eq_getElem hs, ← getElem!_pos (flatK enc3 3 d) t hs, hg]
    conv => rhs; rw [e]
    rw [flat3_get d.toList (t / 3) (t % 3) (by omega), Array.getElem?_toList, Array.getElem?_eq_getElem hi, getElem!_pos d (t / 3) hi]
    have h3 : t % 3 < (enc3 d[t / 3]).length := by show t % 3 < 3; omega
    simp [getElem!_pos, h3, List.getElem?_eq_getElem h3]
  · rw [List.getElem?_eq_none (by simp; omega), List.getElem?_eq_none (by rw [flat3_len]; simp; omega)]

theorem owns_put {w : World} {base : Nat} {e : TypeId} {g n cap q size : Nat} {xs : List Value} {F : Array Value} (h : w.ownsRow base e size (.slice (some ⟨g, 0, none⟩) n cap) n xs) (hF : F.size = n * size) (os : Array Obj) :
    (grow (putRow id (Sort.ahead w q) g 0 F) os).ownsRow base e size (.slice (some ⟨g, 0, none⟩) n cap) n F.toList := by
  rcases h.2 with ⟨e0, _⟩ | ⟨g', cap', cur, e0, hb, hg, hn, hm, hs, ht⟩
  · cases e0
  · injection e0 with e1 _ e3
    injection e1 with e1
    injection e1 with e1
    subst e1; subst e3
    have hle : n * size ≤ cap * size := Nat.mul_le_mul_right _ hn
    refine ⟨by simpa using hF, .inr ⟨g, cap, Sort.putCells id 0 F cur, rfl, hb, ?_, hn, hm, by simpa [Sort.putCells] using hs, ?_⟩⟩
    · have hlt : g < (putRow id (Sort.ahead w q) g 0 F).heap.size := by rw [Sort.size_putRow]; exact (Array.getElem?_eq_some_iff.1 hg).1
      show ((putRow id (Sort.ahead w q) g 0 F).heap ++ os)[g]? = _
      rw [Array.getElem?_append_left hlt]
      simp [putRow, Sort.mapBlock, Sort.ahead, Array.getElem?_modify, hg, Sort.onCells]
    · apply List.ext_getElem?
      intro j
      rw [List.getElem?_take, Array.getElem?_toList, Array.getElem?_toList]
      by_cases hj : j < n * size
      · have hjc : j < cur.size := by omega
        simp only [if_pos hj, Sort.putCells, Array.getElem?_mapIdx, Array.getElem?_eq_getElem hjc, Option.map_some]
        rw [if_pos (by omega), Array.getElem?_eq_getElem (by omega)]
        simp [getElem!_pos, show j < F.size by omega]
      · have : ¬ j < F.size := by omega
        simp [hj, this]

theorem holds_own3 {w : World} {base g cap : Nat} {l : List T3} (h : w.ownsRow base 46 3 (.slice (some ⟨g, 0, none⟩) l.length cap) l.length (flat3 l)) : HoldsK enc3 3 w g 0 l.toArray := by
  intro j hj
  have hj' : j < l.length * 3 := by simpa using hj
  have e : (flatK enc3 3 l.toArray)[j]? = (flat3 l)[j]? := by
    rw [← Array.getElem?_toList, flatK_flat3]
  refine ⟨?_, by rw [Nat.zero_add]; exact h.frozenAt j⟩
  rw [Nat.zero_add, h.cellAt j hj', ← e, Array.getElem?_eq_getElem hj, getElem!_pos _ j hj]
  rfl

/-- What has been collected of a mesh's triangles. -/
structure Col (M : Nat → Nat → Option Nat) (left : Lit → Bool) (l : List T3) : Prop where
  nd : l.Nodup
  tri : ∀ t ∈ l, M t.1 t.2.1 = some t.2.2 ∧ t.1 < t.2.1 ∧ t.1 < t.2.2 ∧ t.1 < 1000 ∧ t.2.1 < 1000 ∧ left (klL t.1 t.2.1) = false
  all : ∀ a b c, M a b = some c → a < 1000 → b < 1000 → a < b → a < c → left (klL a b) = false → (a, b, c) ∈ l

theorem Col.skip {M : Nat → Nat → Option Nat} {left : Lit → Bool} {l : List T3} {u v d : Nat} (h : Col M left l) (hu : u < 1000) (hv : v < 1000) (hd : M u v = some d) (hn : ¬ (u < v ∧ u < d)) : Col M (fun z => left z && !z.sameKey (klL u v)) l := by
  refine ⟨h.nd, fun t ht => ?_, fun a b c e ha hb h1 h2 hf => ?_⟩
  · obtain ⟨t1, t2, t3, t4, t5, t6⟩ := h.tri t ht
    exact ⟨t1, t2, t3, t4, t5, by simp [t6]⟩
  · rw [Bool.and_eq_false_iff] at hf
    rcases hf with hf | hf
    · exact h.all a b c e ha hb h1 h2 hf
    · simp at hf
      obtain ⟨rfl, rfl⟩ := same_kl ha hb hu hv hf
      rw [hd] at e
      cases e
      exact absurd ⟨h1, h2⟩ hn

theorem Col.add {M : Nat → Nat → Option Nat} {left : Lit → Bool} {l : List T3} {u v d : Nat} (h : Col M left l) (hu : u < 1000) (hv : v < 1000) (hd : M u v = some d) (h1 : u < v) (h2 : u < d) (hl : left (klL u v) = true) : Col M (fun z => left z && !z.sameKey (klL u v)) (l ++ [(u, v, d)]) := by
  have ks : (klL u v).sameKey (klL u v) = true := WideAt.sameKey_self (kl_key u v hu hv)
  refine ⟨?_, fun t ht => ?_, fun a b c e ha hb k1 k2 hf => ?_⟩
  · refine List.nodup_append.2 ⟨h.nd, by simp, fun t ht t' ht' e => ?_⟩
    simp at ht'
    subst ht'
    subst e
    have := (h.tri _ ht).2.2.2.2.2
    dsimp only at this
    rw [hl] at this
    cases this
  · rcases List.mem_append.1 ht with ht | ht
    · obtain ⟨t1, t2, t3, t4, t5, t6⟩ := h.tri t ht
      exact ⟨t1, t2, t3, t4, t5, by simp [t6]⟩
    · simp at ht
      subst ht
      exact ⟨hd, h1, h2, hu, hv, by simp [ks]⟩
  · rw [Bool.and_eq_false_iff] at hf
    rcases hf with hf | hf
    · exact List.mem_append_left _ (h.all a b c e ha hb k1 k2 hf)
    · simp at hf
      obtain ⟨rfl, rfl⟩ := same_kl ha hb hu hv hf
      rw [hd] at e
      cases e
      exact List.mem_append_right _ (by simp)
end Go.Proofs.YtdbebbbceeopaaaGreat

set_option linter.unusedSimpArgs false
namespace Go.Proofs.YtdbebbbceeopaaaGreat
open Go.RowKit Go.Maps Go.Shelf
open Go.Sort

theorem owns_len3 {w : World} {base n : Nat} {v : Value} {xs : List Value} (h : w.ownsRow base 46 3 v n xs) : ∃ a c, v = .slice a n c := by
  rcases h.2 with ⟨rfl, rfl⟩ | ⟨g', cap', cur, h', _⟩
  · exact ⟨_, _, rfl⟩
  · exact ⟨_, _, h'⟩

theorem own_ge3 {w : World} {base : Nat} {v : Value} {n : Nat} {xs : List Value} (h : w.ownsRow base 46 3 v n xs) : ∀ g, v.ownBlock = some g → base ≤ g ∧ g < w.heap.size := by
  intro g hg
  rcases h.2 with ⟨rfl, _⟩ | ⟨g', cap', cur, rfl, hb, hh, _⟩
  · cases hg
  · cases hg
    exact ⟨hb, (Array.getElem?_eq_some_iff.1 hh).1⟩

theorem owns_shape3 {w : World} {base n : Nat} {v : Value} {xs : List Value} (h : w.ownsRow base 46 3 v n xs) (hn : 0 < n) : ∃ g c, v = .slice (some ⟨g, 0, none⟩) n c ∧ base ≤ g ∧ g < w.heap.size ∧ n ≤ c := by
  rcases h.2 with ⟨_, rfl⟩ | ⟨g', cap', cur, h', hb, hg, hc, _⟩
  · omega
  · exact ⟨g', cap', h', hb, (Array.getElem?_eq_some_iff.1 hg).1, hc⟩

theorem cmpLays3 (g sz : Nat) (w : World) : CmpLays Tryz.prog 79 #[] enc3 3 cf3 g 0 sz w := by
  intro m os dk hs x y
  exact closure3_any x y _

theorem below_sortK {B g q : Nat} {w : World} {d : Array T3} (os : Array Obj) (hg : B ≤ g) (hB : B ≤ w.heap.size) : Below B w (sortWorldK enc3 3 w g 0 q d os) := by
  unfold sortWorldK putRowK
  have h1 := Lib.below_putRow (enc := id) (q := q) (d := flatK enc3 3 d) (Below.refl B w) hg
  have h2 := Lib.below_grow B (putRow id (Sort.ahead w q) g 0 (flatK enc3 3 d)) (by rw [Sort.size_putRow]; exact hB) 0 os
  exact h1.trans h2

/-- The sorted list of a mesh's triangles. -/
structure Tris (M : Nat → Nat → Option Nat) (d : Array T3) : Prop where
  tri : ∀ t ∈ d.toList, M t.1 t.2.1 = some t.2.2 ∧ t.1 < t.2.1 ∧ t.1 < t.2.2
  all : ∀ a b c, M a b = some c → a < b → a < c → (a, b, c) ∈ d.toList
  nd : d.toList.Nodup
  srt : SortedIn (ltOf cf3) 0 d.size d

set_option maxRecDepth 100000 in
set_option maxHeartbeats 4000000 in
theorem trianglesM_any (mb bm N pb po n cap : Nat) (px py : Nat → Int) (M : Nat → Nat → Option Nat) (lv : Value) (ls : List (Nat × Nat)) (w : World) (hM : MeshAt w mb bm N pb po n cap px py M lv ls) (hN : N ≤ 1600) (hlt : ∀ a b c, M a b = some c → a < n ∧ b < n) (hn : n ≤ 40) (hex : ∃ a b c, M a b = some c ∧ a < b ∧ a < c) :
    Calls Tryz.prog 44 #[.pointer (some ⟨mb, 0, none⟩)] w fun e w' => Below w.heap.size w w' ∧ ∃ (g cp : Nat) (d : Array T3), e = .returned (.slice (some ⟨g, 0, none⟩) d.size cp) ∧ w.heap.size ≤ g ∧ d.size ≤ 1600 ∧ w'.ownsRow w.heap.size 46 3 (.slice (some ⟨g, 0, none⟩) d.size cp) d.size (flat3 d.toList) ∧ Tris M d := by
  obtain ⟨i0, hi, hz0, hz1, hz2⟩ := info_parts Tryz.info46
  obtain ⟨D, hown, hR⟩ := hM.map
  have HR := hid hR
  have bl := hM.map.lt
  have SZ := hid hown.size_le
  have k1 := hM.c1
  have HO := hid hown
  clear hM hown hR
  go_enter Tryz.func44, Tryz.ntmps44
  go_wp2_with (at_range; refine wpList_range_own _ rfl _ 102 rfl 110 3 Tryz.keyed99 Tryz.underlying102 _ bm N _ rfl HO.out ?_; intro w0 hrg0 hg0 hs0)
  have R0 := hid hrg0
  have BW0 : Hid (Below w.heap.size w w0) := hid ((Below.refl _ _).grown hg0 (Nat.le_refl _) (fun k e => by cases e))
  have Z0 := hid hs0
  clear hrg0 hg0 hs0 k1 HO
  go_frame
  go_loopw [3, 4, 5] (fun v _ _ wr => ∃ (left : Lit → Bool) (cnt : Nat) (l : List T3), Hid (wr.ranges Tryz.prog 110 (plainElem Tryz.prog 3) bm w.heap.size N D left cnt) ∧ Hid (wr.ownsRow (w.heap.size + 1) 46 3 v l.length (flat3 l)) ∧ l.length + cnt ≤ Maps.size D ∧ Hid (∀ kl, left kl = true → Maps.has D kl = true) ∧ Hid (Col M left l) ∧ Hid (Below w.heap.size w wr))
    (fun _ _ _ wr => wr.rangeLeft bm w.heap.size)
  case atStart =>
    refine ⟨_, _, [], R0, hid (World.ownsRow_nil _ _ _ _), by simp, hid (fun _ h => h), hid ⟨List.nodup_nil, (fun t ht => by cases ht), fun a b c e ha hb h1 h2 hf => ?_⟩, BW0⟩
    have := HR.out.has a b ha hb
    rw [hf, e] at this
    cases this
  case round =>
    obtain ⟨left, cnt, l, RG, HO, hlen, HLH, HC, HBW⟩ := hrel
    clear R0 BW0 Z0
    obtain ⟨a1, c1, hv⟩ := owns_len3 HO.out
    subst hv
    go_wp2_with (at_next; refine wpList_next_ranges _ rfl _ rfl 110 Tryz.keyed99 _ (fun x : Value => x) (fun x : Value => x) (fun key _ _ => ⟨key, rfl⟩) (fun v _ _ => ⟨v, rfl⟩) bm w.heap.size N _ _ _ rfl RG.out ?_ ?_)
    · intro h0 hl0
      have ALL : ∀ a b c, M a b = some c → a < b → a < c → (a, b, c) ∈ l := fun a b c e h1 h2 => by
        have := hlt a b c e
        exact HC.out.all a b c e (by omega) (by omega) h1 h2 (hl0 _)
      obtain ⟨a, b, c, e, h1, h2⟩ := hex
      have hpos : 0 < l.length := List.length_pos_of_mem (ALL a b c e h1 h2)
      obtain ⟨g, cp, hv, hg1, hg2, hcp⟩ := owns_shape3 HO.out hpos
      simp only [Value.slice.injEq, true_and] at hv
      obtain ⟨rfl, rfl⟩ := hv
      have eg : ∀ args w, (callFunc 79 args).run Tryz.prog w = .ok (.enter 79 args) w := enters_of Tryz.func79 (by kernel_rfl) rfl
      have hds : l.toArray.size = l.length := by simp
      have hso := AnyQ.slices_SortFunc Tryz.sortT 3 Tryz.isAgg46 Tryz.sizeOf46 enc3 (fun _ => rfl) (fun x v hv => by simp [enc3] at hv; rcases hv with rfl | rfl | rfl <;> rfl) cf3 cf3_swo 79 #[] g 0 c1 l.toArray wr eg (cmpLays3 g _ wr) (holds_own3 HO.out) hg2 (by rw [hds]; have := SZ.out; omega)
      change Calls Tryz.prog 78 _ _ _ at hso
      rw [hds] at hso
      have SO : Hid (Calls Tryz.prog 78 #[.slice (some ⟨g, 0, none⟩) l.length c1, .func (.func 79) #[] #[]] wr fun e w' => e = .returned (.tuple #[]) ∧ Below w.heap.size w w' ∧ ∃ d : Array T3, d.size = l.length ∧ w'.ownsRow w.heap.size 46 3 (.slice (some ⟨g, 0, none⟩) l.length c1) l.length (flat3 d.toList) ∧ Tris M d) := hid (by
        refine hso.mono ?_
        rintro e w' ⟨rfl, d', q, os, hp, hs, rfl⟩
        have hsz : d'.size = l.length := by have := hp.1; simp at this; exact this
        have hpm : d'.toList.Perm l := by
          have := hp.2.2
          rw [show d'.extract 0 l.length = d' from by rw [← hsz]; simp, show l.toArray.extract 0 l.length = l.toArray from by simp] at this
          simpa using this
        refine ⟨rfl, HBW.out.trans (below_sortK os (by omega) HBW.out.size), d', hsz, ?_, ⟨fun t ht => ?_, fun a b c e h1 h2 => hpm.mem_iff.2 (ALL a b c e h1 h2), hpm.nodup_iff.2 HC.out.nd, by rw [hsz]; exact hs⟩⟩
        · have h := owns_put (q := q) (F := flatK enc3 3 d') HO.out (by simp [hsz]) os
          rw [flatK_flat3] at h
          unfold sortWorldK putRowK
          exact ⟨h.1, by
            rcases h.2 with h2 | ⟨g', cap', cur, k1, k2, k3⟩
            · exact .inl h2
            · exact .inr ⟨g', cap', cur, k1, by omega, k3⟩⟩
        · have := HC.out.tri t (hpm.mem_iff.1 ht)
          exact ⟨this.1, this.2.1, this.2.2.1⟩)
      have hl16 : l.length ≤ 1600 := by have := SZ.out; omega
      have hgs : Hid (w.heap.size ≤ g) := hid (by omega)
      clear hl0 ALL e hso eg hds
      go_wp2_with fail
      refine SO.out.mono ?_
      rintro e w2 ⟨rfl, hb2, d, hd, ho2, ht2⟩
      have HB2 := hid hb2
      have HO2 := hid ho2
      have HT2 := hid ht2
      have HD := hid hd
      clear hb2 ho2 ht2 hd SO
      go_wp2_with fail
      go_ret
      refine ⟨HB2.out, g, c1, d, by rw [HD.out]; rfl, hgs.out, by rw [HD.out]; exact hl16, by rw [HD.out]; exact HO2.out, HT2.out⟩
    · intro key c kl y1 y2 w1 cnt1 hkey hlk hc hat hrg1 hclt hg1 hs1 hen
      obtain ⟨u, v, d, hu, hv, rfl, rfl, hd, rfl⟩ := side_of (y := (y1, y2)) HR.out hkey (HLH.out _ hlk) hc hat
      have rlt := RG.out.lt
      have vne : (Value.slice a1 l.length c1).ownBlock ≠ some w.heap.size := fun e => by have := own_ge3 HO.out _ e; omega
      have HO1 : Hid (w1.ownsRow (w.heap.size + 1) 46 3 (.slice a1 l.length c1) l.length (flat3 l)) := hid (HO.out.kept hg1 (.inr vne))
      have HB1 : Hid (Below w.heap.size w w1) := hid (HBW.out.grown hg1 HBW.out.size (fun k e => by have := Option.some.inj e; omega))
      obtain ⟨W2, hW2⟩ : ∃ W2, W2 = w1.alloc (.cells #[.int .i64 (u : Nat), .int .i64 (v : Nat)] 110) := ⟨_, rfl⟩
      have B2 : Hid (Below w1.heap.size w1 W2) := hid (by rw [hW2]; exact (Below.refl _ _).alloc (Nat.le_refl _) _)
      have RG2 : Hid (W2.ranges Tryz.prog 110 (plainElem Tryz.prog 3) bm w.heap.size N D (fun z => left z && !z.sameKey (klL u v)) cnt1) := hid (ranges_same hrg1 (B2.out.block bm (by have := hrg1.owns.lt; omega)) (B2.out.block _ (by have := hrg1.lt; omega)))
      have HO2 : Hid (W2.ownsRow (w.heap.size + 1) 46 3 (.slice a1 l.length c1) l.length (flat3 l)) := hid (by rw [hW2]; exact HO1.out.alloc _)
      have HB2 : Hid (Below w.heap.size w W2) := hid (HB1.out.trans (B2.out.mono HB1.out.size))
      have HLH2 : Hid (∀ kl, (left kl && !kl.sameKey (klL u v)) = true → Maps.has D kl = true) := hid (fun kl h => HLH.out kl (by simp at h; exact h.1))
      have RL : Hid (cnt1 < cnt) := hid hclt
      have LE := hid RG.out.left_eq
      have c1' : cnt1 < cnt := hclt
      by_cases huv : u < v
      · have duv : decide ((u : Int) < (v : Int)) = true := by simp; omega
        by_cases hud : u < d
        · have dud : decide ((u : Int) < (d : Int)) = true := by simp; omega
          have HC2 := hid (HC.out.add hu hv hd huv hud hlk)
          clear hkey hlk hc hat hrg1 hg1 hs1 hclt
          have S2 : Hid (W2.heap.size = w1.heap.size + 1) := hid (by rw [hW2]; simp)
          go_wp2_with (at_builtin; go_must (rw [← hW2]; refine wpList_append_own _ rfl _ _ 28 rfl (w.heap.size + 1) 46 i0 (.agg #[.int .i64 0, .int .i64 0, .int .i64 0]) 3 24 Tryz.underlying28 hi hz0 hz1 hz2 rfl (by decide) _ _ _ rfl (HO2.out.alloc _) ⟨w1.heap.size + 1, 0, none⟩ 1 1 [.int .i64 (u : Nat), .int .i64 (v : Nat), .int .i64 (d : Nat)] rfl rfl ?c1 ?c2 ?c3 ?c4 ?c5 ?_))
          case c1 =>
            intro j z hj
            have hadd : (⟨w1.heap.size + 1, 0, none⟩ : Addr).add j = ⟨w1.heap.size + 1, j, none⟩ := by unfold Addr.add; split <;> simp_all
            rw [hadd, World.cell?_alloc_at _ _ _ _ S2.out.symm]
            simpa using hj
          case c2 => intro z hz; simp at hz; rcases hz with rfl | rfl | rfl <;> rfl
          case c3 => have := SZ.out; unfold maxLen; omega
          case c4 => have := SZ.out; omega
          case c5 => have := HB2.out.size; have := S2.out; have := HB1.out.size; simp; omega
          intro v' w3 hown' hgrow _
          try rw [← hW2] at hgrow
          have vb : ∀ g, (Value.slice a1 l.length c1).ownBlock = some g → w.heap.size + 1 ≤ g := fun g e => (own_ge3 HO2.out g e).1
          have KB : ∀ k, k ≤ w.heap.size → w3.heap[k]? = W2.heap[k]? := fun k hk => by
            have hk2 : k < W2.heap.size := by have := S2.out; have := HB1.out.size; omega
            rw [hgrow.block k (by simp; omega) (fun e => by have := vb k e.symm; omega)]
            exact Below.heap_alloc _ _ _ hk2
          have RG3 : Hid (w3.ranges Tryz.prog 110 (plainElem Tryz.prog 3) bm w.heap.size N D (fun z => left z && !z.sameKey (klL u v)) cnt1) := hid (ranges_same RG2.out (KB bm (by omega)) (KB _ (Nat.le_refl _)))
          have HB3 : Hid (Below w.heap.size w w3) := hid ⟨hgrow.os.trans HB2.out.os, hgrow.tape.trans HB2.out.tape, hgrow.output.trans HB2.out.output, by have := hgrow.size; have := HB2.out.size; simp at *; omega, fun k hk => (KB k (by omega)).trans (HB2.out.block k hk)⟩
          have HO3 : Hid (w3.ownsRow (w.heap.size + 1) 46 3 v' (l ++ [(u, v, d)]).length (flat3 (l ++ [(u, v, d)]))) := hid (by
            rw [flat3_append, List.length_append]
            exact hown')
          have hl3 : (l ++ [(u, v, d)]).length = l.length + 1 := by simp
          have hl3b : (l ++ [(u, v, d)]).length + cnt1 ≤ Maps.size D := by omega
          clear hown' hgrow vb KB hW2 hl3
          go_wp2_with fail
          go_roundw
          case rel => exact ⟨_, cnt1, l ++ [(u, v, d)], RG3, HO3, hl3b, HLH2, HC2, HB3⟩
          case measure => rw [RG3.out.left_eq, LE.out]; exact RL.out
        · have dud : decide ((u : Int) < (d : Int)) = false := by simp; omega
          have HC2 := hid (HC.out.skip hu hv hd (by omega))
          clear hkey hlk hc hat hrg1 hg1 hs1 hclt
          go_wp2_with fail
          rw [← hW2]
          clear hW2
          go_roundw
          case rel => exact ⟨_, cnt1, l, RG2, HO2, by omega, HLH2, HC2, HB2⟩
          case measure => rw [RG2.out.left_eq, LE.out]; exact RL.out
      · have duv : decide ((u : Int) < (v : Int)) = false := by simp; omega
        have HC2 := hid (HC.out.skip hu hv hd (by omega))
        clear hkey hlk hc hat hrg1 hg1 hs1 hclt
        go_wp2_with fail
        rw [← hW2]
        clear hW2
        go_roundw
        case rel => exact ⟨_, cnt1, l, RG2, HO2, by omega, HLH2, HC2, HB2⟩
        case measure => rw [RG2.out.left_eq, LE.out]; exact RL.out
end Go.Proofs.YtdbebbbceeopaaaGreat

set_option linter.unusedSimpArgs false
namespace Go.Proofs.YtdbebbbceeopaaaGreat
open Go.RowKit Go.Maps
open Go.Sort (SortedIn)
open Geo (Mesh Cor Quad flipM Sd bad lift Inj)

set_option maxHeartbeats 1000000 in
theorem allJoin_nil (a : Option Addr) (n cap : Nat) (w : World) :
    Calls Tryz.prog 69 #[.slice a n cap, .slice none 0 0] w fun e w' => e = .returned (.bool true) ∧ w' = w := by
  go_enter Tryz.func69, Tryz.ntmps69
  go_wp2
  refine wp_loop_rounds 1 ?_
  rw [rounds_succ]
  go_wp2
  go_ret
  exact ⟨rfl, rfl⟩

set_option maxHeartbeats 1000000 in
theorem inWay_nil (a : Option Addr) (n cap : Nat) (w : World) :
    Calls Tryz.prog 70 #[.slice a n cap, .slice none 0 0] w fun e w' => e = .returned (.bool false) ∧ Below w.heap.size w w' := by
  go_enter Tryz.func70, Tryz.ntmps70
  go_wp2
  refine wp_loop_rounds 1 ?_
  rw [rounds_succ]
  go_wp2
  go_ret
  exact ⟨rfl, (Below.refl _ _).alloc (Nat.le_refl _) _⟩

set_option maxHeartbeats 1000000 in
theorem lineRef_nil (px py : Nat → Int) (n qb qo cap : Nat) (w : World) (hp : Pts w qb qo n px py) (hn : n ≤ 40) (hbd : ∀ i, i < n → (-1000 ≤ px i ∧ px i ≤ 1000) ∧ (-1000 ≤ py i ∧ py i ≤ 1000)) :
    Calls Tryz.prog 40 #[.slice (some ⟨qb, qo, none⟩) n cap, .slice none 0 0] w fun e w' => e = .returned (.int .i64 0) ∧ Below w.heap.size w w' := by
  have C1 := hid (allJoin_nil (some ⟨qb, qo, none⟩) n cap w)
  have C2 := hid (places_any px py n qb qo cap w hp hn hbd)
  have C3 := hid (fun W => inWay_nil (some ⟨w.heap.size, 0, none⟩) n n W)
  clear hp hbd
  go_enter Tryz.func40, Tryz.ntmps40
  go_wp2_with fail
  refine C1.out.mono ?_
  rintro e w1 ⟨rfl, rfl⟩
  go_wp2_with fail
  refine C2.out.mono ?_
  rintro e w2 ⟨rfl, hb2, _⟩
  have HB2 := hid hb2
  clear hb2
  go_wp2_with fail
  refine (C3.out w2).mono ?_
  rintro e w3 ⟨rfl, hb3⟩
  have HB3 := hid (HB2.out.trans (hb3.mono HB2.out.size))
  clear hb3
  go_wp2_with fail
  go_ret
  exact ⟨rfl, HB3.out⟩

theorem sum_flip {px py : Nat → Int} {n : Nat} {M : Nat → Nat → Option Nat} {a b c d : Nat} (hm : Mesh px py n M) (q : Quad px py M a b c d) : Sd n (flipM M a b c d) (fun u v _ => Geo.c2 px py u v) = Sd n M (fun u v _ => Geo.c2 px py u v) := by
  have h1 := are_c2 (hm.flipQ q)
  have h2 := are_c2 hm
  have h3 := Geo.flip_Are hm q
  omega

/-- What comes of points: a mesh of them as round as can be, its triangles in order. -/
structure Msh (px py : Nat → Int) (n : Nat) (M : Nat → Nat → Option Nat) (hs : List Nat) : Prop where
  mesh : Mesh px py n M
  cor : Cor n M
  sum : Sd n M (fun u v _ => Geo.c2 px py u v) = fanI px py hs (hs.length - 2)
  hull : Geo.IsHull px py n hs
  hl : ∀ y ∈ hs, y < n
  hlen : hs.length ≤ 40
  h3 : 3 ≤ hs.length
  ord : ∃ os : List Nat, (3 ≤ os.length ∧ os.Pairwise (Geo.Lt Geo.Lex px py) ∧ ∀ p, p ∈ os ↔ p < n) ∧ hs = hullOf (T px py) os ∧ Geo.Reach px py n (mesh0 px py os) M

theorem getD_mem {h : List Nat} {y : Nat} (hy : y ∈ h) : ∃ i, i < h.length ∧ h.getD i 0 = y := by
  obtain ⟨i, hi, rfl⟩ := List.getElem_of_mem hy
  exact ⟨i, hi, by simp [List.getD_eq_getElem?_getD, hi]⟩

theorem hull_len {px py : Nat → Int} {n : Nat} {h : List Nat} (H : Geo.IsHull px py n h) : h.length ≤ n := by
  have hnd : h.Nodup := by
    rw [List.nodup_iff_pairwise_ne, List.pairwise_iff_getElem]
    intro i j hi hj hij
    have := H.inj i j hij hj
    simpa [List.getD_eq_getElem?_getD, hi, hj] using this
  have := Geo.sub_len h (List.range n) hnd (fun y hy => by
    obtain ⟨i, hi, rfl⟩ := getD_mem hy
    exact List.mem_range.2 (H.lt i hi))
  simpa using this

theorem ord0 {px py : Nat → Int} {n : Nat} [NeZero n] {d : Array (Fin n)} (h3 : 3 ≤ n) (hr : refI px py n = 0) (hd : d.size = n) (hp : d.toList.Perm (List.finRange n)) (hs : SortedIn (ltOf (cfI px py)) 0 n d) : 3 ≤ (nums d).length ∧ (nums d).Pairwise (Geo.Lt Geo.Lex px py) ∧ ∀ p, p ∈ nums d ↔ p < n :=
  ⟨by rw [nums_len, hd]; exact h3, nums_sorted hd hp hs (refI_ne hr), nums_mem hp⟩

theorem msh0 {px py : Nat → Int} {n : Nat} [NeZero n] {d : Array (Fin n)} (h3 : 3 ≤ n) (hn : n ≤ 40) (hr : refI px py n = 0) (hd : d.size = n) (hp : d.toList.Perm (List.finRange n)) (hs : SortedIn (ltOf (cfI px py)) 0 n d) : Msh px py n (mesh0 px py (nums d)) (hullOf (T px py) (nums d)) := by
  have hne := refI_ne hr
  have hw := refI_wide h3 hr
  have H := hullOf_isHull h3 hd hp hs hne hw
  obtain ⟨i, hi, hT⟩ := hw
  have hmem := nums_mem hp
  have wide : Geo.Wide px py (nums d) := ⟨0, (hmem 0).2 (by omega), 1, (hmem 1).2 (by omega), i, (hmem i).2 hi, hT⟩
  have h := mesh0_ok (n := n) (os := nums d) (by rw [nums_len, hd]; exact h3) (nums_sorted hd hp hs hne) hmem wide
  exact ⟨h.1, h.2.1, h.2.2, H, (fun y hy => by obtain ⟨j, hj, rfl⟩ := getD_mem hy; exact H.lt j hj), by have := hull_len H; omega, H.len, ⟨nums d, ord0 h3 hr hd hp hs, rfl, .refl⟩⟩

theorem one_tri {px py : Nat → Int} {n : Nat} {M : Nat → Nat → Option Nat} (hm : Mesh px py n M) (hc : Cor n M) (h1 : 0 < n) : ∃ a b c, M a b = some c ∧ a < b ∧ a < c := by
  obtain ⟨x, y, e⟩ := hc 0 h1
  have e2 := hm.cyc _ _ _ e
  have e3 := hm.cyc _ _ _ e2
  rcases least hm e with k | k | k
  · exact ⟨_, _, _, e, k.1, k.2⟩
  · exact ⟨_, _, _, e2, k.1, k.2⟩
  · exact ⟨_, _, _, e3, k.1, k.2⟩

theorem loc_of {px py : Nat → Int} {M : Nat → Nat → Option Nat} (h : ∀ u v, bad px py (okL []) (lift px py) M u v = false) : Geo.Loc px py M := by
  intro a b c d e1 e2
  rcases Int.lt_or_le 0 (Geo.Wn px py a b c d) with k | k
  · have hb := Geo.bad_of (px := px) (py := py) (ok := okL []) (h := lift px py) (u := a) (v := b) rfl e1 e2 (by rw [Geo.Wg_lift]; exact k)
    rw [h a b] at hb
    cases hb
  · exact k

set_option maxRecDepth 100000 in
set_option maxHeartbeats 2000000 in
theorem bound_ok (px py : Nat → Int) (n : Nat) [NeZero n] (qb qo cap : Nat) (w : World) (hp : Pts w qb qo n px py) (h3 : 3 ≤ n) (hn : n ≤ 40) (hcap : n ≤ cap) (hr : refI px py n = 0) :
    Calls Tryz.prog 25 #[.slice (some ⟨qb, qo, none⟩) n cap, .slice none 0 0] w fun e w' => Below w.heap.size w w' ∧ ∃ (g cp : Nat) (d : Array T3) (M : Nat → Nat → Option Nat) (hs : List Nat), e = .returned (.tuple #[.slice (some ⟨g, 0, none⟩) d.size cp, .int .i64 0]) ∧ w.heap.size ≤ g ∧ d.size ≤ 1600 ∧ w'.ownsRow w.heap.size 46 3 (.slice (some ⟨g, 0, none⟩) d.size cp) d.size (flat3 d.toList) ∧ Tris M d ∧ Msh px py n M hs ∧ Geo.Loc px py M := by
  have c1 := refusal_any px py n qb qo cap w hp h3 hn hcap
  rw [hr] at c1
  have C1 := hid c1
  have HP := hid hp
  have hA : allB px py n = true := by
    cases h : allB px py n with
    | true => rfl
    | false => simp [refI, h] at hr
  have hbd : ∀ i, i < n → (-1000 ≤ px i ∧ px i ≤ 1000) ∧ (-1000 ≤ py i ∧ py i ≤ 1000) := by
    intro i hi
    have := (allB_iff px py n).1 hA i hi
    exact ⟨(near_iff _).1 this.1, (near_iff _).1 this.2⟩
  have HBD := hid hbd
  have HRR := hid hr
  clear hp c1 hr hA hbd
  go_enter Tryz.func25, Tryz.ntmps25
  go_wp2_with fail
  refine C1.out.mono ?_
  rintro e w1 ⟨rfl, hb1⟩
  have c2 := hid (lineRef_nil px py n qb qo cap w1 (HP.out.below hb1 HP.out.lt) hn HBD.out)
  have HB1 := hid hb1
  clear C1 hb1
  go_wp2_with fail
  refine c2.out.mono ?_
  rintro e w2 ⟨rfl, hb2⟩
  have HB2 := hid (HB1.out.trans (hb2.mono HB1.out.size))
  have c3 := hid (places_any px py n qb qo cap w2 (HP.out.below HB2.out HP.out.lt) hn HBD.out)
  clear c2 hb2 HB1
  go_wp2_with fail
  refine c3.out.mono ?_
  rintro e w3 ⟨rfl, hb3, hp3⟩
  have HB3 := hid (HB2.out.trans (hb3.mono HB2.out.size))
  have c4 := hid (new_any px py n w2.heap.size 0 n w3 hp3 hn)
  clear c3 hb3 hp3
  go_wp2_with fail
  refine c4.out.mono ?_
  rintro e w4 ⟨mb, bm, rfl, hmb, hbm, hb4, dd, hdd, hperm, hsort, hM4⟩
  have HB4 := hid (HB3.out.trans (hb4.mono HB3.out.size))
  have MS := hid (msh0 h3 hn HRR.out hdd hperm hsort)
  have OD := hid (ord0 h3 HRR.out hdd hperm hsort)
  have c5 := hid (draw_nil mb w4)
  have HM4 := hid hM4
  have HMB := hid (And.intro hmb hbm)
  clear c4 hb4 hM4 hperm hsort hdd hmb hbm
  go_wp2_with fail
  refine c5.out.mono ?_
  rintro e w5 ⟨rfl, hb5⟩
  have HB5 := hid (HB4.out.trans (hb5.mono HB4.out.size))
  have HM5 := hid (HM4.out.below hb5)
  have c6 := hid (round_any mb bm w2.heap.size 0 n n px py _ (.slice none 0 0) [] (fun M => Sd n M (fun u v _ => Geo.c2 px py u v) = fanI px py (hullOf (T px py) (nums dd)) ((hullOf (T px py) (nums dd)).length - 2) ∧ Geo.Reach px py n (mesh0 px py (nums dd)) M) w5 hn (HM5.out.tight MS.out.mesh hn) (by simp) MS.out.mesh MS.out.cor ⟨MS.out.sum, .refl⟩ (fun M a b c d hm q _ hk => ⟨by rw [sum_flip hm q]; exact hk.1, .flip hk.2 hm q⟩))
  clear c5 hb5
  go_wp2_with fail
  refine c6.out.mono ?_
  rintro e w6 ⟨rfl, hg6, M, hM6, hm6, hc6, hk6, hbad⟩
  have HB6 := hid (HB5.out.grown hg6 HB5.out.size (fun k e => by have := Option.some.inj e; have := HMB.out.2; have := HB3.out.size; omega))
  have c7 := hid (trianglesM_any mb bm 1600 w2.heap.size 0 n n px py M (.slice none 0 0) [] w6 hM6 (Nat.le_refl _) (fun a b c e => ⟨(hm6.lts e).1, (hm6.lts e).2.1⟩) hn (one_tri hm6 hc6 (by omega)))
  have MS6 : Hid (Msh px py n M (hullOf (T px py) (nums dd))) := hid ⟨hm6, hc6, hk6.1, MS.out.hull, MS.out.hl, MS.out.hlen, MS.out.h3, ⟨nums dd, OD.out, rfl, hk6.2⟩⟩
  have LC := hid (loc_of hbad)
  clear c6 hg6 hM6 hm6 hc6 hk6 hbad
  go_wp2_with fail
  refine c7.out.mono ?_
  rintro e w7 ⟨hb7, g, cp, d, rfl, hg7, hd7, ho7, ht7⟩
  have HB7 := hid (HB6.out.trans (hb7.mono HB6.out.size))
  have HO7 : Hid (w7.ownsRow w.heap.size 46 3 (.slice (some ⟨g, 0, none⟩) d.size cp) d.size (flat3 d.toList)) := hid ⟨ho7.1, by
    rcases ho7.2 with h2 | ⟨g', cap', cur, k1, k2, k3⟩
    · exact .inl h2
    · exact .inr ⟨g', cap', cur, k1, Nat.le_trans HB6.out.size k2, k3⟩⟩
  have HG7 := hid (Nat.le_trans HB6.out.size hg7)
  have HT7 := hid ht7
  have HD7 := hid hd7
  clear c7 hb7 hg7 hd7 ho7 ht7
  go_wp2_with fail
  go_ret2
  exact ⟨HB7.out, g, cp, d, M, _, rfl, HG7.out, HD7.out, HO7.out, HT7.out, MS6.out, LC.out⟩

set_option maxRecDepth 100000 in
set_option maxHeartbeats 2000000 in
theorem triangles_ok (px py : Nat → Int) (n : Nat) [NeZero n] (qb qo cap : Nat) (w : World) (hp : Pts w qb qo n px py) (h3 : 3 ≤ n) (hn : n ≤ 40) (hcap : n ≤ cap) (hr : refI px py n = 0) :
    Calls Tryz.prog 15 #[.slice (some ⟨qb, qo, none⟩) n cap] w fun e w' => Below w.heap.size w w' ∧ ∃ (g cp : Nat) (d : Array T3) (M : Nat → Nat → Option Nat) (hs : List Nat), e = .returned (.tuple #[.slice (some ⟨g, 0, none⟩) d.size cp, .int .i64 0]) ∧ w.heap.size ≤ g ∧ d.size ≤ 1600 ∧ w'.ownsRow w.heap.size 46 3 (.slice (some ⟨g, 0, none⟩) d.size cp) d.size (flat3 d.toList) ∧ Tris M d ∧ Msh px py n M hs ∧ Geo.Loc px py M := by
  have C := hid (bound_ok px py n qb qo cap w hp h3 hn hcap hr)
  clear hp hr
  go_enter Tryz.func15, Tryz.ntmps15
  go_wp2_with fail
  refine C.out.mono ?_
  rintro e w1 ⟨hb, g, cp, d, M, hs, rfl, h⟩
  have H := hid h
  have HB := hid hb
  clear h hb
  go_wp2_with fail
  go_ret2
  exact ⟨HB.out, g, cp, d, M, hs, rfl, H.out⟩

end Go.Proofs.YtdbebbbceeopaaaGreat

set_option linter.unusedSimpArgs false
namespace Go.Proofs.YtdbebbbceeopaaaGreat
open Go.RowKit
open Go.Sort (SortedIn)

def dA (d : Array T3) (i : Nat) : Nat := (d[i]!).1
def dB (d : Array T3) (i : Nat) : Nat := (d[i]!).2.1
def dC (d : Array T3) (i : Nat) : Nat := (d[i]!).2.2
def dz (d : Array T3) : List Int := (List.range (d.size * 3)).map fun j => if j % 3 = 0 then (dA d (j / 3) : Int) else if j % 3 = 1 then (dB d (j / 3) : Int) else (dC d (j / 3) : Int)

theorem dz_get (d : Array T3) (i : Nat) (hi : i < d.size) : (dz d).getD (i * 3) 0 = dA d i ∧ (dz d).getD (i * 3 + 1) 0 = dB d i ∧ (dz d).getD (i * 3 + 2) 0 = dC d i := by
  have g : ∀ j, j < d.size * 3 → (dz d).getD j 0 = if j % 3 = 0 then (dA d (j / 3) : Int) else if j % 3 = 1 then (dB d (j / 3) : Int) else (dC d (j / 3) : Int) := by
    intro j hj
    simp [dz, List.getD_eq_getElem?_getD, hj]
  refine ⟨?_, ?_, ?_⟩
  · rw [g _ (by omega), if_pos (by omega), show i * 3 / 3 = i by omega]
  · rw [g _ (by omega), if_neg (by omega), if_pos (by omega), show (i * 3 + 1) / 3 = i by omega]
  · rw [g _ (by omega), if_neg (by omega), if_neg (by omega), show (i * 3 + 2) / 3 = i by omega]

theorem Tris.lists {M : Nat → Nat → Option Nat} {d : Array T3} (h : Tris M d) : Lists M d.size (dA d) (dB d) (dC d) := by
  refine ⟨fun i hi => ?_, fun a b c e h1 h2 => ?_, fun i hi => ?_⟩
  · have hm : d[i]! ∈ d.toList := by rw [getElem!_pos d i hi]; simp
    exact h.tri _ hm
  · obtain ⟨i, hi, e⟩ := List.getElem_of_mem (h.all a b c e h1 h2)
    have hi' : i < d.size := by simpa using hi
    have e' : d[i]! = (a, b, c) := by rw [getElem!_pos d i hi']; simpa using e
    exact ⟨i, hi', by simp [dA, e'], by simp [dB, e'], by simp [dC, e']⟩
  · have hi0 : i < d.size := by omega
    have hs := h.srt i (i + 1) (Nat.zero_le _) (by omega) hi
    unfold ltOf at hs
    rw [decide_eq_false_iff_not, cf3_lt] at hs
    have hneq : d[i]! ≠ d[i + 1]! := by
      have := List.pairwise_iff_getElem.1 h.nd i (i + 1) (by simpa using hi0) (by simpa using hi) (by omega)
      simpa [hi0, hi] using this
    have hne : ¬ ((d[i]!).1 = (d[i + 1]!).1 ∧ (d[i]!).2.1 = (d[i + 1]!).2.1 ∧ (d[i]!).2.2 = (d[i + 1]!).2.2) := fun k => hneq (Prod.ext k.1 (Prod.ext k.2.1 k.2.2))
    unfold lt3 at hs
    unfold dA dB dC
    omega

theorem Tris.row3 {px py : Nat → Int} {n : Nat} {M : Nat → Nat → Option Nat} {d : Array T3} (h : Tris M d) (hm : Geo.Mesh px py n M) : Row3 n d.size (dz d) (dA d) (dB d) (dC d) :=
  ⟨fun i hi => hm.lts (h.lists.tri i hi).1, fun i hi => dz_get d i hi⟩

theorem trs_own {w : World} {base g cap : Nat} {d : Array T3} (h : w.ownsRow base 46 3 (.slice (some ⟨g, 0, none⟩) d.size cap) d.size (flat3 d.toList)) : Trs w g 0 d.size (dz d) := by
  have hg : g < w.heap.size := by
    rcases h.2 with ⟨h', _⟩ | ⟨g', cap', cur, h', _, hh, _⟩
    · cases h'
    · cases h'; exact (Array.getElem?_eq_some_iff.1 hh).1
  refine ⟨hg, fun j hj => ?_⟩
  obtain ⟨z0, z1, z2⟩ := dz_get d j hj
  rw [z0, z1, z2]
  have hc : ∀ c, c < 3 → w.cell? ⟨g, 0 + j * 3 + c, none⟩ = (enc3 (d[j]!))[c]? := by
    intro c hc
    rw [Nat.zero_add, h.cellAt (j * 3 + c) (by omega), flat3_get d.toList j c hc, Array.getElem?_toList, Array.getElem?_eq_getElem hj, getElem!_pos d j hj]
    rfl
  exact ⟨hc 0 (by omega), hc 1 (by omega), hc 2 (by omega)⟩

theorem refI_bds {px py : Nat → Int} {n : Nat} (h : refI px py n = 0) : Bds n px py := by
  have hA : allB px py n = true := by
    cases h' : allB px py n with
    | true => rfl
    | false => simp [refI, h'] at h
  intro i hi
  have := (allB_iff px py n).1 hA i hi
  exact ⟨(near_iff _).1 this.1, (near_iff _).1 this.2⟩

theorem refI_inj {px py : Nat → Int} {n : Nat} (h : refI px py n = 0) : Geo.Inj px py n := by
  intro i j hi hj e1 e2
  rcases Classical.em (i = j) with k | k
  · exact k
  · exact absurd ⟨e1, e2⟩ (refI_ne h i j hi hj k)

end Go.Proofs.YtdbebbbceeopaaaGreat

set_option linter.unusedSimpArgs false
namespace Go.Proofs.YtdbebbbceeopaaaGreat
open Go.RowKit

/-- What comes of Triangles, at points that are made of raw numbers. -/
theorem tri_set {n : Nat} {px py : Nat → Int} (hS : Sett n px py) (g cp : Nat) (w : World) (hp : Pts w g 0 n px py) (hcp : n ≤ cp) :
    Calls Tryz.prog 15 #[.slice (some ⟨g, 0, none⟩) n cp] w fun e w' => Below w.heap.size w w' ∧ ∃ (g2 cp2 : Nat) (d : Array T3) (M : Nat → Nat → Option Nat) (hs : List Nat), e = .returned (.tuple #[.slice (some ⟨g2, 0, none⟩) d.size cp2, .int .i64 0]) ∧ d.size ≤ 1600 ∧ 0 < d.size ∧ Trs w' g2 0 d.size (dz d) ∧ Tris M d ∧ Msh px py n M hs ∧ Geo.Loc px py M := by
  have hz : NeZero n := ⟨by have := hS.len; omega⟩
  refine (triangles_ok px py n g 0 cp w hp hS.len (by have := hS.len'; omega) hcp hS.ref).mono ?_
  rintro e w' ⟨hb, g2, cp2, d, M, hs, rfl, hg2, hd, hown, hT, hM, hL⟩
  refine ⟨hb, g2, cp2, d, M, hs, rfl, hd, ?_, trs_own hown, hT, hM, hL⟩
  obtain ⟨a, b, c, e, h1, h2⟩ := one_tri hM.mesh hM.cor (by have := hS.len; omega)
  have := List.length_pos_of_mem (hT.all a b c e h1 h2)
  simpa using this

/-- Four numbers in bounds. -/
def Bd4 (a b c d : Int) : Prop := (-1000 ≤ a ∧ a ≤ 1000) ∧ (-1000 ≤ b ∧ b ≤ 1000) ∧ (-1000 ≤ c ∧ c ≤ 1000) ∧ (-1000 ≤ d ∧ d ≤ 1000)

theorem bd4 {n : Nat} {px py : Nat → Int} (h : Bds n px py) {i k : Nat} (hi : i < n) (hk : k < n) : Bd4 (px i) (py i) (px k) (py k) := ⟨(h i hi).1, (h i hi).2, (h k hk).1, (h k hk).2⟩

theorem square_4 (a b c d : Int) (w : World) (h : Bd4 a b c d) : Calls Tryz.prog 17 #[.agg #[.int .i64 a, .int .i64 b], .agg #[.int .i64 c, .int .i64 d]] w fun e w' => e = .returned (.int .i64 (sqI a b c d)) ∧ Below w.heap.size w w' := ksquare_any a b c d h.1 h.2.1 h.2.2.1 h.2.2.2 w

def sqN (px py : Nat → Int) (i k : Nat) : Int := sqI (px i) (py i) (px k) (py k)

/-- The nearest so far: none, or b, c times. -/
def Best (px py : Nat → Int) (i k : Nat) (best count : Int) : Prop :=
  (best = -1 ∧ count = 0 ∧ ∀ r, r < k → r = i) ∨
  ∃ b : Nat, best = b ∧ b < k ∧ b ≠ i ∧ 1 ≤ count ∧ count ≤ k ∧ (∀ r, r < k → r ≠ i → sqN px py i b ≤ sqN px py i r) ∧ (count = 1 → ∀ r, r < k → r ≠ i → r ≠ b → sqN px py i b < sqN px py i r)

theorem Best.skip {px py : Nat → Int} {i : Nat} {best count : Int} (h : Best px py i i best count) : Best px py i (i + 1) best count := by
  rcases h with ⟨h1, h2, h3⟩ | ⟨b, h1, h2, h3, h4, h5, h6, h7⟩
  · refine .inl ⟨h1, h2, fun r hr => ?_⟩
    rcases Nat.lt_or_ge r i with k | k
    · exact h3 r k
    · omega
  · refine .inr ⟨b, h1, by omega, h3, h4, by omega, fun r hr hi => h6 r (by omega) hi, fun hc r hr hi hb => h7 hc r (by omega) hi hb⟩

theorem Best.first {px py : Nat → Int} {i k : Nat} {count : Int} (h : Best px py i k (-1) count) (hk : k ≠ i) : Best px py i (k + 1) k 1 := by
  rcases h with ⟨_, _, h3⟩ | ⟨b, h1, _⟩
  · refine .inr ⟨k, rfl, by omega, hk, by omega, by omega, fun r hr hi => ?_, fun _ r hr hi hb => ?_⟩
    · rcases Nat.lt_or_ge r k with q | q
      · exact absurd (h3 r q) hi
      · have : r = k := by omega
        subst this; exact Int.le_refl _
    · exact absurd (h3 r (by omega)) hi
  · omega

theorem Best.less {px py : Nat → Int} {i k b : Nat} {count : Int} (h : Best px py i k b count) (hk : k ≠ i) (hl : sqN px py i k < sqN px py i b) : Best px py i (k + 1) k 1 := by
  rcases h with ⟨h1, _⟩ | ⟨b', h1, h2, h3, h4, h5, h6, h7⟩
  · omega
  · have : b' = b := by omega
    subst this
    refine .inr ⟨k, rfl, by omega, hk, by omega, by omega, fun r hr hi => ?_, fun _ r hr hi hb => ?_⟩
    · rcases Nat.lt_or_ge r k with q | q
      · have := h6 r q hi; omega
      · have : r = k := by omega
        subst this; exact Int.le_refl _
    · have := h6 r (by omega) hi; omega

theorem Best.same {px py : Nat → Int} {i k b : Nat} {count : Int} (h : Best px py i k b count) (hk : k ≠ i) (hl : sqN px py i k = sqN px py i b) : Best px py i (k + 1) b (count + 1) := by
  rcases h with ⟨h1, _⟩ | ⟨b', h1, h2, h3, h4, h5, h6, h7⟩
  · omega
  · have : b' = b := by omega
    subst this
    refine .inr ⟨b', rfl, by omega, h3, by omega, by omega, fun r hr hi => ?_, fun hc => by omega⟩
    rcases Nat.lt_or_ge r k with q | q
    · exact h6 r q hi
    · have : r = k := by omega
      subst this; omega

theorem Best.more {px py : Nat → Int} {i k b : Nat} {count : Int} (h : Best px py i k b count) (hl : sqN px py i b < sqN px py i k) : Best px py i (k + 1) b count := by
  rcases h with ⟨h1, _⟩ | ⟨b', h1, h2, h3, h4, h5, h6, h7⟩
  · omega
  · have : b' = b := by omega
    subst this
    refine .inr ⟨b', rfl, by omega, h3, h4, by omega, fun r hr hi => ?_, fun hc r hr hi hb => ?_⟩
    · rcases Nat.lt_or_ge r k with q | q
      · exact h6 r q hi
      · have : r = k := by omega
        subst this; omega
    · rcases Nat.lt_or_ge r k with q | q
      · exact h7 hc r q hi hb
      · have : r = k := by omega
        subst this; omega

theorem sqN_sq (px py : Nat → Int) (i k : Nat) : sqN px py i k = Geo.sq (px i - px k) (py i - py k) := rfl

/-- The one that is nearest is a corner of a triangle that has the other, too. -/
theorem joined {px py : Nat → Int} {n : Nat} {M : Nat → Nat → Option Nat} {hs : List Nat} {d : Array T3} (hi : Geo.Inj px py n) (hM : Msh px py n M hs) (hL : Geo.Loc px py M) (hT : Tris M d) {i b : Nat} (h1 : i < n) (h2 : b < n) (hne : b ≠ i)
    (hn : ∀ r, r < n → r ≠ i → r ≠ b → sqN px py i b < sqN px py i r) : sideB (dA d) (dB d) (dC d) i b d.size = true := by
  have key : ∀ a c, (∃ z, M a c = some z) → ((a = i ∧ c = b) ∨ (a = b ∧ c = i)) → sideB (dA d) (dB d) (dC d) i b d.size = true := by
    rintro a c ⟨z, e⟩ hac
    obtain ⟨j, hj, q⟩ := hT.lists.has hM.mesh e
    refine sideB_of hj ?_
    unfold hasB
    rcases hac with ⟨rfl, rfl⟩ | ⟨rfl, rfl⟩ <;> rcases q with ⟨q1, q2, q3⟩ | ⟨q1, q2, q3⟩ | ⟨q1, q2, q3⟩ <;> simp [q1, q2, q3]
  rcases hM.mesh.nearest hi hM.cor hL h1 h2 (Ne.symm hne) (fun r hr k1 k2 => by have := hn r hr k1 k2; rw [sqN_sq, sqN_sq] at this; exact this) with h | h
  · exact key i b h (.inl ⟨rfl, rfl⟩)
  · exact key b i h (.inr ⟨rfl, rfl⟩)

set_option maxRecDepth 100000 in
set_option maxHeartbeats 4000000 in
theorem near_any (a : Option Addr) (len cap : Nat) (sz : Int) (w : World)
    (hpts : Calls Tryz.prog 14 #[.slice a len cap, .int .i64 sz] w fun e w' => ∃ v N ps, e = .returned v ∧ Below w.heap.size w w' ∧ Sq N ps ∧ w'.ownsRow w.heap.size 35 2 v ps.length (cellsP ps)) :
    Calls Tryz.prog 5 #[.slice a len cap, .int .i64 sz] w fun e w' => e = .returned (.bool true) ∧ Below w.heap.size w w' := by
  have C1 := hid (points_set hpts)
  clear hpts
  go_enter Tryz.func5, Tryz.ntmps5
  go_wp2_with fail
  refine C1.out.mono ?_
  rintro e w1 ⟨g, n, cp, px, py, rfl, hb1, hcp, hS, hP⟩
  have C2 := hid (tri_set hS g cp w1 hP hcp)
  have HB1 := hid hb1
  have HS := hid hS
  have HP := hid hP
  have hn3 := hS.len
  have hn30 := hS.len'
  clear C1 hb1 hS hP
  go_wp2_with fail
  refine C2.out.mono ?_
  rintro e w2 ⟨hb2, g2, cp2, d, M, hs, rfl, hd, hd0, hTr, hT, hM, hL⟩
  have HB2 := hid (HB1.out.trans (hb2.mono HB1.out.size))
  have HP2 := hid (HP.out.below hb2 HP.out.lt)
  have HTR := hid hTr
  have HT := hid hT
  have HM := hid hM
  have HL := hid hL
  have BDS := hid (refI_bds HS.out.ref)
  have C3 := hid (sane_any px py n g 0 cp d.size cp2 (some ⟨g2, 0, none⟩) (dz d) (dA d) (dB d) (dC d) w2 HP2.out (fun _ => ⟨g2, 0, rfl, hTr⟩) (by omega) BDS.out (hT.row3 hM.mesh) (fun i hi => (hT.lists.tri i hi).2) (fun i hi => hM.mesh.pos _ _ _ (hT.lists.tri i hi).1))
  have hZ : Hid (∀ i b W, Below w2.heap.size w2 W → Calls Tryz.prog 18 #[.slice (some ⟨g2, 0, none⟩) d.size cp2, .int .i64 ((i : Nat) : Int), .int .i64 ((b : Nat) : Int)] W fun e w' => e = .returned (.bool (sideB (dA d) (dB d) (dC d) i b d.size)) ∧ Below W.heap.size W w') := hid fun i b W hW => side_any n g2 0 d.size cp2 (dz d) (dA d) (dB d) (dC d) i b W (hTr.below hW) (by omega) (hT.row3 hM.mesh)
  clear C2 hb2 HB1 HP hTr hT hM hL
  go_wp2_with fail
  refine C3.out.mono ?_
  rintro e w3 ⟨rfl, hb3⟩
  have HB3 := hid hb3
  clear C3 hb3
  obtain ⟨m, hm⟩ : ∃ m, m = d.size := ⟨_, rfl⟩
  rw [← hm] at hd hd0 hZ ⊢
  have HMM := hid hm
  clear hm
  go_wp2_with fail
  go_loopw [9] (fun i wr => ∃ k : Nat, k ≤ n ∧ i = .int .i64 k ∧ Hid (Below w2.heap.size w2 wr)) (fun i _ => n - (intOf i).toNat)
  case atStart => exact ⟨0, Nat.zero_le _, rfl, HB3⟩
  case round =>
    obtain ⟨i, hi, rfl, HB⟩ := hrel
    clear HB3
    by_cases hlt : i < n
    · have hlt' : (i : Int) < n := by omega
      obtain ⟨W0, rfl⟩ : ∃ W0, W0 = wr := ⟨wr, rfl⟩
      go_wp2_with fail
      go_loopw [10, 11, 12] (fun be co kk wr => ∃ (k : Nat) (b c : Int), k ≤ n ∧ kk = .int .i64 k ∧ be = .int .i64 b ∧ co = .int .i64 c ∧ Best px py i k b c ∧ Hid (Below w2.heap.size w2 wr)) (fun _ _ kk _ => n - (intOf kk).toNat)
      case atStart => exact ⟨0, -1, 0, Nat.zero_le _, rfl, rfl, rfl, .inl ⟨rfl, rfl, fun r hr => by omega⟩, HB⟩
      case round =>
        clear HB
        obtain ⟨k, b, c, hk, rfl, rfl, rfl, hbest, HB⟩ := hrel
        by_cases hlk : k < n
        · have hlk' : (k : Int) < n := by omega
          by_cases hki : k = i
          · subst hki
            have HBE := hid hbest.skip
            clear hbest
            go_wp2_with fail
            go_roundw
            case rel => exact ⟨k + 1, _, _, by omega, by go_num, rfl, rfl, HBE.out, HB⟩
            case measure => simp [intOf]; omega
          · have dki : ((k : Int) == (i : Int)) = false := by simp; omega
            have hpw := HP2.out.below HB.out HP2.out.lt
            have cx : ∀ j, j < n → wr.cell? ⟨g, j * 2, none⟩ = some (.int .i64 (px j)) := fun j hj => by have := hpw.x j hj; rwa [Nat.zero_add] at this
            have cy : ∀ j, j < n → wr.cell? ⟨g, j * 2 + 1, none⟩ = some (.int .i64 (py j)) := fun j hj => by have := hpw.y j hj; rwa [Nat.zero_add] at this
            have xi := cx i hlt
            have yi := cy i hlt
            have xk := cx k hlk
            have yk := cy k hlk
            have gl := hpw.lt
            have B1 := bd4 BDS.out hlt hlk
            by_cases hb1 : b = -1
            · subst hb1
              have HBE := hid (hbest.first hki)
              clear hbest cx cy hpw B1
              go_wp2_with fail
              go_quiet (fail)
              go_wp2_with fail
              go_roundw
              case rel => exact ⟨k + 1, _, _, by omega, by go_num, rfl, rfl, HBE.out, hid (below_drewN HB.out _)⟩
              case measure => simp [intOf]; omega
            · obtain ⟨bb, hbb, rfl⟩ : ∃ bb : Nat, bb < k ∧ b = bb := by
                rcases hbest with ⟨h1, _⟩ | ⟨b', h1, h2, _⟩
                · exact absurd h1 hb1
                · exact ⟨b', h2, h1⟩
              have hbn : bb < n := by omega
              have hbn' : (bb : Int) < n := by omega
              have hb0 : ¬ (bb : Int) < 0 := by omega
              have xb := cx bb hbn
              have yb := cy bb hbn
              have B2 := bd4 BDS.out hlt hbn
              have SQ := hid (square_4)
              have HBEST := hid hbest
              have q1 : (0 : Int) ≤ (i : Int) := by omega
              have q2 : (0 : Int) ≤ (k : Int) := by omega
              have q3 : (0 : Int) ≤ (bb : Int) := by omega
              have HN1 : Hid (sqN px py i k = sqI (px i) (py i) (px k) (py k)) := hid rfl
              have HN2 : Hid (sqN px py i bb = sqI (px i) (py i) (px bb) (py bb)) := hid rfl
              have KEEP : Hid (∀ W, Below wr.heap.size wr W → W.cell? ⟨g, i * 2, none⟩ = some (.int .i64 (px i)) ∧ W.cell? ⟨g, i * 2 + 1, none⟩ = some (.int .i64 (py i)) ∧ W.cell? ⟨g, k * 2, none⟩ = some (.int .i64 (px k)) ∧ W.cell? ⟨g, k * 2 + 1, none⟩ = some (.int .i64 (py k)) ∧ W.cell? ⟨g, bb * 2, none⟩ = some (.int .i64 (px bb)) ∧ W.cell? ⟨g, bb * 2 + 1, none⟩ = some (.int .i64 (py bb))) := hid fun W hW => ⟨(hW.cell (by exact gl)).trans xi, (hW.cell (by exact gl)).trans yi, (hW.cell (by exact gl)).trans xk, (hW.cell (by exact gl)).trans yk, (hW.cell (by exact gl)).trans xb, (hW.cell (by exact gl)).trans yb⟩
              have START := KEEP.out wr.drew (Below.refl _ _).drew
              clear hbest cx cy hpw hb1
              go_wp2_with fail
              go_region_held3 (fun w' => w'.cell? ⟨g, i * 2, none⟩ = some (.int .i64 (px i)) ∧ w'.cell? ⟨g, i * 2 + 1, none⟩ = some (.int .i64 (py i)) ∧ w'.cell? ⟨g, k * 2, none⟩ = some (.int .i64 (px k)) ∧ w'.cell? ⟨g, k * 2 + 1, none⟩ = some (.int .i64 (py k)) ∧ w'.cell? ⟨g, bb * 2, none⟩ = some (.int .i64 (px bb)) ∧ w'.cell? ⟨g, bb * 2 + 1, none⟩ = some (.int .i64 (py bb))) (assumption)
                ((go_at_call 17; refine (SQ.out _ _ _ _ _ (by assumption)).mono ?_; rintro e w6 ⟨rfl, hb6⟩; have HB6 : Hid (Below wr.heap.size wr w6) := hid (by first | exact (Below.refl _ _).drew.trans hb6 | exact HB6.out.trans (hb6.mono HB6.out.size)); have HK := KEEP.out w6 HB6.out; clear hb6))
              clear HK START
              obtain ⟨s1, hs1⟩ : ∃ s1, s1 = sqI (px i) (py i) (px k) (py k) := ⟨_, rfl⟩
              obtain ⟨s2, hs2⟩ : ∃ s2, s2 = sqI (px i) (py i) (px bb) (py bb) := ⟨_, rfl⟩
              have HS1 := hid hs1
              have HS2 := hid hs2
              rw [← hs1, ← hs2]
              clear hs1 hs2
              by_cases l1 : s1 < s2
              · have HBE := hid (HBEST.out.less hki (by rw [HN1.out, HN2.out, ← HS1.out, ← HS2.out]; exact l1))
                go_wp2_with fail
                go_roundw
                case rel => exact ⟨k + 1, _, _, by omega, by go_num, rfl, rfl, HBE.out, hid (HB.out.trans (HB6.out.mono HB.out.size))⟩
                case measure => simp [intOf]; omega
              · have START := KEEP.out w6.drew HB6.out.drew
                go_wp2_with fail
                go_region_held3 (fun w' => w'.cell? ⟨g, i * 2, none⟩ = some (.int .i64 (px i)) ∧ w'.cell? ⟨g, i * 2 + 1, none⟩ = some (.int .i64 (py i)) ∧ w'.cell? ⟨g, k * 2, none⟩ = some (.int .i64 (px k)) ∧ w'.cell? ⟨g, k * 2 + 1, none⟩ = some (.int .i64 (py k)) ∧ w'.cell? ⟨g, bb * 2, none⟩ = some (.int .i64 (px bb)) ∧ w'.cell? ⟨g, bb * 2 + 1, none⟩ = some (.int .i64 (py bb))) (assumption)
                  ((go_at_call 17; refine (SQ.out _ _ _ _ _ (by assumption)).mono ?_; rintro e w8 ⟨rfl, hb8⟩; have HB8 : Hid (Below wr.heap.size wr w8) := hid (by first | exact HB6.out.drew.trans (hb8.mono HB6.out.size) | exact HB8.out.trans (hb8.mono HB8.out.size)); have HK := KEEP.out w8 HB8.out; clear hb8))
                clear HK START
                rw [← HS1.out, ← HS2.out]
                by_cases l2 : s1 = s2
                · have HBE := hid (HBEST.out.same hki (by rw [HN1.out, HN2.out, ← HS1.out, ← HS2.out]; exact l2))
                  have dl : (s1 == s2) = true := by simpa using l2
                  have hcb : c ≤ 40 ∧ 0 ≤ c := by
                    rcases HBEST.out with ⟨_, h2, _⟩ | ⟨_, _, _, _, h4, h5, _⟩
                    · omega
                    · omega
                  go_wp2_with fail
                  go_roundw
                  case rel => exact ⟨k + 1, _, _, by omega, by go_num, rfl, by go_num, HBE.out, hid (HB.out.trans (HB8.out.mono HB.out.size))⟩
                  case measure => simp [intOf]; omega
                · have HBE := hid (HBEST.out.more (by rw [HN1.out, HN2.out, ← HS1.out, ← HS2.out]; omega))
                  have dl : (s1 == s2) = false := by simpa using l2
                  go_wp2_with fail
                  go_roundw
                  case rel => exact ⟨k + 1, _, _, by omega, by go_num, rfl, rfl, HBE.out, hid (HB.out.trans (HB8.out.mono HB.out.size))⟩
                  case measure => simp [intOf]; omega
        · have hkn : k = n := by omega
          subst hkn
          rcases hbest with ⟨_, _, h3⟩ | ⟨bb, rfl, h2, h3, h4, h5, h6, h7⟩
          · exfalso
            have e0 := h3 0 (by omega)
            have e1 := h3 1 (by omega)
            omega
          · go_wp2_with fail
            refine (hZ.out i bb wr HB.out).mono ?_
            rintro e w4 ⟨rfl, hb4⟩
            have HB4 := hid (HB.out.trans (hb4.mono HB.out.size))
            clear hb4
            by_cases hc1 : c = 1
            · have hj := joined (refI_inj HS.out.ref) HM.out HL.out HT.out hlt h2 h3 (h7 hc1)
              rw [← HMM.out] at hj
              rw [hj]
              subst hc1
              clear h4 h5 h6 h7 hj
              go_wp2_with fail
              go_roundw
              case rel => exact ⟨i + 1, by omega, by go_num, HB4⟩
              case measure => simp [intOf]; omega
            · have dc : (c == 1) = false := by simpa using hc1
              generalize sideB (dA d) (dB d) (dC d) i bb m = jj at *
              clear h4 h5 h6 h7
              go_wp2_with fail
              go_roundw
              case rel => exact ⟨i + 1, by omega, by go_num, HB4⟩
              case measure => simp [intOf]; omega
    · have hkm : i = n := by omega
      subst hkm
      go_wp2_with fail
      go_ret
      exact ⟨rfl, HB2.out.trans (HB.out.mono HB2.out.size)⟩
end Go.Proofs.YtdbebbbceeopaaaGreat
