import Derived.Test.YtdbebbbceeopaaaGreatE11
import Derived.Test.YtdbebbbceeopaaaGreatE9
import Derived.Test.YtdbebbbceeopaaaGreatE8
import Derived.Test.YtdbebbbceeopaaaGreatE10
set_option linter.unusedSimpArgs false
namespace Go.Proofs.YtdbebbbceeopaaaGreat
open Go.RowKit

theorem refI_ne {px py : Nat → Int} {n : Nat} (h : refI px py n = 0) : ∀ i j, i < n → j < n → i ≠ j → ¬ (px i = px j ∧ py i = py j) := by
  have ht : twB px py n = false := by
    cases h' : twB px py n with
    | false => rfl
    | true => simp [refI, h'] at h; split at h <;> simp_all
  intro i j hi hj hne ⟨e1, e2⟩
  have key : ∀ a b, a < n → b < a → px a = px b → py a = py b → False := by
    intro a b ha hb h1 h2
    have : twB px py n = true := (twB_iff px py n).2 ⟨a, ha, (twiceAt_iff px py a).2 ⟨b, hb, h1, h2⟩⟩
    rw [ht] at this
    cases this
  rcases Nat.lt_or_ge i j with h | h
  · exact key j i hj h e1.symm e2.symm
  · exact key i j hi (by omega) e1 e2

theorem refI_wide {px py : Nat → Int} {n : Nat} (h3 : 3 ≤ n) (h : refI px py n = 0) : ∃ i, i < n ∧ T px py 0 1 i ≠ 0 := by
  have hf : flatB px py (n - 2) = false := by
    cases h' : flatB px py (n - 2) with
    | false => rfl
    | true => simp [refI, h'] at h; split at h <;> (try split at h) <;> simp_all
  rcases Classical.em (∃ i, i < n ∧ T px py 0 1 i ≠ 0) with h1 | h1
  · exact h1
  · have : flatB px py (n - 2) = true := (flatB_iff px py (n - 2)).2 fun i hi => by
      rcases Classical.em (T px py 0 1 (i + 2) = 0) with h2 | h2
      · exact h2
      · exact absurd ⟨i + 2, by omega, h2⟩ h1
    rw [hf] at this
    cases this

def zx (zs : List Int) (i : Nat) : Int := zs.getD (i * 2) 0
def zy (zs : List Int) (i : Nat) : Int := zs.getD (i * 2 + 1) 0

theorem Src.pts {w : World} {v : Value} {n : Nat} {zs : List Int} (h : Src w v 2 n zs) (hn : 0 < n) : ∃ b o c, v = .slice (some ⟨b, o, none⟩) n c ∧ Pts w b o n (zx zs) (zy zs) := by
  obtain ⟨p, c, rfl⟩ : ∃ p c, v = .slice p n c := by obtain ⟨_, p, c, e, _⟩ := h; exact ⟨p, c, e⟩
  obtain ⟨b, o, rfl, hb, hc⟩ := h.at hn (by omega)
  exact ⟨b, o, c, rfl, hb, fun i hi => hc (i * 2) (by omega), fun i hi => hc (i * 2 + 1) (by omega)⟩

theorem ref_err (v : Value) (n : Nat) (zs : List Int) (x : Int) (hx : x ≠ 0) (h : ∀ W', Src W' v 2 n zs → Calls Tryz.prog 49 #[v] W' fun e w' => e = .returned (.int .i64 x) ∧ Below W'.heap.size W' w') :
    ∀ W', Src W' v 2 n zs → Calls Tryz.prog 46 #[v] W' fun e w'' => ∃ u', e = .returned (.tuple #[u', .int .i64 x]) ∧ Below W'.heap.size W' w'' ∧ w''.ownsRow W'.heap.size 3 1 u' ([] : List Nat).length (([] : List Nat).map encN) := by
  intro W' hs
  refine (refHull_err hx (h W' hs)).mono ?_
  rintro e w'' ⟨rfl, hb⟩
  exact ⟨_, rfl, hb, World.ownsRow_nil _ _ _ _⟩

/-- Hull of a lent list; and behind it the document's Hull answers the same, of the list itself. -/
theorem hull_step (zs : List Int) (n g cap : Nat) (v : Value) (W : World) (hn : n ≤ 8796093021952) (hcap : n ≤ cap) (hp : Pts W g 0 n (zx zs) (zy zs)) (hs : ∃ p c, v = .slice p n c) :
    Calls Tryz.prog 21 #[.slice (some ⟨g, 0, none⟩) n cap] W fun e w' => ∃ u x hs, e = .returned (.tuple #[u, .int .i64 x]) ∧ Below W.heap.size W w' ∧ w'.ownsRow W.heap.size 3 1 u (hs : List Nat).length (hs.map encN) ∧ hs.length ≤ 40 ∧
      ∀ W', Src W' v 2 n zs → Calls Tryz.prog 46 #[v] W' fun e w'' => ∃ u', e = .returned (.tuple #[u', .int .i64 x]) ∧ Below W'.heap.size W' w'' ∧ w''.ownsRow W'.heap.size 3 1 u' hs.length (hs.map encN) := by
  by_cases hr : n < 3 ∨ 40 < n
  · refine (hull_err (x := 1) (by omega) ((refusal_count _ n cap W hr (by omega)).mono (by rintro e w' ⟨rfl, rfl⟩; exact ⟨rfl, Below.refl _ _⟩))).mono ?_
    rintro e w' ⟨rfl, hb⟩
    obtain ⟨p, c, rfl⟩ := hs
    exact ⟨_, 1, [], rfl, hb, World.ownsRow_nil _ _ _ _, by simp, ref_err _ n zs 1 (by omega) fun W' _ => (check_count p n c W' hr (by omega)).mono (by rintro e w' ⟨rfl, rfl⟩; exact ⟨rfl, Below.refl _ _⟩)⟩
  · by_cases h0 : refI (zx zs) (zy zs) n = 0
    · have hz : NeZero n := ⟨by omega⟩
      refine (hull_ok (zx zs) (zy zs) n g 0 cap W hp (by omega) (by omega) hcap h0).mono ?_
      rintro e w2 ⟨u, rfl, hb2, d, hd, hperm, hsort, hown⟩
      have H := hullOf_isHull (by omega) hd hperm hsort (refI_ne h0) (refI_wide (by omega) h0)
      refine ⟨u, 0, _, rfl, hb2, hown, by have := hull_le H; omega, fun W' hS => ?_⟩
      obtain ⟨b, o, c, rfl, hP⟩ := hS.pts (by omega)
      exact refHull_any (zx zs) (zy zs) n b o c W' hP (by omega) (by omega) h0 _ H (refI_ne h0)
    · refine (hull_err h0 (refusal_any (zx zs) (zy zs) n g 0 cap W hp (by omega) (by omega) hcap)).mono ?_
      rintro e w' ⟨rfl, hb⟩
      refine ⟨_, _, [], rfl, hb, World.ownsRow_nil _ _ _ _, by simp, ref_err _ n zs _ h0 fun W' hS => ?_⟩
      obtain ⟨b, o, c, rfl, hP⟩ := hS.pts (by omega)
      exact check_any (zx zs) (zy zs) n b o c W' hP (by omega) (by omega)

theorem Full.kept {w w' : World} {v : Value} {m : Int} (h : Full w v m) (hs : w.heap.size ≤ w'.heap.size) (hk : ∀ g, v.ownBlock = some g → w'.heap[g]? = w.heap[g]?) : Full w' v m := by
  rcases h with h | ⟨g, n, c, rfl, h2, h3, h4⟩
  · exact Or.inl h
  · exact Or.inr ⟨g, n, c, rfl, h2, Nat.lt_of_lt_of_le h3 hs, fun j hj => (World.cell?_of_block (w := w) (a := ⟨g, j, none⟩) (hk g rfl)).trans (h4 j hj)⟩

theorem owns_kept {w w' : World} {base : Nat} {e : TypeId} {size : Nat} {v : Value} {n : Nat} {xs : List Value} (h : w.ownsRow base e size v n xs) (hk : ∀ g, v.ownBlock = some g → w'.heap[g]? = w.heap[g]?) : w'.ownsRow base e size v n xs := by
  refine ⟨h.1, ?_⟩
  rcases h.2 with h0 | ⟨g, cap, cur, rfl, hb, hh, r⟩
  · exact .inl h0
  · exact .inr ⟨g, cap, cur, rfl, hb, (hk g rfl).trans hh, r⟩

/-- The book, behind what left its blocks alone. -/
theorem Bk.kept {w w' : World} {B S S' bk : Nat} {vi vt : Value} {es : List (List Value)} (h : Bk w B S bk vi es vt) (hS : S ≤ S') (hw : S' ≤ w'.heap.size) (hs : w.heap.size ≤ w'.heap.size) (hk : w'.heap[bk]? = w.heap[bk]?) (hv : ∀ g, vi.ownBlock = some g → w'.heap[g]? = w.heap[g]?)
    (he : ∀ e ∈ es, ∀ x ∈ e, ∀ g, x.ownBlock = some g → w'.heap[g]? = w.heap[g]?) : Bk w' B S' bk vi es vt := by
  refine ⟨h.bB, Nat.lt_of_lt_of_le h.bS hS, hw, ?_, ?_, ?_, owns_kept h.own hv, ?_, ?_⟩
  · exact (World.cell?_of_block (w := w) (a := ⟨bk, 0, none⟩) hk).trans h.c0
  · exact fun o => (World.frozen?_of_block (w := w) (a := ⟨bk, o, none⟩) hk).trans (h.f0 o)
  · exact (World.cell?_of_block (w := w) (a := ⟨bk, 1, none⟩) hk).trans h.c1
  · intro g hg
    have := h.vS g hg
    exact ⟨by omega, this.2⟩
  · intro i e hi
    obtain ⟨l, a, b, c, rfl, hx⟩ := h.ent i e hi
    refine ⟨l, a, b, c, rfl, fun x hx' => ?_⟩
    obtain ⟨h1, h2⟩ := hx x hx'
    refine ⟨h1.kept hs (he _ (List.mem_of_getElem? hi) x (by simp at hx' ⊢; rcases hx' with h | h | h | h <;> simp [h])), fun g hg => ?_⟩
    have := h2 g hg
    exact ⟨by omega, this.2⟩

theorem Bk.below {w w' : World} {B S S' bk : Nat} {vi vt : Value} {es : List (List Value)} (h : Bk w B S bk vi es vt) (hb : Below S w w') (hS : S ≤ S') (hw : S' ≤ w'.heap.size) : Bk w' B S' bk vi es vt :=
  h.kept hS hw hb.size (hb.block bk h.bS) (fun g hg => hb.block g (h.vS g hg).1) fun e he x hx g hg => by
    obtain ⟨i, hi⟩ := List.mem_iff_getElem?.1 he
    obtain ⟨l, a, b, c, rfl, hy⟩ := h.ent i e hi
    by_cases hxm : x = .int .i64 (-1000 - (i : Int))
    · subst hxm; cases hg
    · exact hb.block g ((hy x (by simp at hx ⊢; rcases hx with h | h | h | h | h <;> simp_all)).2 g hg).1

theorem ent_lt {w : World} {B S bk : Nat} {vi vt : Value} {es : List (List Value)} (h : Bk w B S bk vi es vt) {e : List Value} (he : e ∈ es) {x : Value} (hx : x ∈ e) {g : Nat} (hg : x.ownBlock = some g) : g < S ∧ g ≠ bk := by
  obtain ⟨i, hi⟩ := List.mem_iff_getElem?.1 he
  obtain ⟨l, a, b, c, rfl, hy⟩ := h.ent i e hi
  by_cases hxm : x = .int .i64 (-1000 - (i : Int))
  · subst hxm; cases hg
  · have := (hy x (by simp at hx ⊢; rcases hx with h | h | h | h | h <;> simp_all)).2 g hg
    exact ⟨this.1, this.2.1⟩

theorem Src.kept {w w' : World} {v : Value} {sz n : Nat} {zs : List Int} (h : Src w v sz n zs) (hk : ∀ a c, v = .slice (some a) n c → 0 < n → w'.heap[a.block]? = w.heap[a.block]?) : Src w' v sz n zs := by
  obtain ⟨h1, p, c, rfl, h3, h4⟩ := h
  refine ⟨h1, p, c, rfl, h3, fun a ha j z hj => ?_⟩
  subst ha
  have hn : 0 < n := by
    rcases Nat.eq_zero_or_pos n with h | h
    · subst h
      rw [Nat.zero_mul] at h1
      rw [List.length_eq_zero_iff.1 h1] at hj
      simp at hj
    · exact h
  have e : (a.add j).block = a.block := by unfold Addr.add; split <;> rfl
  rw [World.cell?_of_block (w := w) (by rw [e]; exact hk a c rfl hn)]
  exact h4 a rfl j z hj

theorem pts_lent {w : World} {g n : Nat} {zs : List Int} (h : w.heap[g]? = some (.cells (ivs zs ++ List.replicate 6 (Value.int .i64 0)).toArray 35 (0, 0))) (hz : zs.length = n * 2) : Pts w g 0 n (zx zs) (zy zs) := by
  refine ⟨heap_lt h, fun i hi => ?_, fun i hi => ?_⟩
  · rw [Nat.zero_add, heap_cell h]
    simpa [zx] using lent_get zs 6 (i * 2) (by omega)
  · rw [Nat.zero_add, heap_cell h]
    simpa [zy] using lent_get zs 6 (i * 2 + 1) (by omega)

set_option maxRecDepth 100000 in
set_option maxHeartbeats 4000000 in
theorem plays1 (w : World) (B bk : Nat) (vi : Value) (es : List (List Value)) (x y : Int) (v1 v2 v3 : Value) (n1 n2 n3 : Nat) (z1 z2 z3 : List Int) (h1 : n1 ≤ 8796093021952) (h2 : n2 ≤ 8796093021952) (h3 : n3 ≤ 8796093021952)
    {vt : Value} (hB : Bk w B w.heap.size bk vi es vt) (he : es.length ≤ 1466015504000) (s1 : Src w v1 2 n1 z1) (s2 : Src w v2 2 n2 z2) (s3 : Src w v3 3 n3 z3)
    (hq : ∀ v ∈ [v1, v2, v3], ∀ a n c, v = .slice (some a) n c → 0 < n → a.block < w.heap.size ∧ a.block ≠ bk ∧ vi.ownBlock ≠ some a.block) :
    Calls Tryz.prog 29 #[.pointer (some ⟨bk, 0, none⟩), opV 1 v1 v2 v3 x y] w fun e w' => e = .returned (.bool true) ∧ ∃ vi' e', Bk w' B w'.heap.size bk vi' (es ++ [e']) vt ∧ Kp w w' w.heap.size bk vi ∧ Ap w.heap.size vi vi' e' := by
  have HS1 := hid s1
  have HS2 := hid s2
  have HS3 := hid s3
  have HBK := hid hB
  have HQ := hid hq
  clear s1 s2 s3 hB hq
  obtain ⟨p1, c1, rfl⟩ : ∃ p c, v1 = .slice p n1 c := by obtain ⟨_, p, c, e, _⟩ := HS1.out; exact ⟨p, c, e⟩
  obtain ⟨p2, c2, rfl⟩ : ∃ p c, v2 = .slice p n2 c := by obtain ⟨_, p, c, e, _⟩ := HS2.out; exact ⟨p, c, e⟩
  obtain ⟨p3, c3, rfl⟩ : ∃ p c, v3 = .slice p n3 c := by obtain ⟨_, p, c, e, _⟩ := HS3.out; exact ⟨p, c, e⟩
  have OPV : opV 1 (.slice p1 n1 c1) (.slice p2 n2 c2) (.slice p3 n3 c3) x y = .agg #[.int .i64 1, .slice p1 n1 c1, .slice p2 n2 c2, .slice p3 n3 c3, .int .i64 x, .int .i64 y] := rfl
  rw [OPV]
  have HOPV := hid OPV
  clear OPV
  go_enter Tryz.func29, Tryz.ntmps29
  go_wp2_with fail
  obtain ⟨b0, hb0⟩ : ∃ b0, b0 = w.heap.size := ⟨_, rfl⟩
  obtain ⟨W1, hW1⟩ : ∃ W1 : World, W1 = w.alloc (.cells #[.int .i64 1, .slice p1 n1 c1, .slice p2 n2 c2, .slice p3 n3 c3, .int .i64 x, .int .i64 y] 62) := ⟨_, rfl⟩
  have bel1 : Below w.heap.size w W1 := by rw [hW1]; exact (Below.refl _ _).alloc (Nat.le_refl _) _
  have siz1 : W1.heap.size = b0 + 1 := by rw [hW1, hb0]; exact size_new _ _
  have box1 : W1.heap[b0]? = some (.cells #[.int .i64 1, .slice p1 n1 c1, .slice p2 n2 c2, .slice p3 n3 c3, .int .i64 x, .int .i64 y] 62 (0, 0)) := by rw [hW1, hb0]; exact heap_new _ _
  rw [← hW1]
  rw [← hb0]
  have BEL1 := hid bel1
  have SIZ1 := hid siz1
  have BOX1 := hid box1
  have HB0 := hid hb0
  clear hW1 bel1 siz1 box1 hb0
  refine (lend_any W1 1 x y _ _ _ n1 n2 n3 z1 z2 z3 h1 h2 h3 (HS1.out.below BEL1.out) (HS2.out.below BEL1.out) (HS3.out.below BEL1.out)).mono ?_
  rintro e W2 ⟨g1, g2, g3, rfl, e1, e2, e3, bel2, k1, k2, k3⟩
  obtain ⟨W3, hW3⟩ : ∃ W3 : World, W3 = W2.alloc (.cells #[.slice (some ⟨g1, 0, none⟩) (n1 + 3) (n1 + 3), .slice (some ⟨g2, 0, none⟩) (n2 + 3) (n2 + 3), .slice (some ⟨g3, 0, none⟩) (n3 + 3) (n3 + 3)] 80) := ⟨_, rfl⟩
  have HW3 := hid hW3
  have E1 := hid e1
  have E2 := hid e2
  have E3 := hid e3
  have BEL2 := hid bel2
  have K1 := hid k1
  have K2 := hid k2
  have K3 := hid k3
  have q0 : W2.cell? ⟨b0, 0, none⟩ = some (.int .i64 1) := (bel2.cell (by show b0 < _; rw [SIZ1.out]; omega)).trans (heap_cell BOX1.out 0)
  have q1 : W2.cell? ⟨b0, 1, none⟩ = some (.slice p1 n1 c1) := (bel2.cell (by show b0 < _; rw [SIZ1.out]; omega)).trans (heap_cell BOX1.out 1)
  have q0' := new_cell q0
  have q1' := new_cell q1
  have a1 : (n1 : Int) ≤ n1 + 3 := by omega
  clear hW3 e1 e2 e3 bel2 k1 k2 k3
  go_wp2_with fail
  rw [← HW3.out]
  obtain ⟨bX, hbX⟩ : ∃ bX, bX = W2.heap.size := ⟨_, rfl⟩
  rw [← hbX]
  have BX := hid hbX
  clear hbX q0 q1 q0' q1' a1
  have SIZ3 : Hid (W3.heap.size = bX + 1) := hid (by rw [HW3.out, BX.out]; exact size_new _ _)
  have OLD3 : Hid (∀ k, k < bX → W3.heap[k]? = W2.heap[k]?) := hid fun k hk => by rw [HW3.out]; exact Below.heap_alloc _ _ _ (by rw [← BX.out]; exact hk)
  have XB3 : Hid (W3.heap[bX]? = some (.cells #[.slice (some ⟨g1, 0, none⟩) (n1 + 3) (n1 + 3), .slice (some ⟨g2, 0, none⟩) (n2 + 3) (n2 + 3), .slice (some ⟨g3, 0, none⟩) (n3 + 3) (n3 + 3)] 80 (0, 0))) := hid (by rw [HW3.out, BX.out]; exact heap_new _ _)
  have L1 : Hid (g1 < bX) := hid (by rw [BX.out]; exact heap_lt E1.out)
  have L2 : Hid (g2 < bX) := hid (by rw [BX.out]; exact heap_lt E2.out)
  have L3 : Hid (g3 < bX) := hid (by rw [BX.out]; exact heap_lt E3.out)
  have G1 := hid ((OLD3.out g1 L1.out).trans E1.out)
  have G2 := hid ((OLD3.out g2 L2.out).trans E2.out)
  have G3 := hid ((OLD3.out g3 L3.out).trans E3.out)
  have LB : Hid (b0 < bX) := hid (by have := BEL2.out.size; rw [SIZ1.out, ← BX.out] at this; omega)
  have BO3 : Hid (W3.heap[b0]? = some (.cells #[.int .i64 1, .slice p1 n1 c1, .slice p2 n2 c2, .slice p3 n3 c3, .int .i64 x, .int .i64 y] 62 (0, 0))) := hid ((OLD3.out b0 LB.out).trans ((BEL2.out.block b0 (by rw [SIZ1.out]; omega)).trans BOX1.out))
  have BEL3 : Hid (Below b0 w W3) := by
    refine hid ((BEL1.out.trans (BEL2.out.mono BEL1.out.size)).mono (by rw [HB0.out]; exact Nat.le_refl _) |>.trans ?_)
    rw [HW3.out]
    exact (Below.refl _ _).alloc (by rw [← BX.out]; have := LB.out; omega) _
  clear HW3 OLD3 E1 E2 E3
  refine (hull_step z1 n1 g1 (n1 + 3) (.slice p1 n1 c1) W3 h1 (by omega) (pts_lent G1.out HS1.out.1) ⟨p1, c1, rfl⟩).mono ?_
  rintro e W4 ⟨u, xe, hs, rfl, bel4, own4, hl4, href⟩
  obtain ⟨au, cu, hu⟩ : ∃ a c, u = .slice a hs.length c := by
    rcases own4.2 with ⟨h0, h00⟩ | ⟨g', cap', cur, h', _⟩
    · exact ⟨none, 0, by rw [h0, h00]⟩
    · exact ⟨_, _, h'⟩
  have BEL4 := hid bel4
  have OWN4 := hid own4
  have HREF := hid href
  have q1 : W4.cell? ⟨b0, 1, none⟩ = some (.slice p1 n1 c1) := (bel4.cell (by show b0 < _; rw [SIZ3.out]; have := LB.out; omega)).trans (heap_cell BO3.out 1)
  subst hu
  clear bel4 own4 href
  go_wp2_with fail
  have BEL04 : Hid (Below b0 w W4) := hid (BEL3.out.trans (BEL4.out.mono (by rw [SIZ3.out]; have := LB.out; omega)))
  refine (HREF.out W4 (HS1.out.below (by rw [← HB0.out]; exact BEL04.out))).mono ?_
  rintro e W5 ⟨u', rfl, bel5, own5⟩
  obtain ⟨au', cu', hu⟩ : ∃ a c, u' = .slice a hs.length c := by
    rcases own5.2 with ⟨h0, h00⟩ | ⟨g', cap', cur, h', _⟩
    · exact ⟨none, 0, by rw [h0, h00]⟩
    · exact ⟨_, _, h'⟩
  subst hu
  have BEL5 := hid bel5
  have OWN5 := hid own5
  clear q1 bel5 own5
  have OWN4' : Hid (W5.ownsRow W3.heap.size 3 1 (.slice au hs.length cu) hs.length (hs.map encN)) := hid (owns_kept OWN4.out fun g hg => BEL5.out.block g (own_lt OWN4.out g hg))
  obtain ⟨m, hm⟩ : ∃ m, m = hs.length := ⟨_, rfl⟩
  have HM := hid hm
  rw [← hm] at hl4 ⊢
  rw [← hm] at OWN4' OWN5
  clear hm
  go_wp2_with fail
  go_loopw [7, 12] (fun ok i wr => ∃ k : Nat, k ≤ m ∧ i = .int .i64 k ∧ ok = .bool true ∧ Hid (Below W5.heap.size W5 wr)) (fun _ i _ => m - (intOf i).toNat)
  case atStart => exact ⟨0, Nat.zero_le _, rfl, rfl, hid (Below.refl _ _)⟩
  case round =>
    obtain ⟨k, hk, rfl, rfl, hW⟩ := hrel
    by_cases hlt : k < m
    · have i0 : (k : Int) < m := by omega
      obtain ⟨g, cp, hv, _, hg, _, _, hc⟩ := row_of_owns OWN4'.out (by omega)
      obtain ⟨g', cp', hv', _, hg', _, _, hc'⟩ := row_of_owns OWN5.out (by omega)
      have hkl : k < hs.length := by rw [← HM.out]; exact hlt
      simp only [Value.slice.injEq, true_and] at hv hv'
      obtain ⟨rfl, rfl⟩ := hv
      obtain ⟨rfl, rfl⟩ := hv'
      have d1 : wr.cell? ⟨g, k, none⟩ = some (.int .i64 (hs[k] : Nat)) := (hW.out.cell hg).trans (hc k hkl)
      have d2 : wr.cell? ⟨g', k, none⟩ = some (.int .i64 (hs[k] : Nat)) := (hW.out.cell hg').trans (hc' k hkl)
      generalize ((hs[k] : Nat) : Int) = hv at *
      clear hc hc'
      go_wp2_with fail
      go_region
      all_goals go_wp2_with fail
      all_goals exact ⟨⟨k + 1, by omega, by go_num, rfl, hid hW.out.drew⟩, by simp [intOf]; omega⟩
    · have hkm : k = m := by omega
      subst hkm
      have i0 : ¬ (k : Int) < k := by omega
      go_wp2_with fail
      obtain ⟨W6, rfl⟩ : ∃ W6, W6 = wr := ⟨wr, rfl⟩
      have S56 : Hid (W3.heap.size ≤ W6.heap.size) := hid (Nat.le_trans BEL4.out.size (Nat.le_trans BEL5.out.size hW.out.size))
      have B36 : Hid (Below W3.heap.size W3 W6) := hid (BEL4.out.trans ((BEL5.out.mono BEL4.out.size).trans (hW.out.mono (Nat.le_trans BEL4.out.size BEL5.out.size))))
      have B06 : Hid (Below b0 w W6) := hid (BEL3.out.trans (B36.out.mono (by rw [SIZ3.out]; have := LB.out; omega)))
      have BK6 : Hid (Bk W6 B W3.heap.size bk vi es vt) := hid (HBK.out.below (by rw [← HB0.out]; exact B06.out) (by rw [← HB0.out, SIZ3.out]; have := LB.out; omega) S56.out)
      have OWN6 : Hid (W6.ownsRow W3.heap.size 3 1 (.slice au k cu) k (hs.map encN)) := hid (owns_kept OWN4'.out fun g hg => hW.out.block g (own_lt OWN4'.out g hg))
      refine (keepInts_any W6 B W3.heap.size bk vi es (.slice au k cu) k (hs.map encN) BK6.out he (by omega) ?hl).mono ?_
      case hl =>
        rcases OWN6.out.2 with ⟨h0, h00⟩ | ⟨g', cap', cur, h', hb', _⟩
        · exact .inl ⟨h0, h00⟩
        · refine .inr ⟨g', cap', h', hb', owns_base OWN6.out ?_⟩
          have := HBK.out.bB
          have := HBK.out.bS
          rw [← HB0.out] at this
          rw [SIZ3.out]; have := LB.out; omega
      rintro e W7 ⟨rfl, vi', e', bk7, kp7, ap7⟩
      have BK7 := hid bk7
      have KP7 := hid kp7
      have AP7 := hid ap7
      clear bk7 kp7 ap7
      have NB : Hid (bk < b0) := hid (by rw [HB0.out]; exact HBK.out.bS)
      have NV : Hid (∀ g, vi.ownBlock = some g → g < b0) := hid fun g hg => by rw [HB0.out]; exact (HBK.out.vS g hg).1
      have R7 : Hid (∀ g, b0 ≤ g → g < W3.heap.size → W7.heap[g]? = W3.heap[g]?) := hid fun g h1 h2 =>
        (KP7.out.block g h2 (by have := NB.out; omega) (fun e => by have := NV.out g e; omega)).trans (B36.out.block g h2)
      have S7 : Hid (∀ g, g < b0 → g ≠ bk → vi.ownBlock ≠ some g → W7.heap[g]? = w.heap[g]?) := hid fun g h1 h2 h3 =>
        (KP7.out.block g (by rw [SIZ3.out]; have := LB.out; omega) h2 h3).trans (B06.out.block g h1)
      have XB7 := hid ((R7.out bX (by have := LB.out; omega) (by rw [SIZ3.out]; omega)).trans XB3.out)
      have BO7 := hid ((R7.out b0 (Nat.le_refl _) (by rw [SIZ3.out]; have := LB.out; omega)).trans BO3.out)
      have t0 : W7.cell? ⟨bX, 0, none⟩ = some (.slice (some ⟨g1, 0, none⟩) (n1 + 3) (n1 + 3)) := heap_cell XB7.out 0
      have t1 : W7.cell? ⟨bX, 1, none⟩ = some (.slice (some ⟨g2, 0, none⟩) (n2 + 3) (n2 + 3)) := heap_cell XB7.out 1
      have t2 : W7.cell? ⟨bX, 2, none⟩ = some (.slice (some ⟨g3, 0, none⟩) (n3 + 3) (n3 + 3)) := heap_cell XB7.out 2
      have r0 : W7.cell? ⟨b0, 0, none⟩ = some (.int .i64 1) := heap_cell BO7.out 0
      have r1 : W7.cell? ⟨b0, 1, none⟩ = some (.slice p1 n1 c1) := heap_cell BO7.out 1
      have r2 : W7.cell? ⟨b0, 2, none⟩ = some (.slice p2 n2 c2) := heap_cell BO7.out 2
      have r3 : W7.cell? ⟨b0, 3, none⟩ = some (.slice p3 n3 c3) := heap_cell BO7.out 3
      have r4 : W7.cell? ⟨b0, 4, none⟩ = some (.int .i64 x) := heap_cell BO7.out 4
      have r5 : W7.cell? ⟨b0, 5, none⟩ = some (.int .i64 y) := heap_cell BO7.out 5
      go_wp2_with fail
      have M1 : Hid (b0 + 1 ≤ g1 ∧ g1 < W3.heap.size) := hid ⟨by rw [← SIZ1.out]; exact K1.out, by rw [SIZ3.out]; have := L1.out; omega⟩
      have M2 : Hid (b0 + 1 ≤ g2 ∧ g2 < W3.heap.size) := hid ⟨by rw [← SIZ1.out]; exact K2.out, by rw [SIZ3.out]; have := L2.out; omega⟩
      have M3 : Hid (b0 + 1 ≤ g3 ∧ g3 < W3.heap.size) := hid ⟨by rw [← SIZ1.out]; exact K3.out, by rw [SIZ3.out]; have := L3.out; omega⟩
      have Q7 : Hid (∀ v ∈ [Value.slice p1 n1 c1, .slice p2 n2 c2, .slice p3 n3 c3], ∀ a n c, v = .slice (some a) n c → 0 < n → W7.heap[a.block]? = w.heap[a.block]?) := hid fun v hv a n c e hn => by
        have := HQ.out v hv a n c e hn
        exact S7.out _ (by rw [HB0.out]; exact this.1) this.2.1 this.2.2
      refine (still_any W7 1 x y (.slice p1 n1 c1) (.slice p2 n2 c2) (.slice p3 n3 c3) b0 n1 n2 n3 g1 g2 g3 z1 z2 z3 h1 h2 h3 (HS1.out.kept fun a c e hn => Q7.out _ (by simp) a _ c e hn) (HS2.out.kept fun a c e hn => Q7.out _ (by simp) a _ c e hn) (HS3.out.kept fun a c e hn => Q7.out _ (by simp) a _ c e hn)
        (fun v hv a n c e hn => by rw [HB0.out]; exact (HQ.out v hv a n c e hn).1) (by have := M1.out.1; omega) (by have := M2.out.1; omega) (by have := M3.out.1; omega)
        ((R7.out g1 (by have := M1.out.1; omega) M1.out.2).trans G1.out) ((R7.out g2 (by have := M2.out.1; omega) M2.out.2).trans G2.out) ((R7.out g3 (by have := M3.out.1; omega) M3.out.2).trans G3.out)).mono ?_
      rintro e W8 ⟨rfl, but8⟩
      have BUT8 := hid but8
      clear but8
      go_wp2_with fail
      go_ret
      have far : ∀ g, g = g1 ∨ g = g2 ∨ g = g3 → b0 + 1 ≤ g ∧ g < W3.heap.size := by
        rintro g (rfl | rfl | rfl)
        · exact M1.out
        · exact M2.out
        · exact M3.out
      have same : ∀ k, k < W7.heap.size → (k < b0 ∨ W3.heap.size ≤ k) → W8.heap[k]? = W7.heap[k]? := by
        intro k hk hor
        refine BUT8.out.kept k hk ?_ ?_ ?_
        · rintro rfl; have := far _ (.inl rfl); omega
        · rintro rfl; have := far _ (.inr (.inl rfl)); omega
        · rintro rfl; have := far _ (.inr (.inr rfl)); omega
      refine ⟨rfl, vi', e', ?_, ?_, ⟨fun x hx g hg => ?_, fun g hg => ?_⟩⟩
      · refine BK7.out.kept BUT8.out.size (Nat.le_refl _) BUT8.out.size ?_ ?_ ?_
        · exact same bk BK7.out.bS (.inl NB.out)
        · intro g hg
          refine same g (BK7.out.vS g hg).1 ?_
          rcases AP7.out.list g hg with h | h
          · exact .inl (NV.out g h)
          · exact .inr h
        · intro e he x hx g hg
          have hl := (ent_lt BK7.out he hx hg).1
          refine same g hl ?_
          rcases List.mem_append.1 he with h | h
          · exact .inl (by have := (ent_lt HBK.out h hx hg).1; rw [HB0.out]; exact this)
          · simp at h
            subst h
            exact .inr (AP7.out.ent x hx g hg)
      · refine ⟨BUT8.out.os.trans (KP7.out.os.trans B06.out.os), BUT8.out.tape.trans (KP7.out.tape.trans B06.out.tape), BUT8.out.output.trans (KP7.out.output.trans B06.out.output), Nat.le_trans B06.out.size (Nat.le_trans KP7.out.size BUT8.out.size), fun k hk h1 h2 => ?_⟩
        rw [← HB0.out] at hk
        rw [same k (Nat.lt_of_lt_of_le (by rw [← HB0.out]; exact hk) (Nat.le_trans B06.out.size KP7.out.size)) (.inl hk)]
        exact S7.out k hk h1 h2
      · have := AP7.out.ent x hx g hg
        have := LB.out
        rw [SIZ3.out] at *
        rw [← HB0.out]; omega
      · rcases AP7.out.list g hg with h | h
        · exact .inl h
        · refine .inr ?_
          have := LB.out
          rw [SIZ3.out] at h
          rw [← HB0.out]; omega
end Go.Proofs.YtdbebbbceeopaaaGreat

set_option linter.unusedSimpArgs false
namespace Go.Proofs.YtdbebbbceeopaaaGreat
open Go.RowKit

theorem Src.lt {w : World} {a : Addr} {sz n c m : Nat} {zs : List Int} (h : Src w (.slice (some a) n c) sz m zs) (hs : 0 < sz) (hn : 0 < n) : a.block < w.heap.size := by
  obtain ⟨h1, p, c', h2, h3, h4⟩ := h
  cases h2
  have hlen : 0 < zs.length := by rw [h1]; exact Nat.mul_pos hn hs
  have h0 := h4 a rfl 0 zs[0] (List.getElem?_eq_getElem hlen)
  have := World.block_lt_of_cell? w _ h0
  simpa [Addr.add] using this

/-- One step of a script, as it lies in memory. -/
structure OpAt (w : World) (b o : Nat) (kd x y : Int) (v1 v2 v3 : Value) (n1 n2 n3 : Nat) (z1 z2 z3 : List Int) : Prop where
  c0 : w.cell? ⟨b, o, none⟩ = some (.int .i64 kd)
  c1 : w.cell? ⟨b, o + 1, none⟩ = some v1
  c2 : w.cell? ⟨b, o + 2, none⟩ = some v2
  c3 : w.cell? ⟨b, o + 3, none⟩ = some v3
  c4 : w.cell? ⟨b, o + 4, none⟩ = some (.int .i64 x)
  c5 : w.cell? ⟨b, o + 5, none⟩ = some (.int .i64 y)
  h1 : n1 ≤ 8796093021952
  h2 : n2 ≤ 8796093021952
  h3 : n3 ≤ 8796093021952
  s1 : Src w v1 2 n1 z1
  s2 : Src w v2 2 n2 z2
  s3 : Src w v3 3 n3 z3

/-- A script. -/
def Ops (w : World) (p : Option Addr) (n : Nat) : Prop :=
  n ≤ 1466015503701 ∧ ∀ i, i < n → ∃ b o kd x y v1 v2 v3 n1 n2 n3 z1 z2 z3, p = some ⟨b, o, none⟩ ∧ OpAt w b (o + i * 6) kd x y v1 v2 v3 n1 n2 n3 z1 z2 z3

theorem kp_below {w w' : World} {S B bk : Nat} {vi vt : Value} {es : List (List Value)} (hB : Bk w B S bk vi es vt) (h : Kp w w' S bk vi) : Below B w w' := by
  have h1 := hB.bB
  have h2 := hB.bS
  refine ⟨h.os, h.tape, h.output, h.size, fun k hk => h.block k (by omega) (by omega) (fun e => ?_)⟩
  rcases hB.own.2 with ⟨h0, _⟩ | ⟨g, cap, cur, h0, hb, _⟩
  · rw [h0] at e; cases e
  · rw [h0] at e; simp [Value.ownBlock] at e; omega

theorem bk_ge {w : World} {S B bk : Nat} {vi vt : Value} {es : List (List Value)} (hB : Bk w B S bk vi es vt) {k : Nat} (hk : k < B) : k ≠ bk ∧ vi.ownBlock ≠ some k := by
  have h1 := hB.bB
  refine ⟨by omega, fun e => ?_⟩
  rcases hB.own.2 with ⟨h0, _⟩ | ⟨g, cap, cur, h0, hb, _⟩
  · rw [h0] at e; cases e
  · rw [h0] at e; simp [Value.ownBlock] at e; omega

/-- The document's example: three corners. -/
theorem src_corners {w : World} {g : Nat} (h : ∀ j, w.cell? ⟨g, j, none⟩ = #[Value.int .i64 0, .int .i64 0, .int .i64 0, .int .i64 4, .int .i64 4, .int .i64 0][j]?) : Src w (.slice (some ⟨g, 0, none⟩) 3 3) 2 3 [0, 0, 0, 4, 4, 0] := by
  refine ⟨rfl, _, _, rfl, (fun e => by cases e), ?_⟩
  rintro a ha j z hj
  cases ha
  have e : (⟨g, 0, none⟩ : Addr).add j = ⟨g, j, none⟩ := by unfold Addr.add; split <;> simp_all
  rw [e, h j]
  have hl : j < 6 := by
    rcases Nat.lt_or_ge j 6 with h | h
    · exact h
    · rw [List.getElem?_eq_none (by simpa using h)] at hj; cases hj
  rcases (by omega : j = 0 ∨ j = 1 ∨ j = 2 ∨ j = 3 ∨ j = 4 ∨ j = 5) with rfl | rfl | rfl | rfl | rfl | rfl <;> (simp at hj; subst hj; rfl)

theorem src_one {w : World} {g : Nat} (h : ∀ j, w.cell? ⟨g, j, none⟩ = #[Value.int .i64 0, .int .i64 2, .int .i64 1][j]?) : Src w (.slice (some ⟨g, 0, none⟩) 1 1) 3 1 [0, 2, 1] := by
  refine ⟨rfl, _, _, rfl, (fun e => by cases e), ?_⟩
  rintro a ha j z hj
  cases ha
  have e : (⟨g, 0, none⟩ : Addr).add j = ⟨g, j, none⟩ := by unfold Addr.add; split <;> simp_all
  rw [e, h j]
  have hl : j < 3 := by
    rcases Nat.lt_or_ge j 3 with h | h
    · exact h
    · rw [List.getElem?_eq_none (by simpa using h)] at hj; cases hj
  rcases (by omega : j = 0 ∨ j = 1 ∨ j = 2) with rfl | rfl | rfl <;> (simp at hj; subst hj; rfl)

theorem src_nil (w : World) (sz : Nat) : Src w (.slice none 0 0) sz 0 [] := ⟨by simp, none, 0, rfl, fun _ => rfl, fun a h => by cases h⟩

set_option maxRecDepth 100000 in
set_option maxHeartbeats 4000000 in
theorem upTo1 (w : World) (p : Option Addr) (n c : Nat) (hops : Ops w p n) :
    Calls Tryz.prog 13 #[.slice p n c, .int .i64 1, .int .i64 1] w fun e w' => e = .returned (.bool true) ∧ Below w.heap.size w w' := by
  have hn := hops.1
  have HOP := hid hops.2
  clear hops
  go_enter Tryz.func13, Tryz.ntmps13
  go_wp2_with fail
  obtain ⟨B, hB⟩ : ∃ B, B = w.heap.size := ⟨_, rfl⟩
  obtain ⟨W, hW⟩ : ∃ W : World, W = w.alloc (.cells #[.slice none 0 0, .slice none 0 0] 59) := ⟨_, rfl⟩
  rw [← hW]
  have bk0 : Bk W B W.heap.size B (.slice none 0 0) [] := by
    have hh : W.heap[B]? = some (.cells #[.slice none 0 0, .slice none 0 0] 59 (0, 0)) := by rw [hW, hB]; exact heap_new _ _
    exact ⟨Nat.le_refl _, heap_lt hh, Nat.le_refl _, heap_cell hh 0, fun o => heap_free hh o, heap_cell hh 1, World.ownsRow_nil _ _ _ _, (fun g hg => by cases hg), fun i e he => by simp at he⟩
  have bel0 : Below B w W := by rw [hW, hB]; exact (Below.refl _ _).alloc (Nat.le_refl _) _
  have HB := hid hB
  rw [← hB]
  have BK0 := hid bk0
  have BEL0 := hid bel0
  clear hB hW bk0 bel0
  go_loopw [8] (fun i wr => ∃ (m : Nat) (vi : Value) (es : List (List Value)), m ≤ 1 ∧ i = .int .i64 (1 + (m : Int)) ∧ es.length = m ∧ Hid (Bk wr B wr.heap.size B vi es) ∧ Hid (Below B w wr)) (fun i _ => 2 - (intOf i).toNat)
  case atStart => exact ⟨0, _, [], Nat.zero_le _, rfl, rfl, BK0, BEL0⟩
  case round =>
    obtain ⟨m, vi, es, hm, rfl, hes, hK, hW⟩ := hrel
    rcases (by omega : m = 0 ∨ m = 1) with rfl | rfl
    · go_wp2_with fail
      refine (corners_law wr).mono ?_
      rintro e W2 ⟨bel2, siz2, rfl, ce1, ce2⟩
      have bk2 : Bk W2 B W2.heap.size B vi es := hK.out.below bel2 bel2.size (Nat.le_refl _)
      go_wp2_with fail
      have hbk := hK.out.bS
      refine (plays1 W2 B B vi es 1 1 _ _ _ 3 0 1 [0, 0, 0, 4, 4, 0] [] [0, 2, 1] (by omega) (by omega) (by omega) bk2 (by omega) (src_corners ce1) (src_nil _ _) (src_one ce2) ?hq).mono ?_
      case hq =>
        intro v hv a n c e hn
        simp at hv
        rcases hv with rfl | rfl | rfl
        · cases e
          exact ⟨by show wr.heap.size + 1 < _; omega, by show wr.heap.size + 1 ≠ _; omega, fun e => by have := (hK.out.vS _ e).1; simp at this; omega⟩
        · cases e
        · cases e
          exact ⟨by show wr.heap.size + 2 < _; omega, by show wr.heap.size + 2 ≠ _; omega, fun e => by have := (hK.out.vS _ e).1; simp at this; omega⟩
      rintro e W3 ⟨rfl, vi', e', bk3, kp3, _⟩
      have hB3 : Below B w W3 := hW.out.trans ((bel2.mono (Nat.le_of_lt hbk)).trans (kp_below bk2 kp3))
      have BK3 := hid bk3
      have BEL3 := hid hB3
      clear bk2 bk3 kp3 hB3 ce1 ce2 bel2 siz2 hbk
      go_wp2_with fail
      exact ⟨⟨1, vi', es ++ [e'], Nat.le_refl _, rfl, by simp [hes], BK3, BEL3⟩, by simp [intOf]⟩
    · rw [show (1 + ((1 : Nat) : Int)) = 2 from rfl]
      go_wp2_with fail
      obtain ⟨W2, rfl⟩ : ∃ W2, W2 = wr := ⟨wr, rfl⟩
      go_loopw [10] (fun i wr => ∃ (k : Nat) (vi : Value) (es : List (List Value)), k ≤ n ∧ i = .int .i64 k ∧ es.length ≤ k + 1 ∧ Hid (Bk wr B wr.heap.size B vi es) ∧ Hid (Below B w wr)) (fun i _ => n - (intOf i).toNat)
      case atStart => exact ⟨0, vi, es, Nat.zero_le _, rfl, by omega, hK, hW⟩
      case round =>
        clear hK hW hes
        obtain ⟨k, vi, es, hk, rfl, hes, hK, hW⟩ := hrel
        by_cases hlt : k < n
        · obtain ⟨b, o, kd, x, y, v1, v2, v3, n1, n2, n3, z1, z2, z3, rfl, hO⟩ := HOP.out k hlt
          have HO := hid hO
          have hbB : b < B := by rw [HB.out]; exact World.block_lt_of_cell? w _ hO.c0
          have d0 : wr.cell? ⟨b, o + k * 6, none⟩ = some (.int .i64 kd) := (hW.out.cell hbB).trans hO.c0
          have d1 : wr.cell? ⟨b, o + k * 6 + 1, none⟩ = some v1 := (hW.out.cell hbB).trans hO.c1
          have d2 : wr.cell? ⟨b, o + k * 6 + 2, none⟩ = some v2 := (hW.out.cell hbB).trans hO.c2
          have d3 : wr.cell? ⟨b, o + k * 6 + 3, none⟩ = some v3 := (hW.out.cell hbB).trans hO.c3
          have d4 : wr.cell? ⟨b, o + k * 6 + 4, none⟩ = some (.int .i64 x) := (hW.out.cell hbB).trans hO.c4
          have d5 : wr.cell? ⟨b, o + k * 6 + 5, none⟩ = some (.int .i64 y) := (hW.out.cell hbB).trans hO.c5
          obtain ⟨p1, c1, rfl⟩ : ∃ p c, v1 = .slice p n1 c := by obtain ⟨_, p, c, e, _⟩ := hO.s1; exact ⟨p, c, e⟩
          obtain ⟨p2, c2, rfl⟩ : ∃ p c, v2 = .slice p n2 c := by obtain ⟨_, p, c, e, _⟩ := hO.s2; exact ⟨p, c, e⟩
          obtain ⟨p3, c3, rfl⟩ : ∃ p c, v3 = .slice p n3 c := by obtain ⟨_, p, c, e, _⟩ := hO.s3; exact ⟨p, c, e⟩
          have i0 : (k : Int) < n := by omega
          have BEL1 : Hid (Below B w (wr.alloc (.cells #[.int .i64 kd, .slice p1 n1 c1, .slice p2 n2 c2, .slice p3 n3 c3, .int .i64 x, .int .i64 y] 62))) := hid (hW.out.alloc (by have := hK.out.bS; omega) _)
          have BK1 : Hid (Bk (wr.alloc (.cells #[.int .i64 kd, .slice p1 n1 c1, .slice p2 n2 c2, .slice p3 n3 c3, .int .i64 x, .int .i64 y] 62)) B (wr.alloc (.cells #[.int .i64 kd, .slice p1 n1 c1, .slice p2 n2 c2, .slice p3 n3 c3, .int .i64 x, .int .i64 y] 62)).heap.size B vi es) :=
            hid (hK.out.below ((Below.refl _ _).alloc (Nat.le_refl _) _) (by rw [size_new]; omega) (Nat.le_refl _))
          clear hO
          rcases (by omega : kd = 1 ∨ kd < 1 ∨ 1 < kd) with rfl | hkd | hkd
          · go_wp2_with fail
            obtain ⟨W3, hW3⟩ : ∃ W3 : World, W3 = wr.alloc (.cells #[.int .i64 1, .slice p1 n1 c1, .slice p2 n2 c2, .slice p3 n3 c3, .int .i64 x, .int .i64 y] 62) := ⟨_, rfl⟩
            rw [← hW3] at BEL1 BK1 ⊢
            clear hW3 d0 d1 d2 d3 d4 d5
            have BW : Hid (Below w.heap.size w W3) := by rw [HB.out] at BEL1; exact BEL1
            refine (plays1 W3 B B vi es x y (.slice p1 n1 c1) (.slice p2 n2 c2) (.slice p3 n3 c3) n1 n2 n3 z1 z2 z3 HO.out.h1 HO.out.h2 HO.out.h3 BK1.out (by omega) (HO.out.s1.below BW.out) (HO.out.s2.below BW.out) (HO.out.s3.below BW.out) ?hq).mono ?_
            case hq =>
              intro v hv a n c e hn
              have hlt : a.block < w.heap.size := by
                simp at hv
                rcases hv with rfl | rfl | rfl
                · rw [e] at HO; exact HO.out.s1.lt (by omega) hn
                · rw [e] at HO; exact HO.out.s2.lt (by omega) hn
                · rw [e] at HO; exact HO.out.s3.lt (by omega) hn
              have := bk_ge BK1.out (k := a.block) (by rw [HB.out]; exact hlt)
              exact ⟨Nat.lt_of_lt_of_le hlt BW.out.size, this⟩
            rintro e W4 ⟨rfl, vi', e', bk4, kp4, _⟩
            have BK4 := hid bk4
            have BEL4 := hid (BEL1.out.trans (kp_below BK1.out kp4))
            clear bk4 kp4
            go_wp2_with fail
            refine (looks_any W4 B W4.heap.size B vi' (es ++ [e']) BK4.out (by simp; omega)).mono ?_
            rintro e W5 ⟨rfl, bel5⟩
            have BK5 := hid (BK4.out.below bel5 bel5.size (Nat.le_refl _))
            have BEL5 := hid (BEL4.out.trans (bel5.mono (Nat.le_of_lt BK4.out.bS)))
            clear bel5
            go_wp2_with fail
            exact ⟨⟨k + 1, vi', es ++ [e'], by omega, by go_num, by simp; omega, BK5, BEL5⟩, by simp [intOf]; omega⟩
          · have j1 : ¬ (1 : Int) ≤ kd := by omega
            go_wp2_with fail
            exact ⟨⟨k + 1, vi, es, by omega, by go_num, by omega, BK1, BEL1⟩, by simp [intOf]; omega⟩
          · have j1 : (1 : Int) ≤ kd := by omega
            have j2 : ¬ kd ≤ 1 := by omega
            go_wp2_with fail
            exact ⟨⟨k + 1, vi, es, by omega, by go_num, by omega, BK1, BEL1⟩, by simp [intOf]; omega⟩
        · have hkn : k = n := by omega
          subst hkn
          go_wp2_with fail
          go_ret
          exact ⟨rfl, by rw [← HB.out]; exact hW.out⟩

set_option maxRecDepth 100000 in
theorem hulls_any (w : World) (p : Option Addr) (n c : Nat) (hops : Ops w p n) :
    Calls Tryz.prog 3 #[.slice p n c] w fun e w' => e = .returned (.bool true) ∧ Below w.heap.size w w' := by
  have H := hid (upTo1 w p n c hops)
  clear hops
  go_enter Tryz.func3, Tryz.ntmps3
  go_wp2_with fail
  refine H.out.mono ?_
  rintro e w' ⟨rfl, hb⟩
  go_wp2_with fail
  go_ret
  exact ⟨rfl, hb⟩
end Go.Proofs.YtdbebbbceeopaaaGreat
