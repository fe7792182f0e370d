import Derived.Test.YtdbebbbceeopaaaGreatF9
import Derived.Test.YtdbebbbceeopaaaGreatF7
import Derived.Test.YtdbebbbceeopaaaGreatF6
import Derived.Test.YtdbebbbceeopaaaGreatF8
set_option linter.unusedSimpArgs false
namespace Go.Proofs.YtdbebbbceeopaaaGreat
open Go.RowKit

def zx (zs : List Int) (i : Nat) : Int := zs.getD (i * 2) 0
def zy (zs : List Int) (i : Nat) : Int := zs.getD (i * 2 + 1) 0

theorem Full.kept {w w' : World} {v : Value} {m : Int} (h : Full w v m) (hs : w.heap.size ≤ w'.heap.size) (hk : ∀ g, v.ownBlock = some g → w'.heap[g]? = w.heap[g]?) : Full w' v m := by
  rcases h with h | ⟨g, n, c, rfl, h2, h3, h4⟩
  · exact Or.inl h
  · exact Or.inr ⟨g, n, c, rfl, h2, Nat.lt_of_lt_of_le h3 hs, fun j hj => (World.cell?_of_block (w := w) (a := ⟨g, j, none⟩) (hk g rfl)).trans (h4 j hj)⟩

theorem owns_kept {w w' : World} {base : Nat} {e : TypeId} {size : Nat} {v : Value} {n : Nat} {xs : List Value} (h : w.ownsRow base e size v n xs) (hk : ∀ g, v.ownBlock = some g → w'.heap[g]? = w.heap[g]?) : w'.ownsRow base e size v n xs := by
  refine ⟨h.1, ?_⟩
  rcases h.2 with h0 | ⟨g, cap, cur, rfl, hb, hh, r⟩
  · exact .inl h0
  · exact .inr ⟨g, cap, cur, rfl, hb, (hk g rfl).trans hh, r⟩

/-- The book, behind what left its blocks alone. -/
theorem Bk.kept {w w' : World} {B S S' bk : Nat} {vi vt : Value} {es : List (List Value)} (h : Bk w B S bk vi es vt) (hS : S ≤ S') (hw : S' ≤ w'.heap.size) (hs : w.heap.size ≤ w'.heap.size) (hk : w'.heap[bk]? = w.heap[bk]?) (hv : ∀ g, vi.ownBlock = some g → w'.heap[g]? = w.heap[g]?)
    (he : ∀ e ∈ es, ∀ x ∈ e, ∀ g, x.ownBlock = some g → w'.heap[g]? = w.heap[g]?) : Bk w' B S' bk vi es vt := by
  refine ⟨h.bB, Nat.lt_of_lt_of_le h.bS hS, hw, ?_, ?_, ?_, owns_kept h.own hv, ?_, ?_⟩
  · exact (World.cell?_of_block (w := w) (a := ⟨bk, 0, none⟩) hk).trans h.c0
  · exact fun o => (World.frozen?_of_block (w := w) (a := ⟨bk, o, none⟩) hk).trans (h.f0 o)
  · exact (World.cell?_of_block (w := w) (a := ⟨bk, 1, none⟩) hk).trans h.c1
  · intro g hg
    have := h.vS g hg
    exact ⟨by omega, this.2⟩
  · intro i e hi
    obtain ⟨l, a, b, c, rfl, hx⟩ := h.ent i e hi
    refine ⟨l, a, b, c, rfl, fun x hx' => ?_⟩
    obtain ⟨h1, h2⟩ := hx x hx'
    refine ⟨h1.kept hs (he _ (List.mem_of_getElem? hi) x (by simp at hx' ⊢; rcases hx' with h | h | h | h <;> simp [h])), fun g hg => ?_⟩
    have := h2 g hg
    exact ⟨by omega, this.2⟩

theorem Bk.below {w w' : World} {B S S' bk : Nat} {vi vt : Value} {es : List (List Value)} (h : Bk w B S bk vi es vt) (hb : Below S w w') (hS : S ≤ S') (hw : S' ≤ w'.heap.size) : Bk w' B S' bk vi es vt :=
  h.kept hS hw hb.size (hb.block bk h.bS) (fun g hg => hb.block g (h.vS g hg).1) fun e he x hx g hg => by
    obtain ⟨i, hi⟩ := List.mem_iff_getElem?.1 he
    obtain ⟨l, a, b, c, rfl, hy⟩ := h.ent i e hi
    by_cases hxm : x = .int .i64 (-1000 - (i : Int))
    · subst hxm; cases hg
    · exact hb.block g ((hy x (by simp at hx ⊢; rcases hx with h | h | h | h | h <;> simp_all)).2 g hg).1

theorem pts_lent {w : World} {g n : Nat} {zs : List Int} (h : w.heap[g]? = some (.cells (ivs zs ++ List.replicate 6 (Value.int .i64 0)).toArray 35 (0, 0))) (hz : zs.length = n * 2) : Pts w g 0 n (zx zs) (zy zs) := by
  refine ⟨heap_lt h, fun i hi => ?_, fun i hi => ?_⟩
  · rw [Nat.zero_add, heap_cell h]
    simpa [zx] using lent_get zs 6 (i * 2) (by omega)
  · rw [Nat.zero_add, heap_cell h]
    simpa [zy] using lent_get zs 6 (i * 2 + 1) (by omega)

end Go.Proofs.YtdbebbbceeopaaaGreat

set_option linter.unusedSimpArgs false
namespace Go.Proofs.YtdbebbbceeopaaaGreat
open Go.RowKit

theorem Src.lt {w : World} {a : Addr} {sz n c m : Nat} {zs : List Int} (h : Src w (.slice (some a) n c) sz m zs) (hs : 0 < sz) (hn : 0 < n) : a.block < w.heap.size := by
  obtain ⟨h1, p, c', h2, h3, h4⟩ := h
  cases h2
  have hlen : 0 < zs.length := by rw [h1]; exact Nat.mul_pos hn hs
  have h0 := h4 a rfl 0 zs[0] (List.getElem?_eq_getElem hlen)
  have := World.block_lt_of_cell? w _ h0
  simpa [Addr.add] using this

/-- One step of a script, as it lies in memory. -/
structure OpAt (w : World) (b o : Nat) (kd x y : Int) (v1 v2 v3 : Value) (n1 n2 n3 : Nat) (z1 z2 z3 : List Int) : Prop where
  c0 : w.cell? ⟨b, o, none⟩ = some (.int .i64 kd)
  c1 : w.cell? ⟨b, o + 1, none⟩ = some v1
  c2 : w.cell? ⟨b, o + 2, none⟩ = some v2
  c3 : w.cell? ⟨b, o + 3, none⟩ = some v3
  c4 : w.cell? ⟨b, o + 4, none⟩ = some (.int .i64 x)
  c5 : w.cell? ⟨b, o + 5, none⟩ = some (.int .i64 y)
  h1 : n1 ≤ 8796093021952
  h2 : n2 ≤ 8796093021952
  h3 : n3 ≤ 8796093021952
  s1 : Src w v1 2 n1 z1
  s2 : Src w v2 2 n2 z2
  s3 : Src w v3 3 n3 z3

/-- A script. -/
def Ops (w : World) (p : Option Addr) (n : Nat) : Prop :=
  n ≤ 8796093021952 ∧ ∀ i, i < n → ∃ b o kd x y v1 v2 v3 n1 n2 n3 z1 z2 z3, p = some ⟨b, o, none⟩ ∧ OpAt w b (o + i * 6) kd x y v1 v2 v3 n1 n2 n3 z1 z2 z3

/-- The document's example: three corners. -/
theorem src_corners {w : World} {g : Nat} (h : ∀ j, w.cell? ⟨g, j, none⟩ = #[Value.int .i64 0, .int .i64 0, .int .i64 0, .int .i64 4, .int .i64 4, .int .i64 0][j]?) : Src w (.slice (some ⟨g, 0, none⟩) 3 3) 2 3 [0, 0, 0, 4, 4, 0] := by
  refine ⟨rfl, _, _, rfl, (fun e => by cases e), ?_⟩
  rintro a ha j z hj
  cases ha
  have e : (⟨g, 0, none⟩ : Addr).add j = ⟨g, j, none⟩ := by unfold Addr.add; split <;> simp_all
  rw [e, h j]
  have hl : j < 6 := by
    rcases Nat.lt_or_ge j 6 with h | h
    · exact h
    · rw [List.getElem?_eq_none (by simpa using h)] at hj; cases hj
  rcases (by omega : j = 0 ∨ j = 1 ∨ j = 2 ∨ j = 3 ∨ j = 4 ∨ j = 5) with rfl | rfl | rfl | rfl | rfl | rfl <;> (simp at hj; subst hj; rfl)

theorem src_one {w : World} {g : Nat} (h : ∀ j, w.cell? ⟨g, j, none⟩ = #[Value.int .i64 0, .int .i64 2, .int .i64 1][j]?) : Src w (.slice (some ⟨g, 0, none⟩) 1 1) 3 1 [0, 2, 1] := by
  refine ⟨rfl, _, _, rfl, (fun e => by cases e), ?_⟩
  rintro a ha j z hj
  cases ha
  have e : (⟨g, 0, none⟩ : Addr).add j = ⟨g, j, none⟩ := by unfold Addr.add; split <;> simp_all
  rw [e, h j]
  have hl : j < 3 := by
    rcases Nat.lt_or_ge j 3 with h | h
    · exact h
    · rw [List.getElem?_eq_none (by simpa using h)] at hj; cases hj
  rcases (by omega : j = 0 ∨ j = 1 ∨ j = 2) with rfl | rfl | rfl <;> (simp at hj; subst hj; rfl)

theorem src_nil (w : World) (sz : Nat) : Src w (.slice none 0 0) sz 0 [] := ⟨by simp, none, 0, rfl, fun _ => rfl, fun a h => by cases h⟩

end Go.Proofs.YtdbebbbceeopaaaGreat

set_option linter.unusedSimpArgs false
namespace Go.Proofs.YtdbebbbceeopaaaGreat
open Go.RowKit

theorem trs_lent {w : World} {g n : Nat} {zs : List Int} (h : w.heap[g]? = some (.cells (ivs zs ++ List.replicate 9 (Value.int .i64 0)).toArray 46 (0, 0))) (hz : zs.length = n * 3) : Trs w g 0 n zs := by
  refine ⟨heap_lt h, fun j hj => ⟨?_, ?_, ?_⟩⟩
  · rw [Nat.zero_add, heap_cell h]
    simpa using lent_get zs 9 (j * 3) (by omega)
  · rw [Nat.zero_add, heap_cell h]
    simpa using lent_get zs 9 (j * 3 + 1) (by omega)
  · rw [Nat.zero_add, heap_cell h]
    simpa using lent_get zs 9 (j * 3 + 2) (by omega)

theorem Src.trs {w : World} {p : Option Addr} {n c : Nat} {zs : List Int} (h : Src w (.slice p n c) 3 n zs) (hn : 0 < n) : ∃ g o, p = some ⟨g, o, none⟩ ∧ Trs w g o n zs := by
  obtain ⟨b, o, rfl, hb, hc⟩ := h.at hn (by omega)
  exact ⟨b, o, rfl, hb, fun j hj => ⟨hc (j * 3) (by omega), hc (j * 3 + 1) (by omega), hc (j * 3 + 2) (by omega)⟩⟩

theorem Src.pts' {w : World} {p : Option Addr} {n c : Nat} {zs : List Int} (h : Src w (.slice p n c) 2 n zs) (hn : 0 < n) : ∃ b o, p = some ⟨b, o, none⟩ ∧ Pts w b o n (zx zs) (zy zs) := by
  obtain ⟨b, o, rfl, hb, hc⟩ := h.at hn (by omega)
  exact ⟨b, o, rfl, hb, fun i hi => hc (i * 2) (by omega), fun i hi => hc (i * 2 + 1) (by omega)⟩

set_option maxRecDepth 100000 in
set_option maxHeartbeats 4000000 in
theorem plays4 (w : World) (bk : Nat) (x y : Int) (v1 v2 v3 : Value) (n1 n2 n3 : Nat) (z1 z2 z3 : List Int) (h1 : n1 ≤ 8796093021952) (h2 : n2 ≤ 8796093021952) (h3 : n3 ≤ 8796093021952)
    (s1 : Src w v1 2 n1 z1) (s2 : Src w v2 2 n2 z2) (s3 : Src w v3 3 n3 z3) :
    Calls Tryz.prog 29 #[.pointer (some ⟨bk, 0, none⟩), opV 4 v1 v2 v3 x y] w fun e w' => e = .returned (.bool true) ∧ Below w.heap.size w w' := by
  have HS1 := hid s1
  have HS2 := hid s2
  have HS3 := hid s3
  clear s1 s2 s3
  obtain ⟨p1, c1, rfl⟩ : ∃ p c, v1 = .slice p n1 c := by obtain ⟨_, p, c, e, _⟩ := HS1.out; exact ⟨p, c, e⟩
  obtain ⟨p2, c2, rfl⟩ : ∃ p c, v2 = .slice p n2 c := by obtain ⟨_, p, c, e, _⟩ := HS2.out; exact ⟨p, c, e⟩
  obtain ⟨p3, c3, rfl⟩ : ∃ p c, v3 = .slice p n3 c := by obtain ⟨_, p, c, e, _⟩ := HS3.out; exact ⟨p, c, e⟩
  have OPV : opV 4 (.slice p1 n1 c1) (.slice p2 n2 c2) (.slice p3 n3 c3) x y = .agg #[.int .i64 4, .slice p1 n1 c1, .slice p2 n2 c2, .slice p3 n3 c3, .int .i64 x, .int .i64 y] := rfl
  rw [OPV]
  have HOPV := hid OPV
  clear OPV
  go_enter Tryz.func29, Tryz.ntmps29
  go_wp2_with fail
  obtain ⟨b0, hb0⟩ : ∃ b0, b0 = w.heap.size := ⟨_, rfl⟩
  obtain ⟨W1, hW1⟩ : ∃ W1 : World, W1 = w.alloc (.cells #[.int .i64 4, .slice p1 n1 c1, .slice p2 n2 c2, .slice p3 n3 c3, .int .i64 x, .int .i64 y] 62) := ⟨_, rfl⟩
  have bel1 : Below w.heap.size w W1 := by rw [hW1]; exact (Below.refl _ _).alloc (Nat.le_refl _) _
  have siz1 : W1.heap.size = b0 + 1 := by rw [hW1, hb0]; exact size_new _ _
  have box1 : W1.heap[b0]? = some (.cells #[.int .i64 4, .slice p1 n1 c1, .slice p2 n2 c2, .slice p3 n3 c3, .int .i64 x, .int .i64 y] 62 (0, 0)) := by rw [hW1, hb0]; exact heap_new _ _
  rw [← hW1]
  rw [← hb0]
  have BEL1 := hid bel1
  have SIZ1 := hid siz1
  have BOX1 := hid box1
  have HB0 := hid hb0
  clear hW1 bel1 siz1 box1 hb0
  refine (lend_any W1 4 x y _ _ _ n1 n2 n3 z1 z2 z3 h1 h2 h3 (HS1.out.below BEL1.out) (HS2.out.below BEL1.out) (HS3.out.below BEL1.out)).mono ?_
  rintro e W2 ⟨g1, g2, g3, rfl, e1, e2, e3, bel2, k1, k2, k3⟩
  obtain ⟨W3, hW3⟩ : ∃ W3 : World, W3 = W2.alloc (.cells #[.slice (some ⟨g1, 0, none⟩) (n1 + 3) (n1 + 3), .slice (some ⟨g2, 0, none⟩) (n2 + 3) (n2 + 3), .slice (some ⟨g3, 0, none⟩) (n3 + 3) (n3 + 3)] 80) := ⟨_, rfl⟩
  have HW3 := hid hW3
  have E1 := hid e1
  have E2 := hid e2
  have E3 := hid e3
  have BEL2 := hid bel2
  have K1 := hid k1
  have K2 := hid k2
  have K3 := hid k3
  obtain ⟨bX, hbX⟩ : ∃ bX, bX = W2.heap.size := ⟨_, rfl⟩
  have BX := hid hbX
  clear hbX hW3 e1 e2 e3 bel2 k1 k2 k3
  have SIZ3 : Hid (W3.heap.size = bX + 1) := hid (by rw [HW3.out, BX.out]; exact size_new _ _)
  have OLD3 : Hid (∀ k, k < bX → W3.heap[k]? = W2.heap[k]?) := hid fun k hk => by rw [HW3.out]; exact Below.heap_alloc _ _ _ (by rw [← BX.out]; exact hk)
  have XB3 : Hid (W3.heap[bX]? = some (.cells #[.slice (some ⟨g1, 0, none⟩) (n1 + 3) (n1 + 3), .slice (some ⟨g2, 0, none⟩) (n2 + 3) (n2 + 3), .slice (some ⟨g3, 0, none⟩) (n3 + 3) (n3 + 3)] 80 (0, 0))) := hid (by rw [HW3.out, BX.out]; exact heap_new _ _)
  have L1 : Hid (g1 < bX) := hid (by rw [BX.out]; exact heap_lt E1.out)
  have L2 : Hid (g2 < bX) := hid (by rw [BX.out]; exact heap_lt E2.out)
  have L3 : Hid (g3 < bX) := hid (by rw [BX.out]; exact heap_lt E3.out)
  have G1 := hid ((OLD3.out g1 L1.out).trans E1.out)
  have G2 := hid ((OLD3.out g2 L2.out).trans E2.out)
  have G3 := hid ((OLD3.out g3 L3.out).trans E3.out)
  have LB : Hid (b0 < bX) := hid (by have := BEL2.out.size; rw [SIZ1.out, ← BX.out] at this; omega)
  have BO2 : Hid (W2.heap[b0]? = some (.cells #[.int .i64 4, .slice p1 n1 c1, .slice p2 n2 c2, .slice p3 n3 c3, .int .i64 x, .int .i64 y] 62 (0, 0))) := hid ((BEL2.out.block b0 (by rw [SIZ1.out]; omega)).trans BOX1.out)
  have BO3 : Hid (W3.heap[b0]? = some (.cells #[.int .i64 4, .slice p1 n1 c1, .slice p2 n2 c2, .slice p3 n3 c3, .int .i64 x, .int .i64 y] 62 (0, 0))) := hid ((OLD3.out b0 LB.out).trans BO2.out)
  have BEL3 : Hid (Below b0 w W3) := by
    refine hid ((BEL1.out.trans (BEL2.out.mono BEL1.out.size)).mono (by rw [HB0.out]; exact Nat.le_refl _) |>.trans ?_)
    rw [HW3.out]
    exact (Below.refl _ _).alloc (by rw [← BX.out]; have := LB.out; omega) _
  have q0 : W2.cell? ⟨b0, 0, none⟩ = some (.int .i64 4) := heap_cell BO2.out 0
  have q1 : W2.cell? ⟨b0, 1, none⟩ = some (.slice p1 n1 c1) := heap_cell BO2.out 1
  have q3 : W2.cell? ⟨b0, 3, none⟩ = some (.slice p3 n3 c3) := heap_cell BO2.out 3
  have q4 : W2.cell? ⟨b0, 4, none⟩ = some (.int .i64 x) := heap_cell BO2.out 4
  have q5 : W2.cell? ⟨b0, 5, none⟩ = some (.int .i64 y) := heap_cell BO2.out 5
  have q0' := new_cell q0
  have q1' := new_cell q1
  have q3' := new_cell q3
  have q4' := new_cell q4
  have q5' := new_cell q5
  have a1 : (n1 : Int) ≤ n1 + 3 := by omega
  have a3 : (n3 : Int) ≤ n3 + 3 := by omega
  go_wp2_with fail
  rw [← HW3.out, ← BX.out]
  clear q0 q1 q3 q4 q5 q0' q1' q3' q4' q5'
  obtain ⟨L, hL⟩ : ∃ L, L = locI (zx z1) (zy z1) n1 z3 n3 x y := ⟨_, rfl⟩
  have HLOC : Hid (∀ W', Below W3.heap.size W3 W' → Calls Tryz.prog 24 #[.slice (some ⟨g1, 0, none⟩) n1 (n1 + 3), .slice (some ⟨g3, 0, none⟩) n3 (n3 + 3), .agg #[.int .i64 x, .int .i64 y]] W' fun e w' => e = .returned (.int .i64 L) ∧ Below W'.heap.size W' w') := hid (by
    intro W' hb
    rw [hL]
    have hp := pts_lent G1.out HS1.out.1
    exact locate_any (zx z1) (zy z1) n1 g1 0 (n1 + 3) g3 0 n3 (n3 + 3) z3 x y W' (hp.below hb hp.lt) ((trs_lent G3.out HS3.out.1).below hb) h3)
  have HREF : Hid (∀ W', Below w.heap.size w W' → Calls Tryz.prog 54 #[.slice p1 n1 c1, .slice p3 n3 c3, .agg #[.int .i64 x, .int .i64 y]] W' fun e w' => e = .returned (.int .i64 L) ∧ Below W'.heap.size W' w') := hid (by
    intro W' hb
    rw [hL]
    exact refLocate_any (zx z1) (zy z1) n1 c1 n3 c3 p1 p3 z3 x y W' h1 h3 (fun h => (HS1.out.below hb).pts' h) (fun h => (HS3.out.below hb).trs h))
  clear hL
  have q3 : W3.cell? ⟨b0, 3, none⟩ = some (.slice p3 n3 c3) := heap_cell BO3.out 3
  have q4 : W3.cell? ⟨b0, 4, none⟩ = some (.int .i64 x) := heap_cell BO3.out 4
  have q5 : W3.cell? ⟨b0, 5, none⟩ = some (.int .i64 y) := heap_cell BO3.out 5
  have r2 : W3.cell? ⟨bX, 2, none⟩ = some (.slice (some ⟨g3, 0, none⟩) (n3 + 3) (n3 + 3)) := heap_cell XB3.out 2
  have lb : b0 < W3.heap.size := heap_lt BO3.out
  have lx : bX < W3.heap.size := heap_lt XB3.out
  clear HW3 OLD3 E1 E2 E3
  go_region_held3 (fun w' => w'.cell? ⟨b0, 3, none⟩ = some (.slice p3 n3 c3) ∧ w'.cell? ⟨b0, 4, none⟩ = some (.int .i64 x) ∧ w'.cell? ⟨b0, 5, none⟩ = some (.int .i64 y) ∧ w'.cell? ⟨bX, 2, none⟩ = some (.slice (some ⟨g3, 0, none⟩) (n3 + 3) (n3 + 3))) (go_keep)
    ((go_at_call 24; refine (HLOC.out _ (Below.refl _ _).drew).mono ?_; rintro e W4 ⟨rfl, hb4⟩; have u1 := (hb4.cell (p := ⟨b0, 3, none⟩) lb).trans q3; have u2 := (hb4.cell (p := ⟨b0, 4, none⟩) lb).trans q4; have u3 := (hb4.cell (p := ⟨b0, 5, none⟩) lb).trans q5; have u4 := (hb4.cell (p := ⟨bX, 2, none⟩) lx).trans r2; have HB4 := hid hb4; clear hb4))
  have B4 : Hid (Below W3.heap.size W3 W4) := hid ((Below.refl _ _).drew.trans HB4.out)
  have u0 : W4.cell? ⟨b0, 1, none⟩ = some (.slice p1 n1 c1) := (B4.out.cell (by exact lb)).trans (heap_cell BO3.out 1)
  clear HB4 u4 q3 q4 q5 r2 a1 a3
  go_wp2_with fail
  have B04 : Hid (Below b0 w W4) := hid (BEL3.out.trans (B4.out.mono (Nat.le_of_lt lb)))
  refine (HREF.out W4 (by rw [← HB0.out]; exact B04.out)).mono ?_
  rintro e W5 ⟨rfl, hb5⟩
  have B5 : Hid (Below W3.heap.size W3 W5) := hid (B4.out.trans (hb5.mono B4.out.size))
  have B05 : Hid (Below b0 w W5) := hid (BEL3.out.trans (B5.out.mono (Nat.le_of_lt lb)))
  clear hb5 u0 u1 u2 u3 B04
  have R5 : Hid (∀ g, g < W3.heap.size → W5.heap[g]? = W3.heap[g]?) := hid fun g hg => B5.out.block g hg
  have XB5 := hid ((R5.out bX lx).trans XB3.out)
  have BO5 := hid ((R5.out b0 lb).trans BO3.out)
  have t0 : W5.cell? ⟨bX, 0, none⟩ = some (.slice (some ⟨g1, 0, none⟩) (n1 + 3) (n1 + 3)) := heap_cell XB5.out 0
  have t1 : W5.cell? ⟨bX, 1, none⟩ = some (.slice (some ⟨g2, 0, none⟩) (n2 + 3) (n2 + 3)) := heap_cell XB5.out 1
  have t2 : W5.cell? ⟨bX, 2, none⟩ = some (.slice (some ⟨g3, 0, none⟩) (n3 + 3) (n3 + 3)) := heap_cell XB5.out 2
  have r0 : W5.cell? ⟨b0, 0, none⟩ = some (.int .i64 4) := heap_cell BO5.out 0
  have r1 : W5.cell? ⟨b0, 1, none⟩ = some (.slice p1 n1 c1) := heap_cell BO5.out 1
  have r2 : W5.cell? ⟨b0, 2, none⟩ = some (.slice p2 n2 c2) := heap_cell BO5.out 2
  have r3 : W5.cell? ⟨b0, 3, none⟩ = some (.slice p3 n3 c3) := heap_cell BO5.out 3
  have r4 : W5.cell? ⟨b0, 4, none⟩ = some (.int .i64 x) := heap_cell BO5.out 4
  have r5 : W5.cell? ⟨b0, 5, none⟩ = some (.int .i64 y) := heap_cell BO5.out 5
  go_wp2_with fail
  have M1 : Hid (b0 + 1 ≤ g1 ∧ g1 < W3.heap.size) := hid ⟨by rw [← SIZ1.out]; exact K1.out, by rw [SIZ3.out]; have := L1.out; omega⟩
  have M2 : Hid (b0 + 1 ≤ g2 ∧ g2 < W3.heap.size) := hid ⟨by rw [← SIZ1.out]; exact K2.out, by rw [SIZ3.out]; have := L2.out; omega⟩
  have M3 : Hid (b0 + 1 ≤ g3 ∧ g3 < W3.heap.size) := hid ⟨by rw [← SIZ1.out]; exact K3.out, by rw [SIZ3.out]; have := L3.out; omega⟩
  have bw : Hid (Below w.heap.size w W5) := hid (by rw [← HB0.out]; exact B05.out)
  have QQ : Hid (∀ v ∈ [Value.slice p1 n1 c1, .slice p2 n2 c2, .slice p3 n3 c3], ∀ a n c, v = .slice (some a) n c → 0 < n → a.block < b0) := hid fun v hv a n c e hn => by
    rw [HB0.out]
    simp at hv
    rcases hv with rfl | rfl | rfl
    · cases e; exact HS1.out.lt (by omega) hn
    · cases e; exact HS2.out.lt (by omega) hn
    · cases e; exact HS3.out.lt (by omega) hn
  refine (still_any W5 4 x y (.slice p1 n1 c1) (.slice p2 n2 c2) (.slice p3 n3 c3) b0 n1 n2 n3 g1 g2 g3 z1 z2 z3 h1 h2 h3 (HS1.out.below bw.out) (HS2.out.below bw.out) (HS3.out.below bw.out)
    QQ.out (by have := M1.out.1; omega) (by have := M2.out.1; omega) (by have := M3.out.1; omega)
    ((R5.out g1 M1.out.2).trans G1.out) ((R5.out g2 M2.out.2).trans G2.out) ((R5.out g3 M3.out.2).trans G3.out)).mono ?_
  rintro e W8 ⟨rfl, but8⟩
  have BUT8 := hid but8
  clear but8
  go_wp2_with fail
  go_ret
  refine ⟨rfl, BUT8.out.os.trans B05.out.os, BUT8.out.tape.trans B05.out.tape, BUT8.out.output.trans B05.out.output, Nat.le_trans bw.out.size BUT8.out.size, fun k hk => ?_⟩
  rw [← HB0.out] at hk
  rw [BUT8.out.kept k (Nat.lt_of_lt_of_le (by rw [HB0.out] at hk; exact hk) bw.out.size) (by have := M1.out.1; omega) (by have := M2.out.1; omega) (by have := M3.out.1; omega)]
  exact B05.out.block k hk

set_option maxRecDepth 100000 in
set_option maxHeartbeats 1000000 in
theorem corners_kd (kd : Int) (w : World) :
    Calls Tryz.prog 30 #[.int .i64 kd] w fun e w' => Below w.heap.size w w' ∧ w.heap.size + 2 < w'.heap.size ∧
      e = .returned (.agg #[.int .i64 kd, .slice (some ⟨w.heap.size + 1, 0, none⟩) 3 3, .slice none 0 0, .slice (some ⟨w.heap.size + 2, 0, none⟩) 1 1, .int .i64 1, .int .i64 1]) ∧
      (∀ j, w'.cell? ⟨w.heap.size + 1, j, none⟩ = #[.int .i64 0, .int .i64 0, .int .i64 0, .int .i64 4, .int .i64 4, .int .i64 0][j]?) ∧ (∀ j, w'.cell? ⟨w.heap.size + 2, j, none⟩ = #[.int .i64 0, .int .i64 2, .int .i64 1][j]?) := by
  go_enter Tryz.func30, Tryz.ntmps30
  go_wp2
  refine bodyPost_ret (v := .agg #[.int .i64 kd, .slice (some ⟨w.heap.size + 1, 0, none⟩) 3 3, .slice none 0 0, .slice (some ⟨w.heap.size + 2, 0, none⟩) 1 1, .int .i64 1, .int .i64 1]) ?r rfl ?q
  case r => simp [results, Tryz.results30, go_sem]
  case q =>
    refine ⟨(((Below.refl _ _).alloc (Nat.le_refl _) _).alloc (by simp) _).alloc (by simp; omega) _, by simp, rfl, fun j => ?_, fun j => ?_⟩
    · rw [World.cell?_alloc_past _ _ _ (by simp), World.cell?_alloc_at _ _ _ _ (by simp)]
    · rw [World.cell?_alloc_at _ _ _ _ (by simp)]

set_option maxRecDepth 100000 in
set_option maxHeartbeats 4000000 in
theorem upTo4 (w : World) (p : Option Addr) (n c : Nat) (hops : Ops w p n) :
    Calls Tryz.prog 13 #[.slice p n c, .int .i64 4, .int .i64 4] w fun e w' => e = .returned (.bool true) ∧ Below w.heap.size w w' := by
  have hn := hops.1
  have HOP := hid hops.2
  clear hops
  go_enter Tryz.func13, Tryz.ntmps13
  go_wp2_with fail
  obtain ⟨B, hB⟩ : ∃ B, B = w.heap.size := ⟨_, rfl⟩
  obtain ⟨W, hW⟩ : ∃ W : World, W = w.alloc (.cells #[.slice none 0 0, .slice none 0 0] 59) := ⟨_, rfl⟩
  rw [← hW]
  have bk0 : Bk W B W.heap.size B (.slice none 0 0) [] := by
    have hh : W.heap[B]? = some (.cells #[.slice none 0 0, .slice none 0 0] 59 (0, 0)) := by rw [hW, hB]; exact heap_new _ _
    exact ⟨Nat.le_refl _, heap_lt hh, Nat.le_refl _, heap_cell hh 0, fun o => heap_free hh o, heap_cell hh 1, World.ownsRow_nil _ _ _ _, (fun g hg => by cases hg), fun i e he => by simp at he⟩
  have bel0 : Below B w W := by rw [hW, hB]; exact (Below.refl _ _).alloc (Nat.le_refl _) _
  have HB := hid hB
  rw [← hB]
  have BK0 := hid bk0
  have BEL0 := hid bel0
  clear hB hW bk0 bel0
  go_loopw [8] (fun i wr => ∃ m : Nat, m ≤ 1 ∧ i = .int .i64 (4 + (m : Int)) ∧ Hid (Bk wr B wr.heap.size B (.slice none 0 0) []) ∧ Hid (Below B w wr)) (fun i _ => 5 - (intOf i).toNat)
  case atStart => exact ⟨0, Nat.zero_le _, rfl, BK0, BEL0⟩
  case round =>
    obtain ⟨m, hm, rfl, hK, hW⟩ := hrel
    rcases (by omega : m = 0 ∨ m = 1) with rfl | rfl
    · rw [show (4 + ((0 : Nat) : Int)) = 4 from rfl]
      go_wp2_with fail
      refine (corners_kd 4 wr).mono ?_
      rintro e W2 ⟨bel2, siz2, rfl, ce1, ce2⟩
      have bk2 : Bk W2 B W2.heap.size B (.slice none 0 0) [] := hK.out.below bel2 bel2.size (Nat.le_refl _)
      go_wp2_with fail
      have hbk := hK.out.bS
      refine (plays4 W2 B 1 1 _ _ _ 3 0 1 [0, 0, 0, 4, 4, 0] [] [0, 2, 1] (by omega) (by omega) (by omega) (src_corners ce1) (src_nil _ _) (src_one ce2)).mono ?_
      rintro e W3 ⟨rfl, bel3⟩
      have BK3 := hid (bk2.below bel3 bel3.size (Nat.le_refl _))
      have BEL3 : Hid (Below B w W3) := hid (hW.out.trans ((bel2.mono (Nat.le_of_lt hbk)).trans (bel3.mono (Nat.le_trans (Nat.le_of_lt hbk) bel2.size))))
      clear bk2 bel3 ce1 ce2 bel2 siz2 hbk
      go_wp2_with fail
      exact ⟨⟨1, Nat.le_refl _, rfl, BK3, BEL3⟩, by simp [intOf]⟩
    · rw [show (4 + ((1 : Nat) : Int)) = 5 from rfl]
      go_wp2_with fail
      obtain ⟨W2, rfl⟩ : ∃ W2, W2 = wr := ⟨wr, rfl⟩
      go_loopw [10] (fun i wr => ∃ k : Nat, k ≤ n ∧ i = .int .i64 k ∧ Hid (Bk wr B wr.heap.size B (.slice none 0 0) []) ∧ Hid (Below B w wr)) (fun i _ => n - (intOf i).toNat)
      case atStart => exact ⟨0, Nat.zero_le _, rfl, hK, hW⟩
      case round =>
        clear hK hW
        obtain ⟨k, hk, rfl, hK, hW⟩ := hrel
        by_cases hlt : k < n
        · obtain ⟨b, o, kd, x, y, v1, v2, v3, n1, n2, n3, z1, z2, z3, rfl, hO⟩ := HOP.out k hlt
          have HO := hid hO
          have hbB : b < B := by rw [HB.out]; exact World.block_lt_of_cell? w _ hO.c0
          have d0 : wr.cell? ⟨b, o + k * 6, none⟩ = some (.int .i64 kd) := (hW.out.cell hbB).trans hO.c0
          have d1 : wr.cell? ⟨b, o + k * 6 + 1, none⟩ = some v1 := (hW.out.cell hbB).trans hO.c1
          have d2 : wr.cell? ⟨b, o + k * 6 + 2, none⟩ = some v2 := (hW.out.cell hbB).trans hO.c2
          have d3 : wr.cell? ⟨b, o + k * 6 + 3, none⟩ = some v3 := (hW.out.cell hbB).trans hO.c3
          have d4 : wr.cell? ⟨b, o + k * 6 + 4, none⟩ = some (.int .i64 x) := (hW.out.cell hbB).trans hO.c4
          have d5 : wr.cell? ⟨b, o + k * 6 + 5, none⟩ = some (.int .i64 y) := (hW.out.cell hbB).trans hO.c5
          obtain ⟨p1, c1, rfl⟩ : ∃ p c, v1 = .slice p n1 c := by obtain ⟨_, p, c, e, _⟩ := hO.s1; exact ⟨p, c, e⟩
          obtain ⟨p2, c2, rfl⟩ : ∃ p c, v2 = .slice p n2 c := by obtain ⟨_, p, c, e, _⟩ := hO.s2; exact ⟨p, c, e⟩
          obtain ⟨p3, c3, rfl⟩ : ∃ p c, v3 = .slice p n3 c := by obtain ⟨_, p, c, e, _⟩ := hO.s3; exact ⟨p, c, e⟩
          have i0 : (k : Int) < n := by omega
          have BEL1 : Hid (Below B w (wr.alloc (.cells #[.int .i64 kd, .slice p1 n1 c1, .slice p2 n2 c2, .slice p3 n3 c3, .int .i64 x, .int .i64 y] 62))) := hid (hW.out.alloc (by have := hK.out.bS; omega) _)
          have BK1 : Hid (Bk (wr.alloc (.cells #[.int .i64 kd, .slice p1 n1 c1, .slice p2 n2 c2, .slice p3 n3 c3, .int .i64 x, .int .i64 y] 62)) B (wr.alloc (.cells #[.int .i64 kd, .slice p1 n1 c1, .slice p2 n2 c2, .slice p3 n3 c3, .int .i64 x, .int .i64 y] 62)).heap.size B (.slice none 0 0) []) :=
            hid (hK.out.below ((Below.refl _ _).alloc (Nat.le_refl _) _) (by rw [size_new]; omega) (Nat.le_refl _))
          clear hO
          rcases (by omega : kd = 4 ∨ kd < 4 ∨ 4 < kd) with rfl | hkd | hkd
          · go_wp2_with fail
            obtain ⟨W3, hW3⟩ : ∃ W3 : World, W3 = wr.alloc (.cells #[.int .i64 4, .slice p1 n1 c1, .slice p2 n2 c2, .slice p3 n3 c3, .int .i64 x, .int .i64 y] 62) := ⟨_, rfl⟩
            rw [← hW3] at BEL1 BK1 ⊢
            clear hW3 d0 d1 d2 d3 d4 d5
            have BW : Hid (Below w.heap.size w W3) := by rw [HB.out] at BEL1; exact BEL1
            refine (plays4 W3 B x y (.slice p1 n1 c1) (.slice p2 n2 c2) (.slice p3 n3 c3) n1 n2 n3 z1 z2 z3 HO.out.h1 HO.out.h2 HO.out.h3 (HO.out.s1.below BW.out) (HO.out.s2.below BW.out) (HO.out.s3.below BW.out)).mono ?_
            rintro e W4 ⟨rfl, bel4⟩
            have BK4 := hid (BK1.out.below bel4 bel4.size (Nat.le_refl _))
            have BEL4 := hid (BEL1.out.trans (bel4.mono (Nat.le_of_lt BK1.out.bS)))
            clear bel4
            go_wp2_with fail
            refine (looks_any W4 B W4.heap.size B (.slice none 0 0) [] BK4.out (by simp)).mono ?_
            rintro e W5 ⟨rfl, bel5⟩
            have BK5 := hid (BK4.out.below bel5 bel5.size (Nat.le_refl _))
            have BEL5 := hid (BEL4.out.trans (bel5.mono (Nat.le_of_lt BK4.out.bS)))
            clear bel5
            go_wp2_with fail
            exact ⟨⟨k + 1, by omega, by go_num, BK5, BEL5⟩, by simp [intOf]; omega⟩
          · have j1 : ¬ (4 : Int) ≤ kd := by omega
            go_wp2_with fail
            exact ⟨⟨k + 1, by omega, by go_num, BK1, BEL1⟩, by simp [intOf]; omega⟩
          · have j1 : (4 : Int) ≤ kd := by omega
            have j2 : ¬ kd ≤ 4 := by omega
            go_wp2_with fail
            exact ⟨⟨k + 1, by omega, by go_num, BK1, BEL1⟩, by simp [intOf]; omega⟩
        · have hkn : k = n := by omega
          subst hkn
          go_wp2_with fail
          go_ret
          exact ⟨rfl, by rw [← HB.out]; exact hW.out⟩

set_option maxRecDepth 100000 in
theorem locates_any (w : World) (p : Option Addr) (n c : Nat) (hops : Ops w p n) :
    Calls Tryz.prog 7 #[.slice p n c] w fun e w' => e = .returned (.bool true) ∧ Below w.heap.size w w' := by
  have H := hid (upTo4 w p n c hops)
  clear hops
  go_enter Tryz.func7, Tryz.ntmps7
  go_wp2_with fail
  refine H.out.mono ?_
  rintro e w' ⟨rfl, hb⟩
  go_wp2_with fail
  go_ret
  exact ⟨rfl, hb⟩
end Go.Proofs.YtdbebbbceeopaaaGreat
