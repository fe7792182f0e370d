import Derived.Test.YtdbebbbceeopaaaGreatL27
import Derived.Test.YtdbebbbceeopaaaGreatL21
set_option linter.unusedSimpArgs false
namespace Go.Proofs.YtdbebbbceeopaaaGreat
open Go.RowKit

theorem Full3.kept {w w' : World} {v : Value} {m : Int} (h : Full3 w v m) (hs : w.heap.size ≤ w'.heap.size) (hk : ∀ g, v.ownBlock = some g → w'.heap[g]? = w.heap[g]?) : Full3 w' v m := by
  rcases h with h | ⟨g, n, c, rfl, h2, h3, h4⟩
  · exact Or.inl h
  · exact Or.inr ⟨g, n, c, rfl, h2, Nat.lt_of_lt_of_le h3 hs, fun j hj => (World.cell?_of_block (w := w) (a := ⟨g, j, none⟩) (hk g rfl)).trans (h4 j hj)⟩

/-- The book, behind what left its blocks alone. -/
theorem Bt.kept {w w' : World} {B S S' bk : Nat} {vi vt : Value} {es : List (List Value)} (h : Bt w B S bk vi es vt) (hS : S ≤ S') (hw : S' ≤ w'.heap.size) (hs : w.heap.size ≤ w'.heap.size) (hk : w'.heap[bk]? = w.heap[bk]?) (hv : ∀ g, vi.ownBlock = some g → w'.heap[g]? = w.heap[g]?)
    (he : ∀ e ∈ es, ∀ x ∈ e, ∀ g, x.ownBlock = some g → w'.heap[g]? = w.heap[g]?) : Bt w' B S' bk vi es vt := by
  refine ⟨h.bB, Nat.lt_of_lt_of_le h.bS hS, hw, ?_, ?_, ?_, owns_kept h.own hv, ?_, ?_⟩
  · exact (World.cell?_of_block (w := w) (a := ⟨bk, 1, none⟩) hk).trans h.c1
  · exact fun o => (World.frozen?_of_block (w := w) (a := ⟨bk, o, none⟩) hk).trans (h.f1 o)
  · exact (World.cell?_of_block (w := w) (a := ⟨bk, 0, none⟩) hk).trans h.c0
  · intro g hg
    have := h.vS g hg
    exact ⟨by omega, this.2⟩
  · intro i e hi
    obtain ⟨l, a, b, c, rfl, hx⟩ := h.ent i e hi
    refine ⟨l, a, b, c, rfl, fun x hx' => ?_⟩
    obtain ⟨h1, h2⟩ := hx x hx'
    refine ⟨h1.kept hs (he _ (List.mem_of_getElem? hi) x (by simp at hx' ⊢; rcases hx' with h | h | h | h <;> simp [h])), fun g hg => ?_⟩
    have := h2 g hg
    exact ⟨by omega, this.2⟩

theorem Bt.below {w w' : World} {B S S' bk : Nat} {vi vt : Value} {es : List (List Value)} (h : Bt w B S bk vi es vt) (hb : Below S w w') (hS : S ≤ S') (hw : S' ≤ w'.heap.size) : Bt w' B S' bk vi es vt :=
  h.kept hS hw hb.size (hb.block bk h.bS) (fun g hg => hb.block g (h.vS g hg).1) fun e he x hx g hg => by
    obtain ⟨i, hi⟩ := List.mem_iff_getElem?.1 he
    obtain ⟨l, a, b, c, rfl, hy⟩ := h.ent i e hi
    by_cases hxm : x = .int .i64 (-1000 - (i : Int))
    · subst hxm; cases hg
    · exact hb.block g ((hy x (by simp at hx ⊢; rcases hx with h | h | h | h | h <;> simp_all)).2 g hg).1

theorem entT_lt {w : World} {B S bk : Nat} {vi vt : Value} {es : List (List Value)} (h : Bt w B S bk vi es vt) {e : List Value} (he : e ∈ es) {x : Value} (hx : x ∈ e) {g : Nat} (hg : x.ownBlock = some g) : g < S ∧ g ≠ bk := by
  obtain ⟨i, hi⟩ := List.mem_iff_getElem?.1 he
  obtain ⟨l, a, b, c, rfl, hy⟩ := h.ent i e hi
  by_cases hxm : x = .int .i64 (-1000 - (i : Int))
  · subst hxm; cases hg
  · have := (hy x (by simp at hx ⊢; rcases hx with h | h | h | h | h <;> simp_all)).2 g hg
    exact ⟨this.1, this.2.1⟩

theorem own3_base {w : World} {base b' : Nat} {v : Value} {n : Nat} {xs : List Value} (h : w.ownsRow base 46 3 v n xs) (hb : b' ≤ base) : w.ownsRow b' 46 3 v n xs := by
  refine ⟨h.1, ?_⟩
  rcases h.2 with h0 | ⟨g, cap, cur, rfl, hg, r⟩
  · exact .inl h0
  · exact .inr ⟨g, cap, cur, rfl, Nat.le_trans hb hg, r⟩

set_option maxRecDepth 100000 in
set_option maxHeartbeats 4000000 in
theorem plays2 (w : World) (B bk : Nat) (vi : Value) (es : List (List Value)) (x y : Int) (v1 v2 v3 : Value) (n1 n2 n3 : Nat) (z1 z2 z3 : List Int) (h1 : n1 ≤ 2000000) (h2 : n2 ≤ 2000000) (h3 : n3 ≤ 2000000)
    {vt : Value} (hB : Bt w B w.heap.size bk vi es vt) (he : es.length ≤ 10000000) (s1 : Src w v1 2 n1 z1) (s2 : Src w v2 2 n2 z2) (s3 : Src w v3 3 n3 z3)
    (hq : ∀ v ∈ [v1, v2, v3], ∀ a n c, v = .slice (some a) n c → 0 < n → a.block < w.heap.size ∧ a.block ≠ bk ∧ vi.ownBlock ≠ some a.block) :
    Calls Tryz.prog 29 #[.pointer (some ⟨bk, 0, none⟩), opV 2 v1 v2 v3 x y] w fun e w' => e = .returned (.bool true) ∧ ∃ vi' e', Bt w' B w'.heap.size bk vi' (es ++ [e']) vt ∧ Kp w w' w.heap.size bk vi ∧ Ap w.heap.size vi vi' e' := by
  have HS1 := hid s1
  have HS2 := hid s2
  have HS3 := hid s3
  have HBK := hid hB
  have HQ := hid hq
  clear s1 s2 s3 hB hq
  obtain ⟨p1, c1, rfl⟩ : ∃ p c, v1 = .slice p n1 c := by obtain ⟨_, p, c, e, _⟩ := HS1.out; exact ⟨p, c, e⟩
  obtain ⟨p2, c2, rfl⟩ : ∃ p c, v2 = .slice p n2 c := by obtain ⟨_, p, c, e, _⟩ := HS2.out; exact ⟨p, c, e⟩
  obtain ⟨p3, c3, rfl⟩ : ∃ p c, v3 = .slice p n3 c := by obtain ⟨_, p, c, e, _⟩ := HS3.out; exact ⟨p, c, e⟩
  have OPV : opV 2 (.slice p1 n1 c1) (.slice p2 n2 c2) (.slice p3 n3 c3) x y = .agg #[.int .i64 2, .slice p1 n1 c1, .slice p2 n2 c2, .slice p3 n3 c3, .int .i64 x, .int .i64 y] := rfl
  rw [OPV]
  have HOPV := hid OPV
  clear OPV
  go_enter Tryz.func29, Tryz.ntmps29
  go_wp2_with fail
  obtain ⟨b0, hb0⟩ : ∃ b0, b0 = w.heap.size := ⟨_, rfl⟩
  obtain ⟨W1, hW1⟩ : ∃ W1 : World, W1 = w.alloc (.cells #[.int .i64 2, .slice p1 n1 c1, .slice p2 n2 c2, .slice p3 n3 c3, .int .i64 x, .int .i64 y] 62) := ⟨_, rfl⟩
  have bel1 : Below w.heap.size w W1 := by rw [hW1]; exact (Below.refl _ _).alloc (Nat.le_refl _) _
  have siz1 : W1.heap.size = b0 + 1 := by rw [hW1, hb0]; exact size_new _ _
  have box1 : W1.heap[b0]? = some (.cells #[.int .i64 2, .slice p1 n1 c1, .slice p2 n2 c2, .slice p3 n3 c3, .int .i64 x, .int .i64 y] 62 (0, 0)) := by rw [hW1, hb0]; exact heap_new _ _
  rw [← hW1]
  rw [← hb0]
  have BEL1 := hid bel1
  have SIZ1 := hid siz1
  have BOX1 := hid box1
  have HB0 := hid hb0
  clear hW1 bel1 siz1 box1 hb0
  refine (lend_any W1 2 x y _ _ _ n1 n2 n3 z1 z2 z3 h1 h2 h3 (HS1.out.below BEL1.out) (HS2.out.below BEL1.out) (HS3.out.below BEL1.out)).mono ?_
  rintro e W2 ⟨g1, g2, g3, rfl, e1, e2, e3, bel2, k1, k2, k3⟩
  obtain ⟨W3, hW3⟩ : ∃ W3 : World, W3 = W2.alloc (.cells #[.slice (some ⟨g1, 0, none⟩) (n1 + 3) (n1 + 3), .slice (some ⟨g2, 0, none⟩) (n2 + 3) (n2 + 3), .slice (some ⟨g3, 0, none⟩) (n3 + 3) (n3 + 3)] 80) := ⟨_, rfl⟩
  have HW3 := hid hW3
  have E1 := hid e1
  have E2 := hid e2
  have E3 := hid e3
  have BEL2 := hid bel2
  have K1 := hid k1
  have K2 := hid k2
  have K3 := hid k3
  have q0 : W2.cell? ⟨b0, 0, none⟩ = some (.int .i64 2) := (bel2.cell (by show b0 < _; rw [SIZ1.out]; omega)).trans (heap_cell BOX1.out 0)
  have q1 : W2.cell? ⟨b0, 1, none⟩ = some (.slice p1 n1 c1) := (bel2.cell (by show b0 < _; rw [SIZ1.out]; omega)).trans (heap_cell BOX1.out 1)
  have q0' := new_cell q0
  have q1' := new_cell q1
  have a1 : (n1 : Int) ≤ n1 + 3 := by omega
  clear hW3 e1 e2 e3 bel2 k1 k2 k3
  go_wp2_with fail
  rw [← HW3.out]
  obtain ⟨bX, hbX⟩ : ∃ bX, bX = W2.heap.size := ⟨_, rfl⟩
  rw [← hbX]
  have BX := hid hbX
  clear hbX q0 q1 q0' q1' a1
  have SIZ3 : Hid (W3.heap.size = bX + 1) := hid (by rw [HW3.out, BX.out]; exact size_new _ _)
  have OLD3 : Hid (∀ k, k < bX → W3.heap[k]? = W2.heap[k]?) := hid fun k hk => by rw [HW3.out]; exact Below.heap_alloc _ _ _ (by rw [← BX.out]; exact hk)
  have XB3 : Hid (W3.heap[bX]? = some (.cells #[.slice (some ⟨g1, 0, none⟩) (n1 + 3) (n1 + 3), .slice (some ⟨g2, 0, none⟩) (n2 + 3) (n2 + 3), .slice (some ⟨g3, 0, none⟩) (n3 + 3) (n3 + 3)] 80 (0, 0))) := hid (by rw [HW3.out, BX.out]; exact heap_new _ _)
  have L1 : Hid (g1 < bX) := hid (by rw [BX.out]; exact heap_lt E1.out)
  have L2 : Hid (g2 < bX) := hid (by rw [BX.out]; exact heap_lt E2.out)
  have L3 : Hid (g3 < bX) := hid (by rw [BX.out]; exact heap_lt E3.out)
  have G1 := hid ((OLD3.out g1 L1.out).trans E1.out)
  have G2 := hid ((OLD3.out g2 L2.out).trans E2.out)
  have G3 := hid ((OLD3.out g3 L3.out).trans E3.out)
  have LB : Hid (b0 < bX) := hid (by have := BEL2.out.size; rw [SIZ1.out, ← BX.out] at this; omega)
  have BO3 : Hid (W3.heap[b0]? = some (.cells #[.int .i64 2, .slice p1 n1 c1, .slice p2 n2 c2, .slice p3 n3 c3, .int .i64 x, .int .i64 y] 62 (0, 0))) := hid ((OLD3.out b0 LB.out).trans ((BEL2.out.block b0 (by rw [SIZ1.out]; omega)).trans BOX1.out))
  have BEL3 : Hid (Below b0 w W3) := by
    refine hid ((BEL1.out.trans (BEL2.out.mono BEL1.out.size)).mono (by rw [HB0.out]; exact Nat.le_refl _) |>.trans ?_)
    rw [HW3.out]
    exact (Below.refl _ _).alloc (by rw [← BX.out]; have := LB.out; omega) _
  clear HW3 OLD3 E1 E2 E3
  refine (triangles_step z1 n1 g1 (n1 + 3) (.slice p1 n1 c1) W3 h1 (by omega) (pts_lent G1.out HS1.out.1) ⟨p1, c1, rfl⟩).mono ?_
  rintro e W4 ⟨u, xe, m, xs, rfl, bel4, own4, hm4, hx4, good⟩
  obtain ⟨au, cu, hu⟩ := owns_len3 own4
  have BEL4 := hid bel4
  have OWN4 := hid own4
  have GOOD := hid good
  have HX4 := hid hx4
  have q1 : W4.cell? ⟨b0, 1, none⟩ = some (.slice p1 n1 c1) := (bel4.cell (by show b0 < _; rw [SIZ3.out]; have := LB.out; omega)).trans (heap_cell BO3.out 1)
  have q0 : W4.cell? ⟨b0, 0, none⟩ = some (.int .i64 2) := (bel4.cell (by show b0 < _; rw [SIZ3.out]; have := LB.out; omega)).trans (heap_cell BO3.out 0)
  have q2 : W4.cell? ⟨b0, 2, none⟩ = some (.slice p2 n2 c2) := (bel4.cell (by show b0 < _; rw [SIZ3.out]; have := LB.out; omega)).trans (heap_cell BO3.out 2)
  have q3 : W4.cell? ⟨b0, 3, none⟩ = some (.slice p3 n3 c3) := (bel4.cell (by show b0 < _; rw [SIZ3.out]; have := LB.out; omega)).trans (heap_cell BO3.out 3)
  have q4 : W4.cell? ⟨b0, 4, none⟩ = some (.int .i64 x) := (bel4.cell (by show b0 < _; rw [SIZ3.out]; have := LB.out; omega)).trans (heap_cell BO3.out 4)
  have q5 : W4.cell? ⟨b0, 5, none⟩ = some (.int .i64 y) := (bel4.cell (by show b0 < _; rw [SIZ3.out]; have := LB.out; omega)).trans (heap_cell BO3.out 5)
  subst hu
  clear bel4 own4 good hx4
  have BEL04 : Hid (Below b0 w W4) := hid (BEL3.out.trans (BEL4.out.mono (by rw [SIZ3.out]; have := LB.out; omega)))
  have SRC : Hid (∀ W, Below W4.heap.size W4 W → Src W (.slice p1 n1 c1) 2 n1 z1) := hid fun W hW => HS1.out.below (by rw [← HB0.out]; exact BEL04.out.trans (hW.mono (by rw [HB0.out]; exact BEL04.out.size)))
  have HCHK : Hid (∀ W', Below W4.heap.size W4 W' → Calls Tryz.prog 49 #[.slice p1 n1 c1] W' fun e w' => e = .returned (.int .i64 xe) ∧ Below W'.heap.size W' w') := hid fun W' hb => (GOOD.out W' (SRC.out W' hb) hb).chk
  have HFIL : Hid (∀ W', Below W4.heap.size W4 W' → Calls Tryz.prog 48 #[.agg #[.int .i64 2, .slice p1 n1 c1, .slice p2 n2 c2, .slice p3 n3 c3, .int .i64 x, .int .i64 y], .slice au m cu, .int .i64 xe, .int .i64 xe] W' fun e w' => e = .returned (.bool true) ∧ Below W'.heap.size W' w') := hid fun W' hb => by
    have h := lawfills_any 2 x y (.slice p1 n1 c1) (.slice p2 n2 c2) (.slice p3 n3 c3) au m cu xe W' HX4.out (fun e W'' hb' => (GOOD.out W'' (SRC.out W'' (hb.trans (hb'.mono hb.size))) (hb.trans (hb'.mono hb.size))).fil e)
    rw [HOPV.out] at h
    exact h
  have HROU : Hid (xe = 0 → ∀ W', Below W4.heap.size W4 W' → Calls Tryz.prog 50 #[.slice p1 n1 c1, .slice au m cu] W' fun e w' => e = .returned (.bool true) ∧ Below W'.heap.size W' w') := hid fun e W' hb => (GOOD.out W' (SRC.out W' hb) hb).rou e
  have lb : b0 < W4.heap.size := by have := BEL4.out.size; have := SIZ3.out; have := LB.out; omega
  have LBW := hid lb
  go_wp2_with fail
  go_region_held3 (fun w' => w'.cell? ⟨b0, 0, none⟩ = some (.int .i64 2) ∧ w'.cell? ⟨b0, 1, none⟩ = some (.slice p1 n1 c1) ∧ w'.cell? ⟨b0, 2, none⟩ = some (.slice p2 n2 c2) ∧ w'.cell? ⟨b0, 3, none⟩ = some (.slice p3 n3 c3) ∧ w'.cell? ⟨b0, 4, none⟩ = some (.int .i64 x) ∧ w'.cell? ⟨b0, 5, none⟩ = some (.int .i64 y)) (go_keep)
    (first
      | (go_at_call 49; refine (HCHK.out _ (Below.refl _ _).drew).mono ?_; rintro e W5 ⟨rfl, hb5⟩; have u0 := (hb5.cell (p := ⟨b0, 0, none⟩) lb).trans q0; have u1 := (hb5.cell (p := ⟨b0, 1, none⟩) lb).trans q1; have u2 := (hb5.cell (p := ⟨b0, 2, none⟩) lb).trans q2; have u3 := (hb5.cell (p := ⟨b0, 3, none⟩) lb).trans q3; have u4 := (hb5.cell (p := ⟨b0, 4, none⟩) lb).trans q4; have u5 := (hb5.cell (p := ⟨b0, 5, none⟩) lb).trans q5; have HB5 := hid ((Below.refl _ _).drew.trans hb5); clear hb5)
      | (go_at_call 48; refine (HFIL.out _ HB5.out).mono ?_; rintro e W6 ⟨rfl, hb6⟩; have HB6 := hid (HB5.out.trans (hb6.mono HB5.out.size)); clear hb6; have s0 := (HB6.out.cell (p := ⟨b0, 0, none⟩) lb).trans q0; have s1 := (HB6.out.cell (p := ⟨b0, 1, none⟩) lb).trans q1; have s2 := (HB6.out.cell (p := ⟨b0, 2, none⟩) lb).trans q2; have s3 := (HB6.out.cell (p := ⟨b0, 3, none⟩) lb).trans q3; have s4 := (HB6.out.cell (p := ⟨b0, 4, none⟩) lb).trans q4; have s5 := (HB6.out.cell (p := ⟨b0, 5, none⟩) lb).trans q5))
  have NX : xe = 0 ∨ xe ≠ 0 := Classical.em _
  clear u0 u1 u2 u3 u4 u5 s0 s2 s3 s4 s5 q0 q1 q2 q3 q4 q5
  rcases NX with h0 | h0
  case' inl =>
    subst h0
    go_wp2_with fail
    refine (HROU.out (by first | exact rfl | trivial) _ HB6.out).mono ?_
    rintro e WF ⟨rfl, hb7⟩
    have HBF := hid (HB6.out.trans (hb7.mono HB6.out.size))
    clear hb7
    go_wp2_with fail
  case' inr =>
    have d : (xe != 0) = true := by simpa using h0
    go_wp2_with fail
    obtain ⟨WF, rfl⟩ : ∃ WF, WF = W6 := ⟨W6, rfl⟩
    have HBF := HB6
  all_goals
    have B36 : Hid (Below W3.heap.size W3 WF) := hid (BEL4.out.trans (HBF.out.mono BEL4.out.size))
    have S56 : Hid (W3.heap.size ≤ WF.heap.size) := hid B36.out.size
    have B06 : Hid (Below b0 w WF) := hid (BEL3.out.trans (B36.out.mono (by rw [SIZ3.out]; have := LB.out; omega)))
    have BK6 : Hid (Bt WF B W3.heap.size bk vi es vt) := hid (HBK.out.below (by rw [← HB0.out]; exact B06.out) (by rw [← HB0.out, SIZ3.out]; have := LB.out; omega) S56.out)
    have OWN6 : Hid (WF.ownsRow W3.heap.size 46 3 (.slice au m cu) m xs) := hid (owns_kept OWN4.out fun g hg => HBF.out.block g (own_ge3 OWN4.out g hg).2)
    refine (keepThrees_any WF B W3.heap.size bk vi es (.slice au m cu) m xs BK6.out he (by omega) (own3_base OWN6.out ?hl) (fun g hg => (own_ge3 OWN6.out g hg).1)).mono ?_
    case hl =>
      have := HBK.out.bB
      have := HBK.out.bS
      rw [← HB0.out] at this
      rw [SIZ3.out]; have := LB.out; omega
    rintro e W7 ⟨rfl, vi', e', bk7, kp7, ap7⟩
    have BK7 := hid bk7
    have KP7 := hid kp7
    have AP7 := hid ap7
    clear bk7 kp7 ap7
    have NB : Hid (bk < b0) := hid (by rw [HB0.out]; exact HBK.out.bS)
    have NV : Hid (∀ g, vi.ownBlock = some g → g < b0) := hid fun g hg => by rw [HB0.out]; exact (HBK.out.vS g hg).1
    have R7 : Hid (∀ g, b0 ≤ g → g < W3.heap.size → W7.heap[g]? = W3.heap[g]?) := hid fun g h1 h2 =>
      (KP7.out.block g h2 (by have := NB.out; omega) (fun e => by have := NV.out g e; omega)).trans (B36.out.block g h2)
    have S7 : Hid (∀ g, g < b0 → g ≠ bk → vi.ownBlock ≠ some g → W7.heap[g]? = w.heap[g]?) := hid fun g h1 h2 h3 =>
      (KP7.out.block g (by rw [SIZ3.out]; have := LB.out; omega) h2 h3).trans (B06.out.block g h1)
    have XB7 := hid ((R7.out bX (by have := LB.out; omega) (by rw [SIZ3.out]; omega)).trans XB3.out)
    have BO7 := hid ((R7.out b0 (Nat.le_refl _) (by rw [SIZ3.out]; have := LB.out; omega)).trans BO3.out)
    have t0 : W7.cell? ⟨bX, 0, none⟩ = some (.slice (some ⟨g1, 0, none⟩) (n1 + 3) (n1 + 3)) := heap_cell XB7.out 0
    have t1 : W7.cell? ⟨bX, 1, none⟩ = some (.slice (some ⟨g2, 0, none⟩) (n2 + 3) (n2 + 3)) := heap_cell XB7.out 1
    have t2 : W7.cell? ⟨bX, 2, none⟩ = some (.slice (some ⟨g3, 0, none⟩) (n3 + 3) (n3 + 3)) := heap_cell XB7.out 2
    have r0 : W7.cell? ⟨b0, 0, none⟩ = some (.int .i64 2) := heap_cell BO7.out 0
    have r1 : W7.cell? ⟨b0, 1, none⟩ = some (.slice p1 n1 c1) := heap_cell BO7.out 1
    have r2 : W7.cell? ⟨b0, 2, none⟩ = some (.slice p2 n2 c2) := heap_cell BO7.out 2
    have r3 : W7.cell? ⟨b0, 3, none⟩ = some (.slice p3 n3 c3) := heap_cell BO7.out 3
    have r4 : W7.cell? ⟨b0, 4, none⟩ = some (.int .i64 x) := heap_cell BO7.out 4
    have r5 : W7.cell? ⟨b0, 5, none⟩ = some (.int .i64 y) := heap_cell BO7.out 5
    go_wp2_with fail
    have M1 : Hid (b0 + 1 ≤ g1 ∧ g1 < W3.heap.size) := hid ⟨by rw [← SIZ1.out]; exact K1.out, by rw [SIZ3.out]; have := L1.out; omega⟩
    have M2 : Hid (b0 + 1 ≤ g2 ∧ g2 < W3.heap.size) := hid ⟨by rw [← SIZ1.out]; exact K2.out, by rw [SIZ3.out]; have := L2.out; omega⟩
    have M3 : Hid (b0 + 1 ≤ g3 ∧ g3 < W3.heap.size) := hid ⟨by rw [← SIZ1.out]; exact K3.out, by rw [SIZ3.out]; have := L3.out; omega⟩
    have Q7 : Hid (∀ v ∈ [Value.slice p1 n1 c1, .slice p2 n2 c2, .slice p3 n3 c3], ∀ a n c, v = .slice (some a) n c → 0 < n → W7.heap[a.block]? = w.heap[a.block]?) := hid fun v hv a n c e hn => by
      have := HQ.out v hv a n c e hn
      exact S7.out _ (by rw [HB0.out]; exact this.1) this.2.1 this.2.2
    refine (still_any W7 2 x y (.slice p1 n1 c1) (.slice p2 n2 c2) (.slice p3 n3 c3) b0 n1 n2 n3 g1 g2 g3 z1 z2 z3 h1 h2 h3 (HS1.out.kept fun a c e hn => Q7.out _ (by simp) a _ c e hn) (HS2.out.kept fun a c e hn => Q7.out _ (by simp) a _ c e hn) (HS3.out.kept fun a c e hn => Q7.out _ (by simp) a _ c e hn)
      (fun v hv a n c e hn => by rw [HB0.out]; exact (HQ.out v hv a n c e hn).1) (by have := M1.out.1; omega) (by have := M2.out.1; omega) (by have := M3.out.1; omega)
      ((R7.out g1 (by have := M1.out.1; omega) M1.out.2).trans G1.out) ((R7.out g2 (by have := M2.out.1; omega) M2.out.2).trans G2.out) ((R7.out g3 (by have := M3.out.1; omega) M3.out.2).trans G3.out)).mono ?_
    rintro e W8 ⟨rfl, but8⟩
    have BUT8 := hid but8
    clear but8
    go_wp2_with fail
    go_ret
    have far : ∀ g, g = g1 ∨ g = g2 ∨ g = g3 → b0 + 1 ≤ g ∧ g < W3.heap.size := by
      rintro g (rfl | rfl | rfl)
      · exact M1.out
      · exact M2.out
      · exact M3.out
    have same : ∀ k, k < W7.heap.size → (k < b0 ∨ W3.heap.size ≤ k) → W8.heap[k]? = W7.heap[k]? := by
      intro k hk hor
      refine BUT8.out.kept k hk ?_ ?_ ?_
      · rintro rfl; have := far _ (.inl rfl); omega
      · rintro rfl; have := far _ (.inr (.inl rfl)); omega
      · rintro rfl; have := far _ (.inr (.inr rfl)); omega
    refine ⟨rfl, vi', e', ?_, ?_, ⟨fun x hx g hg => ?_, fun g hg => ?_⟩⟩
    · refine BK7.out.kept BUT8.out.size (Nat.le_refl _) BUT8.out.size ?_ ?_ ?_
      · exact same bk BK7.out.bS (.inl NB.out)
      · intro g hg
        refine same g (BK7.out.vS g hg).1 ?_
        rcases AP7.out.list g hg with h | h
        · exact .inl (NV.out g h)
        · exact .inr h
      · intro e he x hx g hg
        have hl := (entT_lt BK7.out he hx hg).1
        refine same g hl ?_
        rcases List.mem_append.1 he with h | h
        · exact .inl (by have := (entT_lt HBK.out h hx hg).1; rw [HB0.out]; exact this)
        · simp at h
          subst h
          exact .inr (AP7.out.ent x hx g hg)
    · refine ⟨BUT8.out.os.trans (KP7.out.os.trans B06.out.os), BUT8.out.tape.trans (KP7.out.tape.trans B06.out.tape), BUT8.out.output.trans (KP7.out.output.trans B06.out.output), Nat.le_trans B06.out.size (Nat.le_trans KP7.out.size BUT8.out.size), fun k hk h1 h2 => ?_⟩
      rw [← HB0.out] at hk
      rw [same k (Nat.lt_of_lt_of_le (by rw [← HB0.out]; exact hk) (Nat.le_trans B06.out.size KP7.out.size)) (.inl hk)]
      exact S7.out k hk h1 h2
    · have := AP7.out.ent x hx g hg
      have := LB.out
      rw [SIZ3.out] at *
      rw [← HB0.out]; omega
    · rcases AP7.out.list g hg with h | h
      · exact .inl h
      · refine .inr ?_
        have := LB.out
        rw [SIZ3.out] at h
        rw [← HB0.out]; omega
end Go.Proofs.YtdbebbbceeopaaaGreat

set_option linter.unusedSimpArgs false
namespace Go.Proofs.YtdbebbbceeopaaaGreat
open Go.RowKit

theorem kpt_below {w w' : World} {S B bk : Nat} {vi vt : Value} {es : List (List Value)} (hB : Bt w B S bk vi es vt) (h : Kp w w' S bk vi) : Below B w w' := by
  have h1 := hB.bB
  have h2 := hB.bS
  refine ⟨h.os, h.tape, h.output, h.size, fun k hk => h.block k (by omega) (by omega) (fun e => ?_)⟩
  rcases hB.own.2 with ⟨h0, _⟩ | ⟨g, cap, cur, h0, hb, _⟩
  · rw [h0] at e; cases e
  · rw [h0] at e; simp [Value.ownBlock] at e; omega

theorem bt_ge {w : World} {S B bk : Nat} {vi vt : Value} {es : List (List Value)} (hB : Bt w B S bk vi es vt) {k : Nat} (hk : k < B) : k ≠ bk ∧ vi.ownBlock ≠ some k := by
  have h1 := hB.bB
  refine ⟨by omega, fun e => ?_⟩
  rcases hB.own.2 with ⟨h0, _⟩ | ⟨g, cap, cur, h0, hb, _⟩
  · rw [h0] at e; cases e
  · rw [h0] at e; simp [Value.ownBlock] at e; omega

set_option maxRecDepth 100000 in
set_option maxHeartbeats 4000000 in
theorem upTo2 (w : World) (p : Option Addr) (n c : Nat) (hops : Ops w p n) :
    Calls Tryz.prog 13 #[.slice p n c, .int .i64 2, .int .i64 2] w fun e w' => e = .returned (.bool true) ∧ Below w.heap.size w w' := by
  have hn := hops.1
  have HOP := hid hops.2
  clear hops
  go_enter Tryz.func13, Tryz.ntmps13
  go_wp2_with fail
  obtain ⟨B, hB⟩ : ∃ B, B = w.heap.size := ⟨_, rfl⟩
  obtain ⟨W, hW⟩ : ∃ W : World, W = w.alloc (.cells #[.slice none 0 0, .slice none 0 0] 59) := ⟨_, rfl⟩
  rw [← hW]
  have bk0 : Bt W B W.heap.size B (.slice none 0 0) [] := by
    have hh : W.heap[B]? = some (.cells #[.slice none 0 0, .slice none 0 0] 59 (0, 0)) := by rw [hW, hB]; exact heap_new _ _
    exact ⟨Nat.le_refl _, heap_lt hh, Nat.le_refl _, heap_cell hh 1, fun o => heap_free hh o, heap_cell hh 0, World.ownsRow_nil _ _ _ _, (fun g hg => by cases hg), fun i e he => by simp at he⟩
  have bel0 : Below B w W := by rw [hW, hB]; exact (Below.refl _ _).alloc (Nat.le_refl _) _
  have HB := hid hB
  rw [← hB]
  have BK0 := hid bk0
  have BEL0 := hid bel0
  clear hB hW bk0 bel0
  go_loopw [8] (fun i wr => ∃ (m : Nat) (vi : Value) (es : List (List Value)), m ≤ 1 ∧ i = .int .i64 (2 + (m : Int)) ∧ es.length = m ∧ Hid (Bt wr B wr.heap.size B vi es) ∧ Hid (Below B w wr)) (fun i _ => 3 - (intOf i).toNat)
  case atStart => exact ⟨0, _, [], Nat.zero_le _, rfl, rfl, BK0, BEL0⟩
  case round =>
    obtain ⟨m, vi, es, hm, rfl, hes, hK, hW⟩ := hrel
    rcases (by omega : m = 0 ∨ m = 1) with rfl | rfl
    · rw [show (2 + ((0 : Nat) : Int)) = 2 from rfl]
      go_wp2_with fail
      refine (corners_kd 2 wr).mono ?_
      rintro e W2 ⟨bel2, siz2, rfl, ce1, ce2⟩
      have bk2 : Bt W2 B W2.heap.size B vi es := hK.out.below bel2 bel2.size (Nat.le_refl _)
      go_wp2_with fail
      have hbk := hK.out.bS
      refine (plays2 W2 B B vi es 1 1 _ _ _ 3 0 1 [0, 0, 0, 4, 4, 0] [] [0, 2, 1] (by omega) (by omega) (by omega) bk2 (by omega) (src_corners ce1) (src_nil _ _) (src_one ce2) ?hq).mono ?_
      case hq =>
        intro v hv a n c e hn
        simp at hv
        rcases hv with rfl | rfl | rfl
        · cases e
          exact ⟨by show wr.heap.size + 1 < _; omega, by show wr.heap.size + 1 ≠ _; omega, fun e => by have := (hK.out.vS _ e).1; simp at this; omega⟩
        · cases e
        · cases e
          exact ⟨by show wr.heap.size + 2 < _; omega, by show wr.heap.size + 2 ≠ _; omega, fun e => by have := (hK.out.vS _ e).1; simp at this; omega⟩
      rintro e W3 ⟨rfl, vi', e', bk3, kp3, _⟩
      have hB3 : Below B w W3 := hW.out.trans ((bel2.mono (Nat.le_of_lt hbk)).trans (kpt_below bk2 kp3))
      have BK3 := hid bk3
      have BEL3 := hid hB3
      clear bk2 bk3 kp3 hB3 ce1 ce2 bel2 siz2 hbk
      go_wp2_with fail
      exact ⟨⟨1, vi', es ++ [e'], Nat.le_refl _, rfl, by simp [hes], BK3, BEL3⟩, by simp [intOf]⟩
    · rw [show (2 + ((1 : Nat) : Int)) = 3 from rfl]
      go_wp2_with fail
      obtain ⟨W2, rfl⟩ : ∃ W2, W2 = wr := ⟨wr, rfl⟩
      go_loopw [10] (fun i wr => ∃ (k : Nat) (vi : Value) (es : List (List Value)), k ≤ n ∧ i = .int .i64 k ∧ es.length ≤ k + 1 ∧ Hid (Bt wr B wr.heap.size B vi es) ∧ Hid (Below B w wr)) (fun i _ => n - (intOf i).toNat)
      case atStart => exact ⟨0, vi, es, Nat.zero_le _, rfl, by omega, hK, hW⟩
      case round =>
        clear hK hW hes
        obtain ⟨k, vi, es, hk, rfl, hes, hK, hW⟩ := hrel
        by_cases hlt : k < n
        · obtain ⟨b, o, kd, x, y, v1, v2, v3, n1, n2, n3, z1, z2, z3, rfl, hO⟩ := HOP.out k hlt
          have HO := hid hO
          have hbB : b < B := by rw [HB.out]; exact World.block_lt_of_cell? w _ hO.c0
          have d0 : wr.cell? ⟨b, o + k * 6, none⟩ = some (.int .i64 kd) := (hW.out.cell hbB).trans hO.c0
          have d1 : wr.cell? ⟨b, o + k * 6 + 1, none⟩ = some v1 := (hW.out.cell hbB).trans hO.c1
          have d2 : wr.cell? ⟨b, o + k * 6 + 2, none⟩ = some v2 := (hW.out.cell hbB).trans hO.c2
          have d3 : wr.cell? ⟨b, o + k * 6 + 3, none⟩ = some v3 := (hW.out.cell hbB).trans hO.c3
          have d4 : wr.cell? ⟨b, o + k * 6 + 4, none⟩ = some (.int .i64 x) := (hW.out.cell hbB).trans hO.c4
          have d5 : wr.cell? ⟨b, o + k * 6 + 5, none⟩ = some (.int .i64 y) := (hW.out.cell hbB).trans hO.c5
          obtain ⟨p1, c1, rfl⟩ : ∃ p c, v1 = .slice p n1 c := by obtain ⟨_, p, c, e, _⟩ := hO.s1; exact ⟨p, c, e⟩
          obtain ⟨p2, c2, rfl⟩ : ∃ p c, v2 = .slice p n2 c := by obtain ⟨_, p, c, e, _⟩ := hO.s2; exact ⟨p, c, e⟩
          obtain ⟨p3, c3, rfl⟩ : ∃ p c, v3 = .slice p n3 c := by obtain ⟨_, p, c, e, _⟩ := hO.s3; exact ⟨p, c, e⟩
          have i0 : (k : Int) < n := by omega
          have BEL1 : Hid (Below B w (wr.alloc (.cells #[.int .i64 kd, .slice p1 n1 c1, .slice p2 n2 c2, .slice p3 n3 c3, .int .i64 x, .int .i64 y] 62))) := hid (hW.out.alloc (by have := hK.out.bS; omega) _)
          have BK1 : Hid (Bt (wr.alloc (.cells #[.int .i64 kd, .slice p1 n1 c1, .slice p2 n2 c2, .slice p3 n3 c3, .int .i64 x, .int .i64 y] 62)) B (wr.alloc (.cells #[.int .i64 kd, .slice p1 n1 c1, .slice p2 n2 c2, .slice p3 n3 c3, .int .i64 x, .int .i64 y] 62)).heap.size B vi es) :=
            hid (hK.out.below ((Below.refl _ _).alloc (Nat.le_refl _) _) (by rw [size_new]; omega) (Nat.le_refl _))
          clear hO
          rcases (by omega : kd = 2 ∨ kd < 2 ∨ 2 < kd) with rfl | hkd | hkd
          · go_wp2_with fail
            obtain ⟨W3, hW3⟩ : ∃ W3 : World, W3 = wr.alloc (.cells #[.int .i64 2, .slice p1 n1 c1, .slice p2 n2 c2, .slice p3 n3 c3, .int .i64 x, .int .i64 y] 62) := ⟨_, rfl⟩
            rw [← hW3] at BEL1 BK1 ⊢
            clear hW3 d0 d1 d2 d3 d4 d5
            have BW : Hid (Below w.heap.size w W3) := by rw [HB.out] at BEL1; exact BEL1
            refine (plays2 W3 B B vi es x y (.slice p1 n1 c1) (.slice p2 n2 c2) (.slice p3 n3 c3) n1 n2 n3 z1 z2 z3 HO.out.h1 HO.out.h2 HO.out.h3 BK1.out (by omega) (HO.out.s1.below BW.out) (HO.out.s2.below BW.out) (HO.out.s3.below BW.out) ?hq).mono ?_
            case hq =>
              intro v hv a n c e hn
              have hlt : a.block < w.heap.size := by
                simp at hv
                rcases hv with rfl | rfl | rfl
                · rw [e] at HO; exact HO.out.s1.lt (by omega) hn
                · rw [e] at HO; exact HO.out.s2.lt (by omega) hn
                · rw [e] at HO; exact HO.out.s3.lt (by omega) hn
              have := bt_ge BK1.out (k := a.block) (by rw [HB.out]; exact hlt)
              exact ⟨Nat.lt_of_lt_of_le hlt BW.out.size, this⟩
            rintro e W4 ⟨rfl, vi', e', bk4, kp4, _⟩
            have BK4 := hid bk4
            have BEL4 := hid (BEL1.out.trans (kpt_below BK1.out kp4))
            clear bk4 kp4
            go_wp2_with fail
            refine (looksT_any W4 B W4.heap.size B vi' (es ++ [e']) BK4.out (by simp; omega)).mono ?_
            rintro e W5 ⟨rfl, bel5⟩
            have BK5 := hid (BK4.out.below bel5 bel5.size (Nat.le_refl _))
            have BEL5 := hid (BEL4.out.trans (bel5.mono (Nat.le_of_lt BK4.out.bS)))
            clear bel5
            go_wp2_with fail
            exact ⟨⟨k + 1, vi', es ++ [e'], by omega, by go_num, by simp; omega, BK5, BEL5⟩, by simp [intOf]; omega⟩
          · have j1 : ¬ (2 : Int) ≤ kd := by omega
            go_wp2_with fail
            exact ⟨⟨k + 1, vi, es, by omega, by go_num, by omega, BK1, BEL1⟩, by simp [intOf]; omega⟩
          · have j1 : (2 : Int) ≤ kd := by omega
            have j2 : ¬ kd ≤ 2 := by omega
            go_wp2_with fail
            exact ⟨⟨k + 1, vi, es, by omega, by go_num, by omega, BK1, BEL1⟩, by simp [intOf]; omega⟩
        · have hkn : k = n := by omega
          subst hkn
          go_wp2_with fail
          go_ret
          exact ⟨rfl, by rw [← HB.out]; exact hW.out⟩

set_option maxRecDepth 100000 in
theorem meshes_any (w : World) (p : Option Addr) (n c : Nat) (hops : Ops w p n) :
    Calls Tryz.prog 4 #[.slice p n c] w fun e w' => e = .returned (.bool true) ∧ Below w.heap.size w w' := by
  have H := hid (upTo2 w p n c hops)
  clear hops
  go_enter Tryz.func4, Tryz.ntmps4
  go_wp2_with fail
  refine H.out.mono ?_
  rintro e w' ⟨rfl, hb⟩
  go_wp2_with fail
  go_ret
  exact ⟨rfl, hb⟩
end Go.Proofs.YtdbebbbceeopaaaGreat

set_option linter.unusedSimpArgs false
namespace Go.Proofs.YtdbebbbceeopaaaGreat
open Go.RowKit Go.Maps
open Geo (up bad Wg Mesh Cor Quad flipM Inj)

/-- A row of lines: two cells each. -/
def Lns (w : World) (a : Option Addr) (xs : List (Nat × Nat)) : Prop := xs = [] ∨ ∃ g o, a = some ⟨g, o, none⟩ ∧ g < w.heap.size ∧ ∀ i, (hi : i < xs.length) → w.cell? ⟨g, o + i * 2, none⟩ = some (.int .i64 (xs[i].1 : Nat)) ∧ w.cell? ⟨g, o + i * 2 + 1, none⟩ = some (.int .i64 (xs[i].2 : Nat))

theorem Lns.below {w w' : World} {a : Option Addr} {xs : List (Nat × Nat)} (h : Lns w a xs) (hb : Below w.heap.size w w') : Lns w' a xs := by
  rcases h with h | ⟨g, o, e, hg, hc⟩
  · exact .inl h
  · exact .inr ⟨g, o, e, Nat.lt_of_lt_of_le hg hb.size, fun i hi => ⟨(hb.cell (by exact hg)).trans (hc i hi).1, (hb.cell (by exact hg)).trans (hc i hi).2⟩⟩

set_option maxRecDepth 100000 in
set_option maxHeartbeats 8000000 in
theorem drawAll_any (mb bm pb po n cap lcap : Nat) (px py : Nat → Int) (M0 : Nat → Nat → Option Nat) (la : Option Addr) (xs : List (Nat × Nat)) (w : World) (hn : n ≤ 40) (hM : MeshAt w mb bm 1600 pb po n cap px py M0 (.slice none 0 0) []) (hm0 : Mesh px py n M0) (hc0 : Cor n M0) (hinj : Inj px py n) (hmp : mb ≠ pb)
    (hl : Lns w la xs) (hlen : xs.length ≤ 100) (hok : Lok px py n xs) :
    Calls Tryz.prog 42 #[.pointer (some ⟨mb, 0, none⟩), .slice la xs.length lcap] w fun e w' => e = .returned (.tuple #[]) ∧
      ∃ M lv ls, MeshAt w' mb bm 1600 pb po n cap px py M lv ls ∧ Dm w w' mb bm (.slice none 0 0) lv ∧ Mesh px py n M ∧ Cor n M ∧ Geo.Reach px py n M0 M ∧ ls.length ≤ 100 ∧ (∀ x ∈ ls, Joined M x.1 x.2) ∧ (∀ x ∈ xs, up x.1 x.2 ∈ ls) ∧ ∀ y ∈ ls, ∃ x ∈ xs, y = up x.1 x.2 := by
  obtain ⟨hb, hhb⟩ : ∃ hb, hb = w.heap.size + 1 := ⟨_, rfl⟩
  have HHB := hid hhb
  obtain ⟨W1, hW1⟩ : ∃ W1, W1 = (w.alloc (.cells #[] 110)).alloc (.cells #[.slice (some ⟨w.heap.size, 0, none⟩) 0 0] 107) := ⟨_, rfl⟩
  have B1 : Hid (Below w.heap.size w W1) := hid (by rw [hW1]; exact ((Below.refl _ _).alloc (Nat.le_refl _) _).alloc (by simp) _)
  have S1 : Hid (W1.heap.size = w.heap.size + 2) := hid (by rw [hW1]; simp)
  have G0 : Hid (W1.heap[w.heap.size]? = some (.cells #[] 110 (0, 0))) := hid (by
    rw [hW1]
    rw [Below.heap_alloc _ _ _ (by simp)]
    exact heap_new w (.cells #[] 110))
  have K1 : Hid (W1.heap[hb]? = some (.cells #[.slice (some ⟨w.heap.size, 0, none⟩) 0 0] 107 (0, 0))) := hid (by
    rw [hW1, HHB.out]
    have := heap_new (w.alloc (.cells #[] 110)) (.cells #[.slice (some ⟨w.heap.size, 0, none⟩) 0 0] 107)
    rw [size_new] at this
    exact this)
  have HP1 : Hid (Hp W1 hb []) := hid (Hp.of (heap_cell K1.out 0) ⟨rfl, .inr ⟨w.heap.size, 0, #[], rfl, by have := HHB.out; omega, G0.out, Nat.le_refl _, by unfold maxLen; omega, rfl, rfl⟩⟩ (heap_free K1.out 0) (by intro e; have h : w.heap.size = hb := Option.some.inj e; have := HHB.out; omega))
  have HM := hid hM
  have HL := hid hl
  have HOK := hid hok
  have m1 : mb < w.heap.size := World.block_lt_of_cell? w _ hM.c0
  have m2 : bm < w.heap.size := hM.map.lt
  have m3 : pb < w.heap.size := hM.plc.lt
  obtain ⟨k, hk⟩ : ∃ k, k = xs.length := ⟨_, rfl⟩
  have HK := hid hk
  rw [← hk] at hlen ⊢
  clear hM hl hok hk K1 G0
  go_enter Tryz.func42, Tryz.ntmps42
  go_wp2_with fail
  rw [← hW1, ← hhb]
  clear hW1 hhb
  go_loopw [11] (fun ix wr => ∃ (i : Nat) (l : List (Nat × Nat)), i ≤ k ∧ ix = .int .i64 i ∧ l.length = i ∧ Hid (Hp wr hb l) ∧ Hid (∀ y ∈ l, ∃ x ∈ xs, y = up x.1 x.2) ∧ Hid (∀ r, (hr : r < xs.length) → r < i → up xs[r].1 xs[r].2 ∈ l) ∧ Hid (Below w.heap.size w wr)) (fun ix _ => k - (intOf ix).toNat)
  case atStart => exact ⟨0, [], Nat.zero_le _, rfl, rfl, HP1, hid (fun y hy => by cases hy), hid (fun r _ hr => by omega), B1⟩
  case round =>
    obtain ⟨i, l, hi, rfl, hll, HP, HY, HX, HB⟩ := hrel
    clear HP1 B1
    by_cases hik : i < k
    · have hik' : (i : Int) < k := by omega
      have hix : i < xs.length := by rw [← HK.out]; exact hik
      obtain ⟨lg, lo, hla, hlg, hlc⟩ : ∃ lg lo, la = some ⟨lg, lo, none⟩ ∧ lg < w.heap.size ∧ (w.cell? ⟨lg, lo + i * 2, none⟩ = some (.int .i64 (xs[i].1 : Nat)) ∧ w.cell? ⟨lg, lo + i * 2 + 1, none⟩ = some (.int .i64 (xs[i].2 : Nat))) := by
        rcases HL.out with h | ⟨g, o, e, h1, h2⟩
        · rw [h] at hix; simp at hix
        · exact ⟨g, o, e, h1, h2 i hix⟩
      subst hla
      have xc := (HB.out.cell (p := ⟨lg, lo + i * 2, none⟩) hlg).trans hlc.1
      have yc := (HB.out.cell (p := ⟨lg, lo + i * 2 + 1, none⟩) hlg).trans hlc.2
      have HUP : Hid (∃ x ∈ xs, up xs[i].1 xs[i].2 = up x.1 x.2) := hid ⟨xs[i], List.getElem_mem hix, rfl⟩
      have HXI : Hid (∀ z, z = up xs[i].1 xs[i].2 → ∀ r, (hr : r < xs.length) → r < i + 1 → up xs[r].1 xs[r].2 ∈ z :: l) := hid (fun z hz r hr hri => by
        rcases Nat.lt_or_ge r i with q | q
        · exact List.mem_cons_of_mem _ (HX.out r hr q)
        · have : r = i := by omega
          subst this; rw [hz]; exact List.mem_cons_self)
      obtain ⟨u, hu⟩ : ∃ u, u = xs[i].1 := ⟨_, rfl⟩
      obtain ⟨v, hv⟩ : ∃ v, v = xs[i].2 := ⟨_, rfl⟩
      rw [← hu] at xc HUP HXI
      rw [← hv] at yc HUP HXI
      have HXJ := hid (HXI.out _ rfl)
      clear hu hv hlc HXI
      obtain ⟨W2, hW2⟩ : ∃ W2, W2 = wr.alloc (.cells #[.int .i64 (u : Nat), .int .i64 (v : Nat)] 54) := ⟨_, rfl⟩
      have B2 : Hid (Below wr.heap.size wr W2) := hid (by rw [hW2]; exact (Below.refl _ _).alloc (Nat.le_refl _) _)
      have HP2 := hid (HP.out.below B2.out (Nat.le_refl _))
      have WA := hid (wait_any hb u v l W2 HP2.out (by omega))
      have HB2 : Hid (Below w.heap.size w W2) := hid (HB.out.trans (B2.out.mono HB.out.size))
      have q1 : (0 : Int) ≤ (i : Int) := by omega
      go_wp2_with fail
      rw [← hW2]
      refine WA.out.mono ?_
      rintro e w3 ⟨rfl, ⟨l', hp3, hpm⟩, hf3⟩
      have HP3 := hid hp3
      have HB3 : Hid (Below w.heap.size w w3) := hid (HB2.out.trans (hf3.belowB HP2.out (by have := HHB.out; omega) HB2.out.size))
      have HY3 : Hid (∀ y ∈ l', ∃ x ∈ xs, y = up x.1 x.2) := hid (fun y hy => by
        rcases List.mem_cons.1 (hpm.mem_iff.1 hy) with rfl | hy
        · exact HUP.out
        · exact HY.out y hy)
      have HX3 : Hid (∀ r, (hr : r < xs.length) → r < i + 1 → up xs[r].1 xs[r].2 ∈ l') := hid (fun r hr hri => hpm.mem_iff.2 (HXJ.out r hr hri))
      have hl3 : l'.length = i + 1 := by rw [hpm.length_eq, List.length_cons, hll]
      clear hp3 hf3 hpm hW2 WA xc yc
      go_wp2_with fail
      go_roundw
      case rel => exact ⟨i + 1, l', by omega, by go_num, hl3, HP3, HY3, HX3, HB3⟩
      case measure => simp [intOf]; omega
    · have hii : k = i := by omega
      subst hii
      have HXX : Hid (∀ x ∈ xs, up x.1 x.2 ∈ l) := hid (fun x hx => by
        obtain ⟨r, hr, rfl⟩ := List.getElem_of_mem hx
        exact HX.out r hr (by rw [HK.out]; exact hr))
      have D0 : Hid (Dw w wr hb mb bm pb po n cap px py M0 M0 (.slice none 0 0) [] l) := hid ⟨HP.out, (HM.out.belowB HB.out m1 m2 m3 (fun g e => by cases e)), fun q e => (by cases e), ⟨HB.out.os, HB.out.tape, HB.out.output, HB.out.size, fun k hk _ _ _ => HB.out.block k hk, fun k hk e => e⟩, hm0, hc0, .refl, fun x hx => by cases hx⟩
      clear HX HP HB HM hm0 hc0
      go_wp2_with fail
      clear HL HK
      go_loopw [23] (fun _ wr => ∃ (M : Nat → Nat → Option Nat) (lv : Value) (ls l : List (Nat × Nat)), Hid (Dw w wr hb mb bm pb po n cap px py M0 M lv ls l) ∧ ls.length + l.length = k ∧ Hid (∀ y ∈ l, ∃ x ∈ xs, y = up x.1 x.2) ∧ Hid (∀ y ∈ ls, ∃ x ∈ xs, y = up x.1 x.2) ∧ Hid (∀ x ∈ xs, up x.1 x.2 ∈ ls ∨ up x.1 x.2 ∈ l)) (fun _ wr => lenW wr hb)
      case atStart => exact ⟨M0, _, [], l, D0, by simp [hll], HY, hid (fun y hy => by cases hy), hid (fun x hx => .inr (HXX.out x hx))⟩
      case round =>
        clear D0 HY HXX hll
        obtain ⟨M, lv, ls, l, HD, hlen2, HY, HZ, HE⟩ := hrel
        obtain ⟨v, c0, ho⟩ := HD.out.hp.ex
        obtain ⟨a1, c1, hv⟩ := owns_len2 ho
        subst hv
        have HLN := hid (len_any a1 l.length c1 wr)
        clear ho
        by_cases hl0 : l.length = 0
        · have hle : l = [] := List.eq_nil_of_length_eq_zero hl0
          rw [hl0] at c0 HLN
          have FIN : Hid (∀ x ∈ xs, up x.1 x.2 ∈ ls) := hid (fun x hx => by
            rcases HE.out x hx with h | h
            · exact h
            · rw [hle] at h; cases h)
          clear hle
          go_wp2_with fail
          refine HLN.out.mono ?_
          rintro e w1 ⟨rfl, rfl⟩
          go_wp2_with fail
          go_end0
          exact ⟨rfl, M, lv, ls, HD.out.me, HD.out.fr, HD.out.mesh, HD.out.cor, HD.out.re, by omega, HD.out.jo, FIN.out, HZ.out⟩
        · have hd : decide ((0 : Int) < (l.length : Int)) = true := by simp; omega
          have NX := hid (next_any hb l wr HD.out.hp (by omega) (by omega))
          go_wp2_with fail
          refine HLN.out.mono ?_
          rintro e w1 ⟨rfl, rfl⟩
          go_wp2_with fail
          refine NX.out.mono ?_
          rintro e w2 ⟨⟨x, l1, rfl, hp2, hpm⟩, hf2⟩
          have HD2 := hid (HD.out.next HHB.out m1 m2 m3 hp2 hf2)
          have LW : Hid (lenW w1 hb = l.length) := hid (lenW_eq HD.out.hp)
          have hl1 : l.length = l1.length + 1 := by rw [hpm.length_eq]; rfl
          obtain ⟨x0, hx0, ex0⟩ := HY.out x (hpm.mem_iff.2 List.mem_cons_self)
          have lx := HOK.out.lt x0 hx0
          have ux : x.1 < n ∧ x.2 < n ∧ x.1 ≠ x.2 := by
            rw [ex0]
            rcases up_is x0.1 x0.2 with h | h <;> rw [h] <;> dsimp only <;> omega
          have bx : ∀ p, p < n → betwB px py x.1 x.2 p = false := fun p hp => by rw [ex0, betwB_up]; exact HOK.out.betw x0 hx0 p hp
          have cx : ∀ y ∈ ls, crossB px py x.1 x.2 y.1 y.2 = false := fun y hy => by
            obtain ⟨y0, hy0, ey0⟩ := HZ.out y hy
            rw [ex0, ey0, crossB_up]
            exact HOK.out.cross x0 hx0 y0 hy0
          have nlp : lv.ownBlock ≠ some pb := fun e => by have := (HD.out.ap pb e).1; omega
          have DR := hid (draw_any mb bm pb po n cap x.1 x.2 px py M lv ls (fun M => Geo.Reach px py n M0 M ∧ ∀ y ∈ ls, Joined M y.1 y.2) w2 hn HD2.out.me (by omega) HD2.out.mesh HD2.out.cor ⟨HD2.out.re, HD2.out.jo⟩ ux.1 ux.2.1 hmp nlp
            (fun M a b c d hm q hx hk => ⟨.flip hk.1 hm q, fun y hy => joined_flip (hk.2 y hy) (fun e => by rw [← e.1, ← e.2, cx y hy] at hx; cases hx) (fun e => by rw [crossB_symm, ← e.1, ← e.2, cx y hy] at hx; cases hx)⟩))
          have HUX := hid ux
          have HBX := hid bx
          have HPM := hid hpm
          have HX0 := hid (⟨x0, hx0, ex0⟩ : ∃ x0 ∈ xs, x = up x0.1 x0.2)
          clear hp2 hpm hf2 c0 NX HLN ex0 hx0 lx ux bx cx nlp HD
          go_wp2_with fail
          refine DR.out.mono ?_
          rintro e w3 ⟨rfl, M', lv', hM3, hd3, hm3, hc3, hk3, hbad⟩
          have HJ := drawn hm3 hinj hc3 HUX.out.1 HUX.out.2.1 HUX.out.2.2 HBX.out hbad
          have HD3 := hid (HD2.out.draw HHB.out m1 m2 hM3 hd3 hm3 hc3 hk3.1 hk3.2 HJ)
          have LW3 : Hid (lenW w3 hb = l1.length) := hid (lenW_eq HD3.out.hp)
          clear hM3 hd3 hm3 hc3 hk3 hbad HJ DR HD2
          go_wp2_with fail
          go_roundw
          case rel =>
            refine ⟨M', lv', ls ++ [x], l1, HD3, by simp; omega, hid (fun y hy => HY.out y (HPM.out.mem_iff.2 (List.mem_cons_of_mem _ hy))), hid (fun y hy => ?_), hid (fun z hz => ?_)⟩
            · rcases List.mem_append.1 hy with h | h
              · exact HZ.out y h
              · simp at h; subst h; exact HX0.out
            · rcases HE.out z hz with h | h
              · exact .inl (List.mem_append_left _ h)
              · rcases List.mem_cons.1 (HPM.out.mem_iff.1 h) with h | h
                · exact .inl (List.mem_append_right _ (by rw [h]; simp))
                · exact .inr h
          case measure => rw [LW3.out, LW.out]; omega
end Go.Proofs.YtdbebbbceeopaaaGreat

set_option linter.unusedSimpArgs false
namespace Go.Proofs.YtdbebbbceeopaaaGreat
open Go.RowKit Go.Maps

/-- A row of lines as they come in: two numbers each. -/
def LnI (w : World) (a : Option Addr) (xs : List (Int × Int)) : Prop := xs = [] ∨ ∃ g o, a = some ⟨g, o, none⟩ ∧ g < w.heap.size ∧ ∀ i, (hi : i < xs.length) → w.cell? ⟨g, o + i * 2, none⟩ = some (.int .i64 xs[i].1) ∧ w.cell? ⟨g, o + i * 2 + 1, none⟩ = some (.int .i64 xs[i].2)

theorem LnI.below {w w' : World} {a : Option Addr} {xs : List (Int × Int)} (h : LnI w a xs) (hb : Below w.heap.size w w') : LnI w' a xs := by
  rcases h with h | ⟨g, o, e, hg, hc⟩
  · exact .inl h
  · exact .inr ⟨g, o, e, Nat.lt_of_lt_of_le hg hb.size, fun i hi => ⟨(hb.cell (by exact hg)).trans (hc i hi).1, (hb.cell (by exact hg)).trans (hc i hi).2⟩⟩

/-- Is a line one of two different points? -/
def Jn (n : Nat) (x : Int × Int) : Prop := (0 ≤ x.1 ∧ x.1 < n) ∧ (0 ≤ x.2 ∧ x.2 < n) ∧ x.1 ≠ x.2

/-- What allJoinTwo answers. -/
def JnR (n : Nat) (xs : List (Int × Int)) (e : Ending) : Prop := ∃ b : Bool, e = .returned (.bool b) ∧ (b = true ↔ ∀ x ∈ xs, Jn n x)

set_option maxRecDepth 100000 in
set_option maxHeartbeats 4000000 in
theorem allJoin_any (n cap lcap : Nat) (pa la : Option Addr) (xs : List (Int × Int)) (w : World) (hl : LnI w la xs) (hk : xs.length ≤ 1000000) :
    Calls Tryz.prog 69 #[.slice pa n cap, .slice la xs.length lcap] w fun e w' => JnR n xs e ∧ Below w.heap.size w w' := by
  have HL := hid hl
  obtain ⟨k, hkk⟩ : ∃ k, k = xs.length := ⟨_, rfl⟩
  have HK := hid hkk
  rw [← hkk] at hk ⊢
  clear hl hkk
  go_enter Tryz.func69, Tryz.ntmps69
  go_wp2_with fail
  go_loopw [9] (fun ix wr => ∃ i : Nat, i ≤ k ∧ ix = .int .i64 i ∧ Hid (∀ r, (hr : r < xs.length) → r < i → Jn n xs[r]) ∧ Hid (Below w.heap.size w wr)) (fun ix _ => k - (intOf ix).toNat)
  case atStart => exact ⟨0, Nat.zero_le _, rfl, hid (fun r _ h => by omega), hid (Below.refl _ _)⟩
  case round =>
    obtain ⟨i, hi, rfl, HJ, HB⟩ := hrel
    by_cases hik : i < k
    · have hik' : (i : Int) < k := by omega
      have hix : i < xs.length := by rw [← HK.out]; exact hik
      obtain ⟨lg, lo, hla, hlg, hlc⟩ : ∃ lg lo, la = some ⟨lg, lo, none⟩ ∧ lg < w.heap.size ∧ (w.cell? ⟨lg, lo + i * 2, none⟩ = some (.int .i64 xs[i].1) ∧ w.cell? ⟨lg, lo + i * 2 + 1, none⟩ = some (.int .i64 xs[i].2)) := by
        rcases HL.out with h | ⟨g, o, e, h1, h2⟩
        · rw [h] at hix; simp at hix
        · exact ⟨g, o, e, h1, h2 i hix⟩
      subst hla
      have xc := (HB.out.cell (p := ⟨lg, lo + i * 2, none⟩) hlg).trans hlc.1
      have yc := (HB.out.cell (p := ⟨lg, lo + i * 2 + 1, none⟩) hlg).trans hlc.2
      have HNO : Hid (¬ Jn n xs[i] → ¬ ∀ x ∈ xs, Jn n x) := hid (fun h h' => h (h' _ (List.getElem_mem hix)))
      have HYES : Hid (Jn n xs[i] → ∀ r, (hr : r < xs.length) → r < i + 1 → Jn n xs[r]) := hid (fun h r hr hri => by
        rcases Nat.lt_or_ge r i with q | q
        · exact HJ.out r hr q
        · have : r = i := by omega
          subst this; exact h)
      obtain ⟨a, ha⟩ : ∃ a, a = xs[i].1 := ⟨_, rfl⟩
      obtain ⟨b, hb⟩ : ∃ b, b = xs[i].2 := ⟨_, rfl⟩
      have hab : xs[i] = (a, b) := by rw [ha, hb]
      rw [← ha] at xc
      rw [← hb] at yc
      rw [hab] at HNO HYES
      clear ha hb hab hlc
      have q1 : (0 : Int) ≤ (i : Int) := by omega
      have HB2 : Hid (∀ o, Below w.heap.size w (wr.alloc o)) := hid (fun o => HB.out.alloc HB.out.size o)
      obtain ⟨mn, hmn⟩ : ∃ mn, min a b = mn := ⟨_, rfl⟩
      obtain ⟨mx, hmx⟩ : ∃ mx, max a b = mx := ⟨_, rfl⟩
      have HMN := hid (show mn ≤ a ∧ mn ≤ b ∧ (mn = a ∨ mn = b) by omega)
      have HMX := hid (show a ≤ mx ∧ b ≤ mx ∧ (mx = a ∨ mx = b) by omega)
      by_cases g1 : mn < 0
      · have NO := hid (HNO.out (fun h => by have := HMN.out; have := h.1; have := h.2.1; dsimp only at *; omega))
        clear HNO HYES
        go_wp2_with fail
        go_ret
        exact ⟨⟨false, rfl, ⟨fun h => (by cases h), fun h => absurd h NO.out⟩⟩, HB2.out _⟩
      · by_cases g2 : (n : Int) ≤ mx
        · have NO := hid (HNO.out (fun h => by have := HMX.out; have := h.1; have := h.2.1; dsimp only at *; omega))
          clear HNO HYES
          go_wp2_with fail
          go_ret
          exact ⟨⟨false, rfl, ⟨fun h => (by cases h), fun h => absurd h NO.out⟩⟩, HB2.out _⟩
        · by_cases g3 : a = b
          · have NO := hid (HNO.out (fun h => h.2.2 g3))
            have d3 : (a == b) = true := by simpa using g3
            clear HNO HYES g3
            go_wp2_with fail
            go_ret
            exact ⟨⟨false, rfl, ⟨fun h => (by cases h), fun h => absurd h NO.out⟩⟩, HB2.out _⟩
          · have YES := hid (HYES.out ⟨by have := HMN.out; have := HMX.out; dsimp only; omega, by have := HMN.out; have := HMX.out; dsimp only; omega, g3⟩)
            have d3 : (a == b) = false := by simpa using g3
            clear HNO HYES
            go_wp2_with fail
            go_roundw
            case rel => exact ⟨i + 1, by omega, by go_num, YES, hid (HB2.out _)⟩
            case measure => simp [intOf]; omega
    · have hii : k = i := by omega
      subst hii
      go_wp2_with fail
      go_ret
      exact ⟨⟨true, rfl, ⟨fun _ x hx => by
        obtain ⟨r, hr, rfl⟩ := List.getElem_of_mem hx
        exact HJ.out r hr (by rw [HK.out]; exact hr), fun _ => rfl⟩⟩, HB.out⟩
end Go.Proofs.YtdbebbbceeopaaaGreat

set_option linter.unusedSimpArgs false
namespace Go.Proofs.YtdbebbbceeopaaaGreat
open Go.RowKit Go.Maps
open Flt (Is)

/-- What IndexFunc answers: a number from 0 on, if there is one. -/
def IdxR (f : Nat → Bool) (n : Nat) (e : Ending) : Prop := ∃ r : Int, e = .returned (.int .i64 r) ∧ decide (0 ≤ r) = decide (∃ i, i < n ∧ f i = true)

def BolR (f : Nat → Bool) (n : Nat) (e : Ending) : Prop := e = .returned (.bool (decide (∃ i, i < n ∧ f i = true)))

set_option maxRecDepth 100000 in
set_option maxHeartbeats 2000000 in
theorem index126 (pb po n cap : Nat) (px py : Nat → Int) (f : Nat → Bool) (caps : Array Value) (w : World) (hn : n ≤ 1000) (hp : Plc w pb po n px py)
    (hcl : ∀ (W : World) (i r q : Nat), i < n → Below w.heap.size w W → w.cell? ⟨pb, po + i, none⟩ = some (.complex .f64 r q) → Calls Tryz.prog 99 (#[.complex .f64 r q] ++ caps) W fun e w' => e = .returned (.bool (f i)) ∧ Below W.heap.size W w') :
    Calls Tryz.prog 126 #[.slice (some ⟨pb, po, none⟩) n cap, .func (.func 99) #[] caps] w fun e w' => IdxR f n e ∧ Below w.heap.size w w' := by
  have HP := hid hp
  have CL := hid hcl
  clear hp hcl
  go_enter Tryz.func126, Tryz.ntmps126
  go_wp2_with fail
  go_loopw [8] (fun ix wr => ∃ i : Nat, i ≤ n ∧ ix = .int .i64 i ∧ Hid (∀ r, r < i → f r = false) ∧ Hid (Below w.heap.size w wr)) (fun ix _ => n - (intOf ix).toNat)
  case atStart => exact ⟨0, Nat.zero_le _, rfl, hid (fun r h => by omega), hid (Below.refl _ _)⟩
  case round =>
    obtain ⟨i, hi, rfl, HF, HB⟩ := hrel
    by_cases hin : i < n
    · have hin' : (i : Int) < n := by omega
      obtain ⟨r, q, c0, _, _⟩ := HP.out.cell i hin
      have c1 := (HB.out.cell (p := ⟨pb, po + i, none⟩) HP.out.lt).trans c0
      have C := hid (CL.out wr i r q hin HB.out c0)
      have q1 : (0 : Int) ≤ (i : Int) := by omega
      clear c0
      go_wp2_with fail
      refine C.out.mono ?_
      rintro e w1 ⟨rfl, hb1⟩
      have HB1 := hid (HB.out.trans (hb1.mono HB.out.size))
      clear hb1 C c1
      obtain ⟨b, hb⟩ : ∃ b, b = f i := ⟨_, rfl⟩
      rw [← hb]
      cases b with
      | true =>
        have HR : Hid (decide (0 ≤ (i : Int)) = decide (∃ i, i < n ∧ f i = true)) := hid (by rw [decide_eq_true (show (0 : Int) ≤ i by omega), decide_eq_true (⟨i, hin, hb.symm⟩ : ∃ i, i < n ∧ f i = true)])
        clear hb
        go_wp2_with fail
        go_ret
        exact ⟨⟨i, rfl, HR.out⟩, HB1.out⟩
      | false =>
        have HF1 : Hid (∀ r, r < i + 1 → f r = false) := hid (fun r hr => by
          rcases Nat.lt_or_ge r i with k | k
          · exact HF.out r k
          · have : r = i := by omega
            subst this; exact hb.symm)
        clear hb
        go_wp2_with fail
        go_roundw
        case rel => exact ⟨i + 1, by omega, by go_num, HF1, HB1⟩
        case measure => simp [intOf]; omega
    · have hii : n = i := by omega
      subst hii
      go_wp2_with fail
      go_ret
      exact ⟨⟨-1, rfl, by
        rw [decide_eq_false (by omega), decide_eq_false]
        rintro ⟨r, hr, h⟩
        rw [HF.out r hr] at h
        cases h⟩, HB.out⟩

set_option maxHeartbeats 1000000 in
theorem contains98 (pb po n cap : Nat) (px py : Nat → Int) (f : Nat → Bool) (caps : Array Value) (w : World) (hn : n ≤ 1000) (hp : Plc w pb po n px py)
    (hcl : ∀ (W : World) (i r q : Nat), i < n → Below w.heap.size w W → w.cell? ⟨pb, po + i, none⟩ = some (.complex .f64 r q) → Calls Tryz.prog 99 (#[.complex .f64 r q] ++ caps) W fun e w' => e = .returned (.bool (f i)) ∧ Below W.heap.size W w') :
    Calls Tryz.prog 98 #[.slice (some ⟨pb, po, none⟩) n cap, .func (.func 99) #[] caps] w fun e w' => BolR f n e ∧ Below w.heap.size w w' := by
  have C := hid (index126 pb po n cap px py f caps w hn hp hcl)
  clear hp hcl
  go_enter Tryz.func98, Tryz.ntmps98
  go_wp2_with fail
  refine C.out.mono ?_
  rintro e w1 ⟨⟨r, rfl, hr⟩, hb⟩
  have HB := hid hb
  obtain ⟨b, hbb⟩ : ∃ b, b = decide (∃ i, i < n ∧ f i = true) := ⟨_, rfl⟩
  have HBB := hid hbb
  rw [← hbb] at hr
  clear hb hbb
  go_wp2_with fail
  go_ret
  exact ⟨by unfold BolR; rw [← HBB.out]; rfl, HB.out⟩
set_option maxRecDepth 100000 in
set_option maxHeartbeats 2000000 in
theorem index127 (n cap : Nat) (la : Option Addr) (xs : List (Nat × Nat)) (f : Nat → Bool) (caps : Array Value) (w : World) (hn : n ≤ 1000) (hp : Lns w la xs) (hx : n ≤ xs.length)
    (hcl : ∀ (W : World) (i : Nat) (hi : i < xs.length), i < n → Below w.heap.size w W → Calls Tryz.prog 102 (#[.agg #[.int .i64 (xs[i].1 : Nat), .int .i64 (xs[i].2 : Nat)]] ++ caps) W fun e w' => e = .returned (.bool (f i)) ∧ Below W.heap.size W w') :
    Calls Tryz.prog 127 #[.slice la n cap, .func (.func 102) #[] caps] w fun e w' => IdxR f n e ∧ Below w.heap.size w w' := by
  have HP := hid hp
  have CL := hid hcl
  clear hp hcl
  go_enter Tryz.func127, Tryz.ntmps127
  go_wp2_with fail
  go_loopw [8] (fun ix wr => ∃ i : Nat, i ≤ n ∧ ix = .int .i64 i ∧ Hid (∀ r, r < i → f r = false) ∧ Hid (Below w.heap.size w wr)) (fun ix _ => n - (intOf ix).toNat)
  case atStart => exact ⟨0, Nat.zero_le _, rfl, hid (fun r h => by omega), hid (Below.refl _ _)⟩
  case round =>
    obtain ⟨i, hi, rfl, HF, HB⟩ := hrel
    by_cases hin : i < n
    · have hin' : (i : Int) < n := by omega
      have hix : i < xs.length := by omega
      obtain ⟨lg, lo, hla, hlg, hlc⟩ : ∃ lg lo, la = some ⟨lg, lo, none⟩ ∧ lg < w.heap.size ∧ (w.cell? ⟨lg, lo + i * 2, none⟩ = some (.int .i64 (xs[i].1 : Nat)) ∧ w.cell? ⟨lg, lo + i * 2 + 1, none⟩ = some (.int .i64 (xs[i].2 : Nat))) := by
        rcases HP.out with h | ⟨g, o, e, h1, h2⟩
        · rw [h] at hix; simp at hix
        · exact ⟨g, o, e, h1, h2 i hix⟩
      subst hla
      have c1 := (HB.out.cell (p := ⟨lg, lo + i * 2, none⟩) hlg).trans hlc.1
      have c2 := (HB.out.cell (p := ⟨lg, lo + i * 2 + 1, none⟩) hlg).trans hlc.2
      have C := hid (CL.out wr i hix hin HB.out)
      have q1 : (0 : Int) ≤ (i : Int) := by omega
      obtain ⟨u, hu⟩ : ∃ u, u = xs[i].1 := ⟨_, rfl⟩
      obtain ⟨v, hv⟩ : ∃ v, v = xs[i].2 := ⟨_, rfl⟩
      rw [← hu] at c1 C
      rw [← hv] at c2 C
      clear hlc hu hv
      go_wp2_with fail
      refine C.out.mono ?_
      rintro e w1 ⟨rfl, hb1⟩
      have HB1 := hid (HB.out.trans (hb1.mono HB.out.size))
      clear hb1 C c1 c2
      obtain ⟨b, hb⟩ : ∃ b, b = f i := ⟨_, rfl⟩
      rw [← hb]
      cases b with
      | true =>
        have HR : Hid (decide (0 ≤ (i : Int)) = decide (∃ i, i < n ∧ f i = true)) := hid (by rw [decide_eq_true (show (0 : Int) ≤ i by omega), decide_eq_true (⟨i, hin, hb.symm⟩ : ∃ i, i < n ∧ f i = true)])
        clear hb
        go_wp2_with fail
        go_ret
        exact ⟨⟨i, rfl, HR.out⟩, HB1.out⟩
      | false =>
        have HF1 : Hid (∀ r, r < i + 1 → f r = false) := hid (fun r hr => by
          rcases Nat.lt_or_ge r i with k | k
          · exact HF.out r k
          · have : r = i := by omega
            subst this; exact hb.symm)
        clear hb
        go_wp2_with fail
        go_roundw
        case rel => exact ⟨i + 1, by omega, by go_num, HF1, HB1⟩
        case measure => simp [intOf]; omega
    · have hii : n = i := by omega
      subst hii
      go_wp2_with fail
      go_ret
      exact ⟨⟨-1, rfl, by
        rw [decide_eq_false (by omega), decide_eq_false]
        rintro ⟨r, hr, h⟩
        rw [HF.out r hr] at h
        cases h⟩, HB.out⟩

set_option maxHeartbeats 1000000 in
theorem contains101 (n cap : Nat) (la : Option Addr) (xs : List (Nat × Nat)) (f : Nat → Bool) (caps : Array Value) (w : World) (hn : n ≤ 1000) (hp : Lns w la xs) (hx : n ≤ xs.length)
    (hcl : ∀ (W : World) (i : Nat) (hi : i < xs.length), i < n → Below w.heap.size w W → Calls Tryz.prog 102 (#[.agg #[.int .i64 (xs[i].1 : Nat), .int .i64 (xs[i].2 : Nat)]] ++ caps) W fun e w' => e = .returned (.bool (f i)) ∧ Below W.heap.size W w') :
    Calls Tryz.prog 101 #[.slice la n cap, .func (.func 102) #[] caps] w fun e w' => BolR f n e ∧ Below w.heap.size w w' := by
  have C := hid (index127 n cap la xs f caps w hn hp hx hcl)
  clear hp hcl
  go_enter Tryz.func101, Tryz.ntmps101
  go_wp2_with fail
  refine C.out.mono ?_
  rintro e w1 ⟨⟨r, rfl, hr⟩, hb⟩
  have HB := hid hb
  obtain ⟨b, hbb⟩ : ∃ b, b = decide (∃ i, i < n ∧ f i = true) := ⟨_, rfl⟩
  have HBB := hid hbb
  rw [← hbb] at hr
  clear hb hbb
  go_wp2_with fail
  go_ret
  exact ⟨by unfold BolR; rw [← HBB.out]; rfl, HB.out⟩
end Go.Proofs.YtdbebbbceeopaaaGreat
