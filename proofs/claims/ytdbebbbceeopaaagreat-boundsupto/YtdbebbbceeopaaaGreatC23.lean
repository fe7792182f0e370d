import Derived.Test.YtdbebbbceeopaaaGreatC22
import Derived.Test.YtdbebbbceeopaaaGreatC18
import Derived.Test.YtdbebbbceeopaaaGreatC16
import Derived.Test.YtdbebbbceeopaaaGreatC3
import Derived.Test.YtdbebbbceeopaaaGreatC21
set_option linter.unusedSimpArgs false
namespace Go.Proofs.YtdbebbbceeopaaaGreat
open Go.RowKit

theorem pts_lent2 {w : World} {g n : Nat} {zs : List Int} (h : w.heap[g]? = some (.cells (ivs zs ++ List.replicate 6 (Value.int .i64 0)).toArray 54 (0, 0))) (hz : zs.length = n * 2) : Pts w g 0 n (zx zs) (zy zs) := by
  refine ⟨heap_lt h, fun i hi => ?_, fun i hi => ?_⟩
  · rw [Nat.zero_add, heap_cell h]
    simpa [zx] using lent_get zs 6 (i * 2) (by omega)
  · rw [Nat.zero_add, heap_cell h]
    simpa [zy] using lent_get zs 6 (i * 2 + 1) (by omega)

set_option maxRecDepth 100000 in
set_option maxHeartbeats 4000000 in
theorem plays3 (w : World) (B bk : Nat) (vi : Value) (es : List (List Value)) (x y : Int) (v1 v2 v3 : Value) (n1 n2 n3 : Nat) (z1 z2 z3 : List Int) (h1 : n1 ≤ 2000000) (h2 : n2 ≤ 2000000) (h3 : n3 ≤ 2000000)
    {vt : Value} (hB : Bt w B w.heap.size bk vi es vt) (he : es.length ≤ 10000000) (s1 : Src w v1 2 n1 z1) (s2 : Src w v2 2 n2 z2) (s3 : Src w v3 3 n3 z3)
    (hq : ∀ v ∈ [v1, v2, v3], ∀ a n c, v = .slice (some a) n c → 0 < n → a.block < w.heap.size ∧ a.block ≠ bk ∧ vi.ownBlock ≠ some a.block) :
    Calls Tryz.prog 29 #[.pointer (some ⟨bk, 0, none⟩), opV 3 v1 v2 v3 x y] w fun e w' => e = .returned (.bool true) ∧ ∃ vi' e', Bt w' B w'.heap.size bk vi' (es ++ [e']) vt ∧ Kp w w' w.heap.size bk vi ∧ Ap w.heap.size vi vi' e' := by
  have HS1 := hid s1
  have HS2 := hid s2
  have HS3 := hid s3
  have HBK := hid hB
  have HQ := hid hq
  clear s1 s2 s3 hB hq
  obtain ⟨p1, c1, rfl⟩ : ∃ p c, v1 = .slice p n1 c := by obtain ⟨_, p, c, e, _⟩ := HS1.out; exact ⟨p, c, e⟩
  obtain ⟨p2, c2, rfl⟩ : ∃ p c, v2 = .slice p n2 c := by obtain ⟨_, p, c, e, _⟩ := HS2.out; exact ⟨p, c, e⟩
  obtain ⟨p3, c3, rfl⟩ : ∃ p c, v3 = .slice p n3 c := by obtain ⟨_, p, c, e, _⟩ := HS3.out; exact ⟨p, c, e⟩
  have OPV : opV 3 (.slice p1 n1 c1) (.slice p2 n2 c2) (.slice p3 n3 c3) x y = .agg #[.int .i64 3, .slice p1 n1 c1, .slice p2 n2 c2, .slice p3 n3 c3, .int .i64 x, .int .i64 y] := rfl
  rw [OPV]
  have HOPV := hid OPV
  clear OPV
  go_enter Tryz.func29, Tryz.ntmps29
  go_wp2_with fail
  obtain ⟨b0, hb0⟩ : ∃ b0, b0 = w.heap.size := ⟨_, rfl⟩
  obtain ⟨W1, hW1⟩ : ∃ W1 : World, W1 = w.alloc (.cells #[.int .i64 3, .slice p1 n1 c1, .slice p2 n2 c2, .slice p3 n3 c3, .int .i64 x, .int .i64 y] 62) := ⟨_, rfl⟩
  have bel1 : Below w.heap.size w W1 := by rw [hW1]; exact (Below.refl _ _).alloc (Nat.le_refl _) _
  have siz1 : W1.heap.size = b0 + 1 := by rw [hW1, hb0]; exact size_new _ _
  have box1 : W1.heap[b0]? = some (.cells #[.int .i64 3, .slice p1 n1 c1, .slice p2 n2 c2, .slice p3 n3 c3, .int .i64 x, .int .i64 y] 62 (0, 0)) := by rw [hW1, hb0]; exact heap_new _ _
  rw [← hW1]
  rw [← hb0]
  have BEL1 := hid bel1
  have SIZ1 := hid siz1
  have BOX1 := hid box1
  have HB0 := hid hb0
  clear hW1 bel1 siz1 box1 hb0
  refine (lend_any W1 3 x y _ _ _ n1 n2 n3 z1 z2 z3 h1 h2 h3 (HS1.out.below BEL1.out) (HS2.out.below BEL1.out) (HS3.out.below BEL1.out)).mono ?_
  rintro e W2 ⟨g1, g2, g3, rfl, e1, e2, e3, bel2, k1, k2, k3⟩
  obtain ⟨W3, hW3⟩ : ∃ W3 : World, W3 = W2.alloc (.cells #[.slice (some ⟨g1, 0, none⟩) (n1 + 3) (n1 + 3), .slice (some ⟨g2, 0, none⟩) (n2 + 3) (n2 + 3), .slice (some ⟨g3, 0, none⟩) (n3 + 3) (n3 + 3)] 80) := ⟨_, rfl⟩
  have HW3 := hid hW3
  have E1 := hid e1
  have E2 := hid e2
  have E3 := hid e3
  have BEL2 := hid bel2
  have K1 := hid k1
  have K2 := hid k2
  have K3 := hid k3
  have q0 : W2.cell? ⟨b0, 0, none⟩ = some (.int .i64 3) := (bel2.cell (by show b0 < _; rw [SIZ1.out]; omega)).trans (heap_cell BOX1.out 0)
  have q1 : W2.cell? ⟨b0, 1, none⟩ = some (.slice p1 n1 c1) := (bel2.cell (by show b0 < _; rw [SIZ1.out]; omega)).trans (heap_cell BOX1.out 1)
  have q2 : W2.cell? ⟨b0, 2, none⟩ = some (.slice p2 n2 c2) := (bel2.cell (by show b0 < _; rw [SIZ1.out]; omega)).trans (heap_cell BOX1.out 2)
  have q0' := new_cell q0
  have q2' := new_cell q2
  have a2 : (n2 : Int) ≤ n2 + 3 := by omega
  have q1' := new_cell q1
  have a1 : (n1 : Int) ≤ n1 + 3 := by omega
  clear hW3 e1 e2 e3 bel2 k1 k2 k3
  go_wp2_with fail
  rw [← HW3.out]
  obtain ⟨bX, hbX⟩ : ∃ bX, bX = W2.heap.size := ⟨_, rfl⟩
  rw [← hbX]
  have BX := hid hbX
  clear hbX q0 q1 q2 q0' q1' q2' a1 a2
  have SIZ3 : Hid (W3.heap.size = bX + 1) := hid (by rw [HW3.out, BX.out]; exact size_new _ _)
  have OLD3 : Hid (∀ k, k < bX → W3.heap[k]? = W2.heap[k]?) := hid fun k hk => by rw [HW3.out]; exact Below.heap_alloc _ _ _ (by rw [← BX.out]; exact hk)
  have XB3 : Hid (W3.heap[bX]? = some (.cells #[.slice (some ⟨g1, 0, none⟩) (n1 + 3) (n1 + 3), .slice (some ⟨g2, 0, none⟩) (n2 + 3) (n2 + 3), .slice (some ⟨g3, 0, none⟩) (n3 + 3) (n3 + 3)] 80 (0, 0))) := hid (by rw [HW3.out, BX.out]; exact heap_new _ _)
  have L1 : Hid (g1 < bX) := hid (by rw [BX.out]; exact heap_lt E1.out)
  have L2 : Hid (g2 < bX) := hid (by rw [BX.out]; exact heap_lt E2.out)
  have L3 : Hid (g3 < bX) := hid (by rw [BX.out]; exact heap_lt E3.out)
  have G1 := hid ((OLD3.out g1 L1.out).trans E1.out)
  have G2 := hid ((OLD3.out g2 L2.out).trans E2.out)
  have G3 := hid ((OLD3.out g3 L3.out).trans E3.out)
  have LB : Hid (b0 < bX) := hid (by have := BEL2.out.size; rw [SIZ1.out, ← BX.out] at this; omega)
  have BO3 : Hid (W3.heap[b0]? = some (.cells #[.int .i64 3, .slice p1 n1 c1, .slice p2 n2 c2, .slice p3 n3 c3, .int .i64 x, .int .i64 y] 62 (0, 0))) := hid ((OLD3.out b0 LB.out).trans ((BEL2.out.block b0 (by rw [SIZ1.out]; omega)).trans BOX1.out))
  have BEL3 : Hid (Below b0 w W3) := by
    refine hid ((BEL1.out.trans (BEL2.out.mono BEL1.out.size)).mono (by rw [HB0.out]; exact Nat.le_refl _) |>.trans ?_)
    rw [HW3.out]
    exact (Below.refl _ _).alloc (by rw [← BX.out]; have := LB.out; omega) _
  clear HW3 OLD3 E1 E2 E3
  refine (bound_step z1 z2 n1 n2 g1 g2 (n1 + 3) (n2 + 3) (.slice p1 n1 c1) (.slice p2 n2 c2) W3 h1 h2 (by omega) (by omega) (pts_lent G1.out HS1.out.1) (pts_lent2 G2.out HS2.out.1) ⟨p1, c1, rfl⟩ ⟨p2, c2, rfl⟩).mono ?_
  rintro e W4 ⟨u, xe, m, xs, rfl, bel4, own4, hm4, hx4, good⟩
  obtain ⟨au, cu, hu⟩ := owns_len3 own4
  have BEL4 := hid bel4
  have OWN4 := hid own4
  have GOOD := hid good
  have HX4 := hid hx4
  have q1 : W4.cell? ⟨b0, 1, none⟩ = some (.slice p1 n1 c1) := (bel4.cell (by show b0 < _; rw [SIZ3.out]; have := LB.out; omega)).trans (heap_cell BO3.out 1)
  have q0 : W4.cell? ⟨b0, 0, none⟩ = some (.int .i64 3) := (bel4.cell (by show b0 < _; rw [SIZ3.out]; have := LB.out; omega)).trans (heap_cell BO3.out 0)
  have q2 : W4.cell? ⟨b0, 2, none⟩ = some (.slice p2 n2 c2) := (bel4.cell (by show b0 < _; rw [SIZ3.out]; have := LB.out; omega)).trans (heap_cell BO3.out 2)
  have q3 : W4.cell? ⟨b0, 3, none⟩ = some (.slice p3 n3 c3) := (bel4.cell (by show b0 < _; rw [SIZ3.out]; have := LB.out; omega)).trans (heap_cell BO3.out 3)
  have q4 : W4.cell? ⟨b0, 4, none⟩ = some (.int .i64 x) := (bel4.cell (by show b0 < _; rw [SIZ3.out]; have := LB.out; omega)).trans (heap_cell BO3.out 4)
  have q5 : W4.cell? ⟨b0, 5, none⟩ = some (.int .i64 y) := (bel4.cell (by show b0 < _; rw [SIZ3.out]; have := LB.out; omega)).trans (heap_cell BO3.out 5)
  subst hu
  clear bel4 own4 good hx4
  have BEL04 : Hid (Below b0 w W4) := hid (BEL3.out.trans (BEL4.out.mono (by rw [SIZ3.out]; have := LB.out; omega)))
  have SRC : Hid (∀ W, Below W4.heap.size W4 W → Src W (.slice p1 n1 c1) 2 n1 z1) := hid fun W hW => HS1.out.below (by rw [← HB0.out]; exact BEL04.out.trans (hW.mono (by rw [HB0.out]; exact BEL04.out.size)))
  have SRC2 : Hid (∀ W, Below W4.heap.size W4 W → Src W (.slice p2 n2 c2) 2 n2 z2) := hid fun W hW => HS2.out.below (by rw [← HB0.out]; exact BEL04.out.trans (hW.mono (by rw [HB0.out]; exact BEL04.out.size)))
  have HCHK : Hid (∀ W', Below W4.heap.size W4 W' → Calls Tryz.prog 52 #[.slice p1 n1 c1, .slice p2 n2 c2] W' fun e w' => e = .returned (.int .i64 xe) ∧ Below W'.heap.size W' w') := hid fun W' hb => (GOOD.out W' (SRC.out W' hb) (SRC2.out W' hb) hb).chk
  have HFIL : Hid (∀ W', Below W4.heap.size W4 W' → Calls Tryz.prog 48 #[.agg #[.int .i64 3, .slice p1 n1 c1, .slice p2 n2 c2, .slice p3 n3 c3, .int .i64 x, .int .i64 y], .slice au m cu, .int .i64 xe, .int .i64 xe] W' fun e w' => e = .returned (.bool true) ∧ Below W'.heap.size W' w') := hid fun W' hb => by
    have h := lawfills_any 3 x y (.slice p1 n1 c1) (.slice p2 n2 c2) (.slice p3 n3 c3) au m cu xe W' HX4.out (fun e W'' hb' => (GOOD.out W'' (SRC.out W'' (hb.trans (hb'.mono hb.size))) (SRC2.out W'' (hb.trans (hb'.mono hb.size))) (hb.trans (hb'.mono hb.size))).fil e)
    rw [HOPV.out] at h
    exact h
  have HROU : Hid (xe = 0 → ∀ W', Below W4.heap.size W4 W' → Calls Tryz.prog 53 #[.slice p1 n1 c1, .slice p2 n2 c2, .slice au m cu] W' fun e w' => e = .returned (.bool true) ∧ Below W'.heap.size W' w') := hid fun e W' hb => (GOOD.out W' (SRC.out W' hb) (SRC2.out W' hb) hb).bnd e
  have lb : b0 < W4.heap.size := by have := BEL4.out.size; have := SIZ3.out; have := LB.out; omega
  have LBW := hid lb
  go_wp2_with fail
  go_region_held3 (fun w' => w'.cell? ⟨b0, 0, none⟩ = some (.int .i64 3) ∧ w'.cell? ⟨b0, 1, none⟩ = some (.slice p1 n1 c1) ∧ w'.cell? ⟨b0, 2, none⟩ = some (.slice p2 n2 c2) ∧ w'.cell? ⟨b0, 3, none⟩ = some (.slice p3 n3 c3) ∧ w'.cell? ⟨b0, 4, none⟩ = some (.int .i64 x) ∧ w'.cell? ⟨b0, 5, none⟩ = some (.int .i64 y)) (go_keep)
    (first
      | (go_at_call 52; refine (HCHK.out _ (Below.refl _ _).drew).mono ?_; rintro e W5 ⟨rfl, hb5⟩; have u0 := (hb5.cell (p := ⟨b0, 0, none⟩) lb).trans q0; have u1 := (hb5.cell (p := ⟨b0, 1, none⟩) lb).trans q1; have u2 := (hb5.cell (p := ⟨b0, 2, none⟩) lb).trans q2; have u3 := (hb5.cell (p := ⟨b0, 3, none⟩) lb).trans q3; have u4 := (hb5.cell (p := ⟨b0, 4, none⟩) lb).trans q4; have u5 := (hb5.cell (p := ⟨b0, 5, none⟩) lb).trans q5; have HB5 := hid ((Below.refl _ _).drew.trans hb5); clear hb5)
      | (go_at_call 48; refine (HFIL.out _ HB5.out).mono ?_; rintro e W6 ⟨rfl, hb6⟩; have HB6 := hid (HB5.out.trans (hb6.mono HB5.out.size)); clear hb6; have s0 := (HB6.out.cell (p := ⟨b0, 0, none⟩) lb).trans q0; have s1 := (HB6.out.cell (p := ⟨b0, 1, none⟩) lb).trans q1; have s2 := (HB6.out.cell (p := ⟨b0, 2, none⟩) lb).trans q2; have s3 := (HB6.out.cell (p := ⟨b0, 3, none⟩) lb).trans q3; have s4 := (HB6.out.cell (p := ⟨b0, 4, none⟩) lb).trans q4; have s5 := (HB6.out.cell (p := ⟨b0, 5, none⟩) lb).trans q5))
  have NX : xe = 0 ∨ xe ≠ 0 := Classical.em _
  clear u0 u1 u2 u3 u4 u5 s0 s3 s4 s5 q0 q1 q2 q3 q4 q5
  rcases NX with h0 | h0
  case' inl =>
    subst h0
    go_wp2_with fail
    refine (HROU.out (by first | exact rfl | trivial) _ HB6.out).mono ?_
    rintro e WF ⟨rfl, hb7⟩
    have HBF := hid (HB6.out.trans (hb7.mono HB6.out.size))
    clear hb7
    go_wp2_with fail
  case' inr =>
    have d : (xe != 0) = true := by simpa using h0
    go_wp2_with fail
    obtain ⟨WF, rfl⟩ : ∃ WF, WF = W6 := ⟨W6, rfl⟩
    have HBF := HB6
  all_goals
    have B36 : Hid (Below W3.heap.size W3 WF) := hid (BEL4.out.trans (HBF.out.mono BEL4.out.size))
    have S56 : Hid (W3.heap.size ≤ WF.heap.size) := hid B36.out.size
    have B06 : Hid (Below b0 w WF) := hid (BEL3.out.trans (B36.out.mono (by rw [SIZ3.out]; have := LB.out; omega)))
    have BK6 : Hid (Bt WF B W3.heap.size bk vi es vt) := hid (HBK.out.below (by rw [← HB0.out]; exact B06.out) (by rw [← HB0.out, SIZ3.out]; have := LB.out; omega) S56.out)
    have OWN6 : Hid (WF.ownsRow W3.heap.size 46 3 (.slice au m cu) m xs) := hid (owns_kept OWN4.out fun g hg => HBF.out.block g (own_ge3 OWN4.out g hg).2)
    refine (keepThrees_any WF B W3.heap.size bk vi es (.slice au m cu) m xs BK6.out he (by omega) (own3_base OWN6.out ?hl) (fun g hg => (own_ge3 OWN6.out g hg).1)).mono ?_
    case hl =>
      have := HBK.out.bB
      have := HBK.out.bS
      rw [← HB0.out] at this
      rw [SIZ3.out]; have := LB.out; omega
    rintro e W7 ⟨rfl, vi', e', bk7, kp7, ap7⟩
    have BK7 := hid bk7
    have KP7 := hid kp7
    have AP7 := hid ap7
    clear bk7 kp7 ap7
    have NB : Hid (bk < b0) := hid (by rw [HB0.out]; exact HBK.out.bS)
    have NV : Hid (∀ g, vi.ownBlock = some g → g < b0) := hid fun g hg => by rw [HB0.out]; exact (HBK.out.vS g hg).1
    have R7 : Hid (∀ g, b0 ≤ g → g < W3.heap.size → W7.heap[g]? = W3.heap[g]?) := hid fun g h1 h2 =>
      (KP7.out.block g h2 (by have := NB.out; omega) (fun e => by have := NV.out g e; omega)).trans (B36.out.block g h2)
    have S7 : Hid (∀ g, g < b0 → g ≠ bk → vi.ownBlock ≠ some g → W7.heap[g]? = w.heap[g]?) := hid fun g h1 h2 h3 =>
      (KP7.out.block g (by rw [SIZ3.out]; have := LB.out; omega) h2 h3).trans (B06.out.block g h1)
    have XB7 := hid ((R7.out bX (by have := LB.out; omega) (by rw [SIZ3.out]; omega)).trans XB3.out)
    have BO7 := hid ((R7.out b0 (Nat.le_refl _) (by rw [SIZ3.out]; have := LB.out; omega)).trans BO3.out)
    have t0 : W7.cell? ⟨bX, 0, none⟩ = some (.slice (some ⟨g1, 0, none⟩) (n1 + 3) (n1 + 3)) := heap_cell XB7.out 0
    have t1 : W7.cell? ⟨bX, 1, none⟩ = some (.slice (some ⟨g2, 0, none⟩) (n2 + 3) (n2 + 3)) := heap_cell XB7.out 1
    have t2 : W7.cell? ⟨bX, 2, none⟩ = some (.slice (some ⟨g3, 0, none⟩) (n3 + 3) (n3 + 3)) := heap_cell XB7.out 2
    have r0 : W7.cell? ⟨b0, 0, none⟩ = some (.int .i64 3) := heap_cell BO7.out 0
    have r1 : W7.cell? ⟨b0, 1, none⟩ = some (.slice p1 n1 c1) := heap_cell BO7.out 1
    have r2 : W7.cell? ⟨b0, 2, none⟩ = some (.slice p2 n2 c2) := heap_cell BO7.out 2
    have r3 : W7.cell? ⟨b0, 3, none⟩ = some (.slice p3 n3 c3) := heap_cell BO7.out 3
    have r4 : W7.cell? ⟨b0, 4, none⟩ = some (.int .i64 x) := heap_cell BO7.out 4
    have r5 : W7.cell? ⟨b0, 5, none⟩ = some (.int .i64 y) := heap_cell BO7.out 5
    go_wp2_with fail
    have M1 : Hid (b0 + 1 ≤ g1 ∧ g1 < W3.heap.size) := hid ⟨by rw [← SIZ1.out]; exact K1.out, by rw [SIZ3.out]; have := L1.out; omega⟩
    have M2 : Hid (b0 + 1 ≤ g2 ∧ g2 < W3.heap.size) := hid ⟨by rw [← SIZ1.out]; exact K2.out, by rw [SIZ3.out]; have := L2.out; omega⟩
    have M3 : Hid (b0 + 1 ≤ g3 ∧ g3 < W3.heap.size) := hid ⟨by rw [← SIZ1.out]; exact K3.out, by rw [SIZ3.out]; have := L3.out; omega⟩
    have Q7 : Hid (∀ v ∈ [Value.slice p1 n1 c1, .slice p2 n2 c2, .slice p3 n3 c3], ∀ a n c, v = .slice (some a) n c → 0 < n → W7.heap[a.block]? = w.heap[a.block]?) := hid fun v hv a n c e hn => by
      have := HQ.out v hv a n c e hn
      exact S7.out _ (by rw [HB0.out]; exact this.1) this.2.1 this.2.2
    refine (still_any W7 3 x y (.slice p1 n1 c1) (.slice p2 n2 c2) (.slice p3 n3 c3) b0 n1 n2 n3 g1 g2 g3 z1 z2 z3 h1 h2 h3 (HS1.out.kept fun a c e hn => Q7.out _ (by simp) a _ c e hn) (HS2.out.kept fun a c e hn => Q7.out _ (by simp) a _ c e hn) (HS3.out.kept fun a c e hn => Q7.out _ (by simp) a _ c e hn)
      (fun v hv a n c e hn => by rw [HB0.out]; exact (HQ.out v hv a n c e hn).1) (by have := M1.out.1; omega) (by have := M2.out.1; omega) (by have := M3.out.1; omega)
      ((R7.out g1 (by have := M1.out.1; omega) M1.out.2).trans G1.out) ((R7.out g2 (by have := M2.out.1; omega) M2.out.2).trans G2.out) ((R7.out g3 (by have := M3.out.1; omega) M3.out.2).trans G3.out)).mono ?_
    rintro e W8 ⟨rfl, but8⟩
    have BUT8 := hid but8
    clear but8
    go_wp2_with fail
    go_ret
    have far : ∀ g, g = g1 ∨ g = g2 ∨ g = g3 → b0 + 1 ≤ g ∧ g < W3.heap.size := by
      rintro g (rfl | rfl | rfl)
      · exact M1.out
      · exact M2.out
      · exact M3.out
    have same : ∀ k, k < W7.heap.size → (k < b0 ∨ W3.heap.size ≤ k) → W8.heap[k]? = W7.heap[k]? := by
      intro k hk hor
      refine BUT8.out.kept k hk ?_ ?_ ?_
      · rintro rfl; have := far _ (.inl rfl); omega
      · rintro rfl; have := far _ (.inr (.inl rfl)); omega
      · rintro rfl; have := far _ (.inr (.inr rfl)); omega
    refine ⟨rfl, vi', e', ?_, ?_, ⟨fun x hx g hg => ?_, fun g hg => ?_⟩⟩
    · refine BK7.out.kept BUT8.out.size (Nat.le_refl _) BUT8.out.size ?_ ?_ ?_
      · exact same bk BK7.out.bS (.inl NB.out)
      · intro g hg
        refine same g (BK7.out.vS g hg).1 ?_
        rcases AP7.out.list g hg with h | h
        · exact .inl (NV.out g h)
        · exact .inr h
      · intro e he x hx g hg
        have hl := (entT_lt BK7.out he hx hg).1
        refine same g hl ?_
        rcases List.mem_append.1 he with h | h
        · exact .inl (by have := (entT_lt HBK.out h hx hg).1; rw [HB0.out]; exact this)
        · simp at h
          subst h
          exact .inr (AP7.out.ent x hx g hg)
    · refine ⟨BUT8.out.os.trans (KP7.out.os.trans B06.out.os), BUT8.out.tape.trans (KP7.out.tape.trans B06.out.tape), BUT8.out.output.trans (KP7.out.output.trans B06.out.output), Nat.le_trans B06.out.size (Nat.le_trans KP7.out.size BUT8.out.size), fun k hk h1 h2 => ?_⟩
      rw [← HB0.out] at hk
      rw [same k (Nat.lt_of_lt_of_le (by rw [← HB0.out]; exact hk) (Nat.le_trans B06.out.size KP7.out.size)) (.inl hk)]
      exact S7.out k hk h1 h2
    · have := AP7.out.ent x hx g hg
      have := LB.out
      rw [SIZ3.out] at *
      rw [← HB0.out]; omega
    · rcases AP7.out.list g hg with h | h
      · exact .inl h
      · refine .inr ?_
        have := LB.out
        rw [SIZ3.out] at h
        rw [← HB0.out]; omega
end Go.Proofs.YtdbebbbceeopaaaGreat

set_option linter.unusedSimpArgs false
namespace Go.Proofs.YtdbebbbceeopaaaGreat
open Go.RowKit

set_option maxRecDepth 100000 in
set_option maxHeartbeats 4000000 in
theorem upTo3 (w : World) (p : Option Addr) (n c : Nat) (hops : Ops w p n) :
    Calls Tryz.prog 13 #[.slice p n c, .int .i64 3, .int .i64 3] w fun e w' => e = .returned (.bool true) ∧ Below w.heap.size w w' := by
  have hn := hops.1
  have HOP := hid hops.2
  clear hops
  go_enter Tryz.func13, Tryz.ntmps13
  go_wp2_with fail
  obtain ⟨B, hB⟩ : ∃ B, B = w.heap.size := ⟨_, rfl⟩
  obtain ⟨W, hW⟩ : ∃ W : World, W = w.alloc (.cells #[.slice none 0 0, .slice none 0 0] 59) := ⟨_, rfl⟩
  rw [← hW]
  have bk0 : Bt W B W.heap.size B (.slice none 0 0) [] := by
    have hh : W.heap[B]? = some (.cells #[.slice none 0 0, .slice none 0 0] 59 (0, 0)) := by rw [hW, hB]; exact heap_new _ _
    exact ⟨Nat.le_refl _, heap_lt hh, Nat.le_refl _, heap_cell hh 1, fun o => heap_free hh o, heap_cell hh 0, World.ownsRow_nil _ _ _ _, (fun g hg => by cases hg), fun i e he => by simp at he⟩
  have bel0 : Below B w W := by rw [hW, hB]; exact (Below.refl _ _).alloc (Nat.le_refl _) _
  have HB := hid hB
  rw [← hB]
  have BK0 := hid bk0
  have BEL0 := hid bel0
  clear hB hW bk0 bel0
  go_loopw [8] (fun i wr => ∃ (m : Nat) (vi : Value) (es : List (List Value)), m ≤ 1 ∧ i = .int .i64 (3 + (m : Int)) ∧ es.length = m ∧ Hid (Bt wr B wr.heap.size B vi es) ∧ Hid (Below B w wr)) (fun i _ => 4 - (intOf i).toNat)
  case atStart => exact ⟨0, _, [], Nat.zero_le _, rfl, rfl, BK0, BEL0⟩
  case round =>
    obtain ⟨m, vi, es, hm, rfl, hes, hK, hW⟩ := hrel
    rcases (by omega : m = 0 ∨ m = 1) with rfl | rfl
    · rw [show (3 + ((0 : Nat) : Int)) = 3 from rfl]
      go_wp2_with fail
      refine (corners_kd 3 wr).mono ?_
      rintro e W2 ⟨bel2, siz2, rfl, ce1, ce2⟩
      have bk2 : Bt W2 B W2.heap.size B vi es := hK.out.below bel2 bel2.size (Nat.le_refl _)
      go_wp2_with fail
      have hbk := hK.out.bS
      refine (plays3 W2 B B vi es 1 1 _ _ _ 3 0 1 [0, 0, 0, 4, 4, 0] [] [0, 2, 1] (by omega) (by omega) (by omega) bk2 (by omega) (src_corners ce1) (src_nil _ _) (src_one ce2) ?hq).mono ?_
      case hq =>
        intro v hv a n c e hn
        simp at hv
        rcases hv with rfl | rfl | rfl
        · cases e
          exact ⟨by show wr.heap.size + 1 < _; omega, by show wr.heap.size + 1 ≠ _; omega, fun e => by have := (hK.out.vS _ e).1; simp at this; omega⟩
        · cases e
        · cases e
          exact ⟨by show wr.heap.size + 2 < _; omega, by show wr.heap.size + 2 ≠ _; omega, fun e => by have := (hK.out.vS _ e).1; simp at this; omega⟩
      rintro e W3 ⟨rfl, vi', e', bk3, kp3, _⟩
      have hB3 : Below B w W3 := hW.out.trans ((bel2.mono (Nat.le_of_lt hbk)).trans (kpt_below bk2 kp3))
      have BK3 := hid bk3
      have BEL3 := hid hB3
      clear bk2 bk3 kp3 hB3 ce1 ce2 bel2 siz2 hbk
      go_wp2_with fail
      exact ⟨⟨1, vi', es ++ [e'], Nat.le_refl _, rfl, by simp [hes], BK3, BEL3⟩, by simp [intOf]⟩
    · rw [show (3 + ((1 : Nat) : Int)) = 4 from rfl]
      go_wp2_with fail
      obtain ⟨W2, rfl⟩ : ∃ W2, W2 = wr := ⟨wr, rfl⟩
      go_loopw [10] (fun i wr => ∃ (k : Nat) (vi : Value) (es : List (List Value)), k ≤ n ∧ i = .int .i64 k ∧ es.length ≤ k + 1 ∧ Hid (Bt wr B wr.heap.size B vi es) ∧ Hid (Below B w wr)) (fun i _ => n - (intOf i).toNat)
      case atStart => exact ⟨0, vi, es, Nat.zero_le _, rfl, by omega, hK, hW⟩
      case round =>
        clear hK hW hes
        obtain ⟨k, vi, es, hk, rfl, hes, hK, hW⟩ := hrel
        by_cases hlt : k < n
        · obtain ⟨b, o, kd, x, y, v1, v2, v3, n1, n2, n3, z1, z2, z3, rfl, hO⟩ := HOP.out k hlt
          have HO := hid hO
          have hbB : b < B := by rw [HB.out]; exact World.block_lt_of_cell? w _ hO.c0
          have d0 : wr.cell? ⟨b, o + k * 6, none⟩ = some (.int .i64 kd) := (hW.out.cell hbB).trans hO.c0
          have d1 : wr.cell? ⟨b, o + k * 6 + 1, none⟩ = some v1 := (hW.out.cell hbB).trans hO.c1
          have d2 : wr.cell? ⟨b, o + k * 6 + 2, none⟩ = some v2 := (hW.out.cell hbB).trans hO.c2
          have d3 : wr.cell? ⟨b, o + k * 6 + 3, none⟩ = some v3 := (hW.out.cell hbB).trans hO.c3
          have d4 : wr.cell? ⟨b, o + k * 6 + 4, none⟩ = some (.int .i64 x) := (hW.out.cell hbB).trans hO.c4
          have d5 : wr.cell? ⟨b, o + k * 6 + 5, none⟩ = some (.int .i64 y) := (hW.out.cell hbB).trans hO.c5
          obtain ⟨p1, c1, rfl⟩ : ∃ p c, v1 = .slice p n1 c := by obtain ⟨_, p, c, e, _⟩ := hO.s1; exact ⟨p, c, e⟩
          obtain ⟨p2, c2, rfl⟩ : ∃ p c, v2 = .slice p n2 c := by obtain ⟨_, p, c, e, _⟩ := hO.s2; exact ⟨p, c, e⟩
          obtain ⟨p3, c3, rfl⟩ : ∃ p c, v3 = .slice p n3 c := by obtain ⟨_, p, c, e, _⟩ := hO.s3; exact ⟨p, c, e⟩
          have i0 : (k : Int) < n := by omega
          have BEL1 : Hid (Below B w (wr.alloc (.cells #[.int .i64 kd, .slice p1 n1 c1, .slice p2 n2 c2, .slice p3 n3 c3, .int .i64 x, .int .i64 y] 62))) := hid (hW.out.alloc (by have := hK.out.bS; omega) _)
          have BK1 : Hid (Bt (wr.alloc (.cells #[.int .i64 kd, .slice p1 n1 c1, .slice p2 n2 c2, .slice p3 n3 c3, .int .i64 x, .int .i64 y] 62)) B (wr.alloc (.cells #[.int .i64 kd, .slice p1 n1 c1, .slice p2 n2 c2, .slice p3 n3 c3, .int .i64 x, .int .i64 y] 62)).heap.size B vi es) :=
            hid (hK.out.below ((Below.refl _ _).alloc (Nat.le_refl _) _) (by rw [size_new]; omega) (Nat.le_refl _))
          clear hO
          rcases (by omega : kd = 3 ∨ kd < 3 ∨ 3 < kd) with rfl | hkd | hkd
          · go_wp2_with fail
            obtain ⟨W3, hW3⟩ : ∃ W3 : World, W3 = wr.alloc (.cells #[.int .i64 3, .slice p1 n1 c1, .slice p2 n2 c2, .slice p3 n3 c3, .int .i64 x, .int .i64 y] 62) := ⟨_, rfl⟩
            rw [← hW3] at BEL1 BK1 ⊢
            clear hW3 d0 d1 d2 d3 d4 d5
            have BW : Hid (Below w.heap.size w W3) := by rw [HB.out] at BEL1; exact BEL1
            refine (plays3 W3 B B vi es x y (.slice p1 n1 c1) (.slice p2 n2 c2) (.slice p3 n3 c3) n1 n2 n3 z1 z2 z3 HO.out.h1 HO.out.h2 HO.out.h3 BK1.out (by omega) (HO.out.s1.below BW.out) (HO.out.s2.below BW.out) (HO.out.s3.below BW.out) ?hq).mono ?_
            case hq =>
              intro v hv a n c e hn
              have hlt : a.block < w.heap.size := by
                simp at hv
                rcases hv with rfl | rfl | rfl
                · rw [e] at HO; exact HO.out.s1.lt (by omega) hn
                · rw [e] at HO; exact HO.out.s2.lt (by omega) hn
                · rw [e] at HO; exact HO.out.s3.lt (by omega) hn
              have := bt_ge BK1.out (k := a.block) (by rw [HB.out]; exact hlt)
              exact ⟨Nat.lt_of_lt_of_le hlt BW.out.size, this⟩
            rintro e W4 ⟨rfl, vi', e', bk4, kp4, _⟩
            have BK4 := hid bk4
            have BEL4 := hid (BEL1.out.trans (kpt_below BK1.out kp4))
            clear bk4 kp4
            go_wp2_with fail
            refine (looksT_any W4 B W4.heap.size B vi' (es ++ [e']) BK4.out (by simp; omega)).mono ?_
            rintro e W5 ⟨rfl, bel5⟩
            have BK5 := hid (BK4.out.below bel5 bel5.size (Nat.le_refl _))
            have BEL5 := hid (BEL4.out.trans (bel5.mono (Nat.le_of_lt BK4.out.bS)))
            clear bel5
            go_wp2_with fail
            exact ⟨⟨k + 1, vi', es ++ [e'], by omega, by go_num, by simp; omega, BK5, BEL5⟩, by simp [intOf]; omega⟩
          · have j1 : ¬ (3 : Int) ≤ kd := by omega
            go_wp2_with fail
            exact ⟨⟨k + 1, vi, es, by omega, by go_num, by omega, BK1, BEL1⟩, by simp [intOf]; omega⟩
          · have j1 : (3 : Int) ≤ kd := by omega
            have j2 : ¬ kd ≤ 3 := by omega
            go_wp2_with fail
            exact ⟨⟨k + 1, vi, es, by omega, by go_num, by omega, BK1, BEL1⟩, by simp [intOf]; omega⟩
        · have hkn : k = n := by omega
          subst hkn
          go_wp2_with fail
          go_ret
          exact ⟨rfl, by rw [← HB.out]; exact hW.out⟩

set_option maxRecDepth 100000 in
theorem bounds_any (w : World) (p : Option Addr) (n c : Nat) (hops : Ops w p n) :
    Calls Tryz.prog 9 #[.slice p n c] w fun e w' => e = .returned (.bool true) ∧ Below w.heap.size w w' := by
  have H := hid (upTo3 w p n c hops)
  clear hops
  go_enter Tryz.func9, Tryz.ntmps9
  go_wp2_with fail
  refine H.out.mono ?_
  rintro e w' ⟨rfl, hb⟩
  go_wp2_with fail
  go_ret
  exact ⟨rfl, hb⟩
end Go.Proofs.YtdbebbbceeopaaaGreat

set_option linter.unusedSimpArgs false
namespace Go.Proofs.YtdbebbbceeopaaaGreat
open Go.RowKit

/-- The whole book: the lists of numbers and those of triangles. -/
structure Bb (w : World) (B S bk : Nat) (vi : Value) (es : List (List Value)) (vt : Value) (ts : List (List Value)) : Prop where
  k : Bk w B S bk vi es vt
  t : Bt w B S bk vt ts vi
  d : ∀ g, vi.ownBlock = some g → vt.ownBlock ≠ some g
  de : ∀ e ∈ es, ∀ x ∈ e, ∀ g, x.ownBlock = some g → vt.ownBlock ≠ some g
  dt : ∀ e ∈ ts, ∀ x ∈ e, ∀ g, x.ownBlock = some g → vi.ownBlock ≠ some g

theorem Bb.below {w w' : World} {B S S' bk : Nat} {vi vt : Value} {es ts : List (List Value)} (h : Bb w B S bk vi es vt ts) (hb : Below S w w') (hS : S ≤ S') (hw : S' ≤ w'.heap.size) : Bb w' B S' bk vi es vt ts :=
  ⟨h.k.below hb hS hw, h.t.below hb hS hw, h.d, h.de, h.dt⟩

theorem Bb.ints {w w' : World} {B bk : Nat} {vi vi' vt : Value} {es ts : List (List Value)} {e' : List Value} (h : Bb w B w.heap.size bk vi es vt ts) (hk : Bk w' B w'.heap.size bk vi' (es ++ [e']) vt) (kp : Kp w w' w.heap.size bk vi) (ap : Ap w.heap.size vi vi' e') : Bb w' B w'.heap.size bk vi' (es ++ [e']) vt ts := by
  have hv : ∀ g, vt.ownBlock = some g → g < w.heap.size ∧ w'.heap[g]? = w.heap[g]? := fun g hg => ⟨(h.t.vS g hg).1, kp.block g (h.t.vS g hg).1 (h.t.vS g hg).2 fun e => h.d g e hg⟩
  have ht : ∀ e ∈ ts, ∀ x ∈ e, ∀ g, x.ownBlock = some g → g < w.heap.size ∧ w'.heap[g]? = w.heap[g]? := fun e he x hx g hg => ⟨(entT_lt h.t he hx hg).1, kp.block g (entT_lt h.t he hx hg).1 (entT_lt h.t he hx hg).2 (h.dt e he x hx g hg)⟩
  refine ⟨hk, ⟨hk.bB, hk.bS, hk.Sw, hk.c1, hk.f0, hk.c0, owns_kept h.t.own fun g hg => (hv g hg).2, fun g hg => ⟨Nat.lt_of_lt_of_le (hv g hg).1 kp.size, (h.t.vS g hg).2⟩, fun i e hi => ?_⟩, fun g hg hg' => ?_, fun e he x hx g hg hg' => ?_, fun e he x hx g hg hg' => ?_⟩
  · obtain ⟨l, a, b, c, rfl, hx⟩ := h.t.ent i e hi
    refine ⟨l, a, b, c, rfl, fun x hx' => ?_⟩
    obtain ⟨h1, h2⟩ := hx x hx'
    have hm : x ∈ [l, a, b, c, .int .i64 (-1000 - (i : Int))] := by simp at hx' ⊢; rcases hx' with h | h | h | h <;> simp [h]
    refine ⟨h1.kept kp.size fun g hg => (ht _ (List.mem_of_getElem? hi) x hm g hg).2, fun g hg => ?_⟩
    have := h2 g hg
    exact ⟨Nat.lt_of_lt_of_le this.1 kp.size, this.2⟩
  · rcases ap.list g hg with e | e
    · exact h.d g e hg'
    · have := (hv g hg').1; omega
  · rcases List.mem_append.1 he with e1 | e1
    · exact h.de e e1 x hx g hg hg'
    · simp at e1
      subst e1
      have := ap.ent x hx g hg
      have := (hv g hg').1
      omega
  · rcases ap.list g hg' with e1 | e1
    · exact h.dt e he x hx g hg e1
    · have := (ht e he x hx g hg).1; omega

theorem Bb.threes {w w' : World} {B bk : Nat} {vi vt vt' : Value} {es ts : List (List Value)} {e' : List Value} (h : Bb w B w.heap.size bk vi es vt ts) (hk : Bt w' B w'.heap.size bk vt' (ts ++ [e']) vi) (kp : Kp w w' w.heap.size bk vt) (ap : Ap w.heap.size vt vt' e') : Bb w' B w'.heap.size bk vi es vt' (ts ++ [e']) := by
  have hv : ∀ g, vi.ownBlock = some g → g < w.heap.size ∧ w'.heap[g]? = w.heap[g]? := fun g hg => ⟨(h.k.vS g hg).1, kp.block g (h.k.vS g hg).1 (h.k.vS g hg).2 (h.d g hg)⟩
  have ht : ∀ e ∈ es, ∀ x ∈ e, ∀ g, x.ownBlock = some g → g < w.heap.size ∧ w'.heap[g]? = w.heap[g]? := fun e he x hx g hg => ⟨(ent_lt h.k he hx hg).1, kp.block g (ent_lt h.k he hx hg).1 (ent_lt h.k he hx hg).2 (h.de e he x hx g hg)⟩
  refine ⟨⟨hk.bB, hk.bS, hk.Sw, hk.c0, hk.f1, hk.c1, owns_kept h.k.own fun g hg => (hv g hg).2, fun g hg => ⟨Nat.lt_of_lt_of_le (hv g hg).1 kp.size, (h.k.vS g hg).2⟩, fun i e hi => ?_⟩, hk, fun g hg hg' => ?_, fun e he x hx g hg hg' => ?_, fun e he x hx g hg hg' => ?_⟩
  · obtain ⟨l, a, b, c, rfl, hx⟩ := h.k.ent i e hi
    refine ⟨l, a, b, c, rfl, fun x hx' => ?_⟩
    obtain ⟨h1, h2⟩ := hx x hx'
    have hm : x ∈ [l, a, b, c, .int .i64 (-1000 - (i : Int))] := by simp at hx' ⊢; rcases hx' with h | h | h | h <;> simp [h]
    refine ⟨h1.kept kp.size fun g hg => (ht _ (List.mem_of_getElem? hi) x hm g hg).2, fun g hg => ?_⟩
    have := h2 g hg
    exact ⟨Nat.lt_of_lt_of_le this.1 kp.size, this.2⟩
  · rcases ap.list g hg' with e | e
    · exact h.d g hg e
    · have := (hv g hg).1; omega
  · rcases ap.list g hg' with e1 | e1
    · exact h.de e he x hx g hg e1
    · have := (ht e he x hx g hg).1; omega
  · rcases List.mem_append.1 he with e1 | e1
    · exact h.dt e e1 x hx g hg hg'
    · simp at e1
      subst e1
      have := ap.ent x hx g hg
      have := (hv g hg').1
      omega

set_option maxRecDepth 100000 in
set_option maxHeartbeats 2000000 in
theorem looksB_any (w : World) (B S bk : Nat) (vi vt : Value) (es ts : List (List Value)) (hBB : Bb w B S bk vi es vt ts) (he : es.length ≤ 10000000) (ht : ts.length ≤ 10000000) :
    Calls Tryz.prog 31 #[.pointer (some ⟨bk, 0, none⟩)] w fun e w' => e = .returned (.bool true) ∧ Below w.heap.size w w' := by
  have hB := hBB.k
  obtain ⟨a1, c1, hvi⟩ := owns_len68 hB.own
  obtain ⟨a2, c2, hvt⟩ := owns_len89 hBB.t.own
  have HBT := hid hBB.t
  have HVT := hid hvt
  have HBK := hid hB
  have hbk : bk < w.heap.size := Nat.lt_of_lt_of_le hB.bS hB.Sw
  have HC0 : Hid (w.cell? ⟨bk, 0, none⟩ = some (.slice a1 es.length c1)) := by rw [← hvi]; exact hB.c0
  have HC1 : Hid (w.cell? ⟨bk, 1, none⟩ = some (.slice a2 ts.length c2)) := by rw [← hvt]; exact hB.c1
  have HVI := hid hvi
  clear hB hvi hBB hvt
  obtain ⟨N, hN⟩ : ∃ N, N = es.length := ⟨_, rfl⟩
  have HN := hid hN
  rw [← hN] at HC0 he
  clear hN
  obtain ⟨M, hM⟩ : ∃ M, M = ts.length := ⟨_, rfl⟩
  have HM := hid hM
  rw [← hM] at HC1 ht
  clear hM
  go_enter Tryz.func31, Tryz.ntmps31
  go_wp2
  go_loopw [3] (fun i wr => ∃ k : Nat, k ≤ N ∧ i = .int .i64 k ∧ Below w.heap.size w wr) (fun i _ => N - (intOf i).toNat)
  case atStart => exact ⟨0, Nat.zero_le _, rfl, Below.refl _ _⟩
  case round =>
    obtain ⟨k, hk, rfl, hb⟩ := hrel
    have cb := (hb.cell (p := ⟨bk, 0, none⟩) hbk).trans HC0.out
    have cb1 := (hb.cell (p := ⟨bk, 1, none⟩) hbk).trans HC1.out
    by_cases hkN : k < N
    · obtain ⟨e, hek⟩ : ∃ e, es[k]? = some e := ⟨_, List.getElem?_eq_getElem (by rw [← HN.out]; exact hkN)⟩
      obtain ⟨l, a, b, c, rfl, hx⟩ := HBK.out.ent k e hek
      have h5 : ∀ (i : Nat) (e : List Value), es[i]? = some e → e.length = 5 := by
        intro i e h
        obtain ⟨_, _, _, _, rfl, _⟩ := HBK.out.ent i e h
        rfl
      have hfl := flat_get es h5 k _ hek
      have hown := HBK.out.own
      rcases hown.2 with ⟨_, h0⟩ | ⟨gi, cap, cur, hv, _, hh, _⟩
      · have := HN.out; omega
      · have hvv : (Value.slice a1 es.length c1) = .slice (some ⟨gi, 0, none⟩) es.length cap := by rw [← HVI.out]; exact hv
        simp only [Value.slice.injEq, true_and] at hvv
        obtain ⟨rfl, rfl⟩ := hvv
        rw [hv] at hown
        have hgi := (Array.getElem?_eq_some_iff.1 hh).1
        have ec : ∀ j, j < 5 → wr.cell? ⟨gi, k * 5 + j, none⟩ = [l, a, b, c, .int .i64 (-1000 - (k : Int))][j]? := by
          intro j hj
          rw [hb.cell (by exact hgi), hown.cellAt (k * 5 + j) (by rw [← HN.out]; omega), hfl j hj]
        have e0 : wr.cell? ⟨gi, k * 5, none⟩ = some l := ec 0 (by omega)
        have e1 : wr.cell? ⟨gi, k * 5 + 1, none⟩ = some a := ec 1 (by omega)
        have e2 : wr.cell? ⟨gi, k * 5 + 2, none⟩ = some b := ec 2 (by omega)
        have e3 : wr.cell? ⟨gi, k * 5 + 3, none⟩ = some c := ec 3 (by omega)
        have e4 : wr.cell? ⟨gi, k * 5 + 4, none⟩ = some (.int .i64 (-1000 - (k : Int))) := ec 4 (by omega)
        have fl := (hx l (by simp)).1
        have fa := (hx a (by simp)).1
        have fb := (hx b (by simp)).1
        have fc := (hx c (by simp)).1
        obtain ⟨p1, n1, q1, rfl⟩ := fl.shape
        obtain ⟨p2, n2, q2, rfl⟩ := fa.shape
        obtain ⟨p3, n3, q3, rfl⟩ := fb.shape
        obtain ⟨p4, n4, q4, rfl⟩ := fc.shape
        have F := hid (fun (W : World) (hW : Below w.heap.size w W) => And.intro (fullInts_any _ _ W (fl.below hW)) (And.intro (fullInts_any _ _ W (fa.below hW)) (And.intro (fullInts_any _ _ W (fb.below hW)) (fullInts_any _ _ W (fc.below hW)))))
        generalize -1000 - (k : Int) = m at *
        have HB := hid hb
        have hk' : (k : Int) < N := by omega
        clear hfl hown hh ec fl fa fb fc hx hek h5 hv hb
        have G := hid (F.out (wr.alloc (.cells #[.slice p1 n1 q1, .slice p2 n2 q2, .slice p3 n3 q3, .slice p4 n4 q4, .int .i64 m] 87)) (HB.out.alloc HB.out.size _))
        go_wp2_with fail
        refine (G.out.1).mono ?_
        rintro e w' ⟨rfl, rfl⟩
        go_wp2_with fail
        refine (G.out.2.1).mono ?_
        rintro e w' ⟨rfl, rfl⟩
        go_wp2_with fail
        refine (G.out.2.2.1).mono ?_
        rintro e w' ⟨rfl, rfl⟩
        go_wp2_with fail
        refine (G.out.2.2.2).mono ?_
        rintro e w' ⟨rfl, rfl⟩
        go_wp2_with fail
        go_roundw
        case rel => exact ⟨k + 1, by omega, by go_num, HB.out.alloc HB.out.size _⟩
        case measure => simp [intOf]; omega
    · have : k = N := by omega
      subst this
      have HB := hid hb
      have i0 : ¬ (k : Int) < k := by omega
      clear hb
      go_wp2_with fail
      obtain ⟨W2, rfl⟩ : ∃ W2, W2 = wr := ⟨wr, rfl⟩
      go_loopw [5] (fun i wr => ∃ k : Nat, k ≤ M ∧ i = .int .i64 k ∧ Below w.heap.size w wr) (fun i _ => M - (intOf i).toNat)
      case atStart => exact ⟨0, Nat.zero_le _, rfl, HB.out⟩
      case round =>
        clear HB
        obtain ⟨k, hk, rfl, hb⟩ := hrel
        have cb := (hb.cell (p := ⟨bk, 1, none⟩) hbk).trans HC1.out
        by_cases hkM : k < M
        · obtain ⟨e, hek⟩ : ∃ e, ts[k]? = some e := ⟨_, List.getElem?_eq_getElem (by rw [← HM.out]; exact hkM)⟩
          obtain ⟨l, a, b, c, rfl, hx⟩ := HBT.out.ent k e hek
          have h5 : ∀ (i : Nat) (e : List Value), ts[i]? = some e → e.length = 5 := by
            intro i e h
            obtain ⟨_, _, _, _, rfl, _⟩ := HBT.out.ent i e h
            rfl
          have hfl := flat_get ts h5 k _ hek
          have hown := HBT.out.own
          rcases hown.2 with ⟨_, h0⟩ | ⟨gi, cap, cur, hv, _, hh, _⟩
          · have := HM.out; omega
          · have hvv : (Value.slice a2 ts.length c2) = .slice (some ⟨gi, 0, none⟩) ts.length cap := by rw [← HVT.out]; exact hv
            simp only [Value.slice.injEq, true_and] at hvv
            obtain ⟨rfl, rfl⟩ := hvv
            rw [hv] at hown
            have hgi := (Array.getElem?_eq_some_iff.1 hh).1
            have ec : ∀ j, j < 5 → wr.cell? ⟨gi, k * 5 + j, none⟩ = [l, a, b, c, .int .i64 (-1000 - (k : Int))][j]? := by
              intro j hj
              rw [hb.cell (by exact hgi), hown.cellAt (k * 5 + j) (by rw [← HM.out]; omega), hfl j hj]
            have e0 : wr.cell? ⟨gi, k * 5, none⟩ = some l := ec 0 (by omega)
            have e1 : wr.cell? ⟨gi, k * 5 + 1, none⟩ = some a := ec 1 (by omega)
            have e2 : wr.cell? ⟨gi, k * 5 + 2, none⟩ = some b := ec 2 (by omega)
            have e3 : wr.cell? ⟨gi, k * 5 + 3, none⟩ = some c := ec 3 (by omega)
            have e4 : wr.cell? ⟨gi, k * 5 + 4, none⟩ = some (.int .i64 (-1000 - (k : Int))) := ec 4 (by omega)
            have fl := (hx l (by simp)).1
            have fa := (hx a (by simp)).1
            have fb := (hx b (by simp)).1
            have fc := (hx c (by simp)).1
            obtain ⟨p1, n1, q1, rfl⟩ := fl.shape
            obtain ⟨p2, n2, q2, rfl⟩ := fa.shape
            obtain ⟨p3, n3, q3, rfl⟩ := fb.shape
            obtain ⟨p4, n4, q4, rfl⟩ := fc.shape
            have F := hid (fun (W : World) (hW : Below w.heap.size w W) => And.intro (fullThrees_any _ _ W (fl.below hW)) (And.intro (fullThrees_any _ _ W (fa.below hW)) (And.intro (fullThrees_any _ _ W (fb.below hW)) (fullThrees_any _ _ W (fc.below hW)))))
            generalize -1000 - (k : Int) = m at *
            have HB := hid hb
            have hk' : (k : Int) < M := by omega
            clear hfl hown hh ec fl fa fb fc hx hek h5 hv hb
            have G := hid (F.out (wr.alloc (.cells #[.slice p1 n1 q1, .slice p2 n2 q2, .slice p3 n3 q3, .slice p4 n4 q4, .int .i64 m] 89)) (HB.out.alloc HB.out.size _))
            go_wp2_with fail
            refine (G.out.1).mono ?_
            rintro e w' ⟨rfl, rfl⟩
            go_wp2_with fail
            refine (G.out.2.1).mono ?_
            rintro e w' ⟨rfl, rfl⟩
            go_wp2_with fail
            refine (G.out.2.2.1).mono ?_
            rintro e w' ⟨rfl, rfl⟩
            go_wp2_with fail
            refine (G.out.2.2.2).mono ?_
            rintro e w' ⟨rfl, rfl⟩
            go_wp2_with fail
            go_roundw
            case rel => exact ⟨k + 1, by omega, by go_num, HB.out.alloc HB.out.size _⟩
            case measure => simp [intOf]; omega
        · have : k = M := by omega
          subst this
          have HB := hid hb
          clear hb
          go_wp2
          go_ret
          exact ⟨rfl, HB.out⟩
end Go.Proofs.YtdbebbbceeopaaaGreat

set_option linter.unusedSimpArgs false
namespace Go.Proofs.YtdbebbbceeopaaaGreat
open Go.RowKit

set_option maxRecDepth 100000 in
set_option maxHeartbeats 8000000 in
theorem upToAll (w : World) (p : Option Addr) (n c : Nat) (hops : Ops w p n) :
    Calls Tryz.prog 13 #[.slice p n c, .int .i64 1, .int .i64 4] w fun e w' => e = .returned (.bool true) ∧ Below w.heap.size w w' := by
  have hn := hops.1
  have HOP := hid hops.2
  clear hops
  go_enter Tryz.func13, Tryz.ntmps13
  go_wp2_with fail
  obtain ⟨B, hB⟩ : ∃ B, B = w.heap.size := ⟨_, rfl⟩
  obtain ⟨W, hW⟩ : ∃ W : World, W = w.alloc (.cells #[.slice none 0 0, .slice none 0 0] 59) := ⟨_, rfl⟩
  rw [← hW]
  have bk0 : Bb W B W.heap.size B (.slice none 0 0) [] (.slice none 0 0) [] := by
    have hh : W.heap[B]? = some (.cells #[.slice none 0 0, .slice none 0 0] 59 (0, 0)) := by rw [hW, hB]; exact heap_new _ _
    exact ⟨⟨Nat.le_refl _, heap_lt hh, Nat.le_refl _, heap_cell hh 0, fun o => heap_free hh o, heap_cell hh 1, World.ownsRow_nil _ _ _ _, (fun g hg => by cases hg), fun i e he => by simp at he⟩,
      ⟨Nat.le_refl _, heap_lt hh, Nat.le_refl _, heap_cell hh 1, fun o => heap_free hh o, heap_cell hh 0, World.ownsRow_nil _ _ _ _, (fun g hg => by cases hg), fun i e he => by simp at he⟩,
      (fun g hg => by cases hg), (fun e he => by cases he), (fun e he => by cases he)⟩
  have bel0 : Below B w W := by rw [hW, hB]; exact (Below.refl _ _).alloc (Nat.le_refl _) _
  have HB := hid hB
  rw [← hB]
  have BK0 := hid bk0
  have BEL0 := hid bel0
  clear hB hW bk0 bel0
  go_loopw [8] (fun i wr => ∃ (m : Nat) (vi : Value) (es : List (List Value)) (vt : Value) (ts : List (List Value)), m ≤ 4 ∧ i = .int .i64 (1 + (m : Int)) ∧ es.length ≤ m ∧ ts.length ≤ m ∧ Hid (Bb wr B wr.heap.size B vi es vt ts) ∧ Hid (Below B w wr)) (fun i _ => 5 - (intOf i).toNat)
  case atStart => exact ⟨0, _, [], _, [], Nat.zero_le _, rfl, Nat.le_refl _, Nat.le_refl _, BK0, BEL0⟩
  case round =>
    obtain ⟨m, vi, es, vt, ts, hm, rfl, hes, hts, hK, hW⟩ := hrel
    rcases (by omega : m = 0 ∨ m = 1 ∨ m = 2 ∨ m = 3 ∨ m = 4) with rfl | rfl | rfl | rfl | rfl
    · rw [show (1 + ((0 : Nat) : Int)) = 1 from rfl]
      go_wp2_with fail
      refine (corners_kd 1 wr).mono ?_
      rintro e W2 ⟨bel2, siz2, rfl, ce1, ce2⟩
      have bk2 : Bb W2 B W2.heap.size B vi es vt ts := hK.out.below bel2 bel2.size (Nat.le_refl _)
      go_wp2_with fail
      have hbk := hK.out.k.bS
      refine (plays1 W2 B B vi es 1 1 _ _ _ 3 0 1 [0, 0, 0, 4, 4, 0] [] [0, 2, 1] (by omega) (by omega) (by omega) bk2.k (by omega) (src_corners ce1) (src_nil _ _) (src_one ce2) ?hq).mono ?_
      case hq =>
        intro v hv a n c e hn
        simp at hv
        rcases hv with rfl | rfl | rfl
        · cases e
          exact ⟨by show wr.heap.size + 1 < _; omega, by show wr.heap.size + 1 ≠ _; omega, fun e => by have := (hK.out.k.vS _ e).1; simp at this; omega⟩
        · cases e
        · cases e
          exact ⟨by show wr.heap.size + 2 < _; omega, by show wr.heap.size + 2 ≠ _; omega, fun e => by have := (hK.out.k.vS _ e).1; simp at this; omega⟩
      rintro e W3 ⟨rfl, v', e', bk3, kp3, ap3⟩
      have hB3 : Below B w W3 := hW.out.trans ((bel2.mono (Nat.le_of_lt hbk)).trans (kp_below bk2.k kp3))
      have BK3 := hid (bk2.ints bk3 kp3 ap3)
      have BEL3 := hid hB3
      clear bk2 bk3 kp3 ap3 hB3 ce1 ce2 bel2 siz2 hbk
      go_wp2_with fail
      exact ⟨⟨1, v', es ++ [e'], vt, ts, by omega, rfl, by rw [List.length_append, List.length_singleton]; omega, by omega, BK3, BEL3⟩, by simp [intOf]⟩
    · rw [show (1 + ((1 : Nat) : Int)) = 2 from rfl]
      go_wp2_with fail
      refine (corners_kd 2 wr).mono ?_
      rintro e W2 ⟨bel2, siz2, rfl, ce1, ce2⟩
      have bk2 : Bb W2 B W2.heap.size B vi es vt ts := hK.out.below bel2 bel2.size (Nat.le_refl _)
      go_wp2_with fail
      have hbk := hK.out.k.bS
      refine (plays2 W2 B B vt ts 1 1 _ _ _ 3 0 1 [0, 0, 0, 4, 4, 0] [] [0, 2, 1] (by omega) (by omega) (by omega) bk2.t (by omega) (src_corners ce1) (src_nil _ _) (src_one ce2) ?hq).mono ?_
      case hq =>
        intro v hv a n c e hn
        simp at hv
        rcases hv with rfl | rfl | rfl
        · cases e
          exact ⟨by show wr.heap.size + 1 < _; omega, by show wr.heap.size + 1 ≠ _; omega, fun e => by have := (hK.out.t.vS _ e).1; simp at this; omega⟩
        · cases e
        · cases e
          exact ⟨by show wr.heap.size + 2 < _; omega, by show wr.heap.size + 2 ≠ _; omega, fun e => by have := (hK.out.t.vS _ e).1; simp at this; omega⟩
      rintro e W3 ⟨rfl, v', e', bk3, kp3, ap3⟩
      have hB3 : Below B w W3 := hW.out.trans ((bel2.mono (Nat.le_of_lt hbk)).trans (kpt_below bk2.t kp3))
      have BK3 := hid (bk2.threes bk3 kp3 ap3)
      have BEL3 := hid hB3
      clear bk2 bk3 kp3 ap3 hB3 ce1 ce2 bel2 siz2 hbk
      go_wp2_with fail
      exact ⟨⟨2, vi, es, v', ts ++ [e'], by omega, rfl, by omega, by rw [List.length_append, List.length_singleton]; omega, BK3, BEL3⟩, by simp [intOf]⟩
    · rw [show (1 + ((2 : Nat) : Int)) = 3 from rfl]
      go_wp2_with fail
      refine (corners_kd 3 wr).mono ?_
      rintro e W2 ⟨bel2, siz2, rfl, ce1, ce2⟩
      have bk2 : Bb W2 B W2.heap.size B vi es vt ts := hK.out.below bel2 bel2.size (Nat.le_refl _)
      go_wp2_with fail
      have hbk := hK.out.k.bS
      refine (plays3 W2 B B vt ts 1 1 _ _ _ 3 0 1 [0, 0, 0, 4, 4, 0] [] [0, 2, 1] (by omega) (by omega) (by omega) bk2.t (by omega) (src_corners ce1) (src_nil _ _) (src_one ce2) ?hq).mono ?_
      case hq =>
        intro v hv a n c e hn
        simp at hv
        rcases hv with rfl | rfl | rfl
        · cases e
          exact ⟨by show wr.heap.size + 1 < _; omega, by show wr.heap.size + 1 ≠ _; omega, fun e => by have := (hK.out.t.vS _ e).1; simp at this; omega⟩
        · cases e
        · cases e
          exact ⟨by show wr.heap.size + 2 < _; omega, by show wr.heap.size + 2 ≠ _; omega, fun e => by have := (hK.out.t.vS _ e).1; simp at this; omega⟩
      rintro e W3 ⟨rfl, v', e', bk3, kp3, ap3⟩
      have hB3 : Below B w W3 := hW.out.trans ((bel2.mono (Nat.le_of_lt hbk)).trans (kpt_below bk2.t kp3))
      have BK3 := hid (bk2.threes bk3 kp3 ap3)
      have BEL3 := hid hB3
      clear bk2 bk3 kp3 ap3 hB3 ce1 ce2 bel2 siz2 hbk
      go_wp2_with fail
      exact ⟨⟨3, vi, es, v', ts ++ [e'], by omega, rfl, by omega, by rw [List.length_append, List.length_singleton]; omega, BK3, BEL3⟩, by simp [intOf]⟩
    · rw [show (1 + ((3 : Nat) : Int)) = 4 from rfl]
      go_wp2_with fail
      refine (corners_kd 4 wr).mono ?_
      rintro e W2 ⟨bel2, siz2, rfl, ce1, ce2⟩
      have bk2 : Bb W2 B W2.heap.size B vi es vt ts := hK.out.below bel2 bel2.size (Nat.le_refl _)
      go_wp2_with fail
      have hbk := hK.out.k.bS
      refine (plays4 W2 B 1 1 _ _ _ 3 0 1 [0, 0, 0, 4, 4, 0] [] [0, 2, 1] (by omega) (by omega) (by omega) (src_corners ce1) (src_nil _ _) (src_one ce2)).mono ?_
      rintro e W3 ⟨rfl, bel3⟩
      have BK3 := hid (bk2.below bel3 bel3.size (Nat.le_refl _))
      have BEL3 : Hid (Below B w W3) := hid (hW.out.trans ((bel2.mono (Nat.le_of_lt hbk)).trans (bel3.mono (Nat.le_trans (Nat.le_of_lt hbk) bel2.size))))
      clear bk2 bel3 ce1 ce2 bel2 siz2 hbk
      go_wp2_with fail
      exact ⟨⟨4, vi, es, vt, ts, by omega, rfl, by omega, by omega, BK3, BEL3⟩, by simp [intOf]⟩
    · rw [show (1 + ((4 : Nat) : Int)) = 5 from rfl]
      go_wp2_with fail
      obtain ⟨W2, rfl⟩ : ∃ W2, W2 = wr := ⟨wr, rfl⟩
      go_loopw [10] (fun i wr => ∃ (k : Nat) (vi : Value) (es : List (List Value)) (vt : Value) (ts : List (List Value)), k ≤ n ∧ i = .int .i64 k ∧ es.length ≤ k + 4 ∧ ts.length ≤ k + 4 ∧ Hid (Bb wr B wr.heap.size B vi es vt ts) ∧ Hid (Below B w wr)) (fun i _ => n - (intOf i).toNat)
      case atStart => exact ⟨0, vi, es, vt, ts, Nat.zero_le _, rfl, by omega, by omega, hK, hW⟩
      case round =>
        clear hK hW hes hts
        obtain ⟨k, vi, es, vt, ts, hk, rfl, hes, hts, hK, hW⟩ := hrel
        by_cases hlt : k < n
        · obtain ⟨b, o, kd, x, y, v1, v2, v3, n1, n2, n3, z1, z2, z3, rfl, hO⟩ := HOP.out k hlt
          have HO := hid hO
          have hbB : b < B := by rw [HB.out]; exact World.block_lt_of_cell? w _ hO.c0
          have d0 : wr.cell? ⟨b, o + k * 6, none⟩ = some (.int .i64 kd) := (hW.out.cell hbB).trans hO.c0
          have d1 : wr.cell? ⟨b, o + k * 6 + 1, none⟩ = some v1 := (hW.out.cell hbB).trans hO.c1
          have d2 : wr.cell? ⟨b, o + k * 6 + 2, none⟩ = some v2 := (hW.out.cell hbB).trans hO.c2
          have d3 : wr.cell? ⟨b, o + k * 6 + 3, none⟩ = some v3 := (hW.out.cell hbB).trans hO.c3
          have d4 : wr.cell? ⟨b, o + k * 6 + 4, none⟩ = some (.int .i64 x) := (hW.out.cell hbB).trans hO.c4
          have d5 : wr.cell? ⟨b, o + k * 6 + 5, none⟩ = some (.int .i64 y) := (hW.out.cell hbB).trans hO.c5
          obtain ⟨p1, c1, rfl⟩ : ∃ p c, v1 = .slice p n1 c := by obtain ⟨_, p, c, e, _⟩ := hO.s1; exact ⟨p, c, e⟩
          obtain ⟨p2, c2, rfl⟩ : ∃ p c, v2 = .slice p n2 c := by obtain ⟨_, p, c, e, _⟩ := hO.s2; exact ⟨p, c, e⟩
          obtain ⟨p3, c3, rfl⟩ : ∃ p c, v3 = .slice p n3 c := by obtain ⟨_, p, c, e, _⟩ := hO.s3; exact ⟨p, c, e⟩
          have i0 : (k : Int) < n := by omega
          have BEL1 : Hid (Below B w (wr.alloc (.cells #[.int .i64 kd, .slice p1 n1 c1, .slice p2 n2 c2, .slice p3 n3 c3, .int .i64 x, .int .i64 y] 62))) := hid (hW.out.alloc (by have := hK.out.k.bS; omega) _)
          have BK1 : Hid (Bb (wr.alloc (.cells #[.int .i64 kd, .slice p1 n1 c1, .slice p2 n2 c2, .slice p3 n3 c3, .int .i64 x, .int .i64 y] 62)) B (wr.alloc (.cells #[.int .i64 kd, .slice p1 n1 c1, .slice p2 n2 c2, .slice p3 n3 c3, .int .i64 x, .int .i64 y] 62)).heap.size B vi es vt ts) :=
            hid (hK.out.below ((Below.refl _ _).alloc (Nat.le_refl _) _) (by rw [size_new]; omega) (Nat.le_refl _))
          clear hO
          rcases (by omega : kd = 1 ∨ kd = 2 ∨ kd = 3 ∨ kd = 4 ∨ kd < 1 ∨ 4 < kd) with rfl | rfl | rfl | rfl | hkd | hkd
          · go_wp2_with fail
            obtain ⟨W3, hW3⟩ : ∃ W3 : World, W3 = wr.alloc (.cells #[.int .i64 1, .slice p1 n1 c1, .slice p2 n2 c2, .slice p3 n3 c3, .int .i64 x, .int .i64 y] 62) := ⟨_, rfl⟩
            rw [← hW3] at BEL1 BK1 ⊢
            clear hW3 d0 d1 d2 d3 d4 d5
            have BW : Hid (Below w.heap.size w W3) := by rw [HB.out] at BEL1; exact BEL1
            refine (plays1 W3 B B vi es x y (.slice p1 n1 c1) (.slice p2 n2 c2) (.slice p3 n3 c3) n1 n2 n3 z1 z2 z3 HO.out.h1 HO.out.h2 HO.out.h3 BK1.out.k (by omega) (HO.out.s1.below BW.out) (HO.out.s2.below BW.out) (HO.out.s3.below BW.out) ?hq).mono ?_
            case hq =>
              intro v hv a n c e hn
              have hlt : a.block < w.heap.size := by
                simp at hv
                rcases hv with rfl | rfl | rfl
                · rw [e] at HO; exact HO.out.s1.lt (by omega) hn
                · rw [e] at HO; exact HO.out.s2.lt (by omega) hn
                · rw [e] at HO; exact HO.out.s3.lt (by omega) hn
              have := bk_ge BK1.out.k (k := a.block) (by rw [HB.out]; exact hlt)
              exact ⟨Nat.lt_of_lt_of_le hlt BW.out.size, this⟩
            rintro e W4 ⟨rfl, v', e', bk4, kp4, ap4⟩
            have BK4 := hid (BK1.out.ints bk4 kp4 ap4)
            have BEL4 := hid (BEL1.out.trans (kp_below BK1.out.k kp4))
            clear bk4 kp4 ap4
            go_wp2_with fail
            refine (looksB_any W4 B W4.heap.size B v' vt (es ++ [e']) ts BK4.out (by rw [List.length_append, List.length_singleton]; omega) (by omega)).mono ?_
            rintro e W5 ⟨rfl, bel5⟩
            have BK5 := hid (BK4.out.below bel5 bel5.size (Nat.le_refl _))
            have BEL5 := hid (BEL4.out.trans (bel5.mono (Nat.le_of_lt BK4.out.k.bS)))
            clear bel5
            go_wp2_with fail
            exact ⟨⟨k + 1, v', es ++ [e'], vt, ts, by omega, by go_num, by rw [List.length_append, List.length_singleton]; omega, by omega, BK5, BEL5⟩, by simp [intOf]; omega⟩
          · go_wp2_with fail
            obtain ⟨W3, hW3⟩ : ∃ W3 : World, W3 = wr.alloc (.cells #[.int .i64 2, .slice p1 n1 c1, .slice p2 n2 c2, .slice p3 n3 c3, .int .i64 x, .int .i64 y] 62) := ⟨_, rfl⟩
            rw [← hW3] at BEL1 BK1 ⊢
            clear hW3 d0 d1 d2 d3 d4 d5
            have BW : Hid (Below w.heap.size w W3) := by rw [HB.out] at BEL1; exact BEL1
            refine (plays2 W3 B B vt ts x y (.slice p1 n1 c1) (.slice p2 n2 c2) (.slice p3 n3 c3) n1 n2 n3 z1 z2 z3 HO.out.h1 HO.out.h2 HO.out.h3 BK1.out.t (by omega) (HO.out.s1.below BW.out) (HO.out.s2.below BW.out) (HO.out.s3.below BW.out) ?hq).mono ?_
            case hq =>
              intro v hv a n c e hn
              have hlt : a.block < w.heap.size := by
                simp at hv
                rcases hv with rfl | rfl | rfl
                · rw [e] at HO; exact HO.out.s1.lt (by omega) hn
                · rw [e] at HO; exact HO.out.s2.lt (by omega) hn
                · rw [e] at HO; exact HO.out.s3.lt (by omega) hn
              have := bt_ge BK1.out.t (k := a.block) (by rw [HB.out]; exact hlt)
              exact ⟨Nat.lt_of_lt_of_le hlt BW.out.size, this⟩
            rintro e W4 ⟨rfl, v', e', bk4, kp4, ap4⟩
            have BK4 := hid (BK1.out.threes bk4 kp4 ap4)
            have BEL4 := hid (BEL1.out.trans (kpt_below BK1.out.t kp4))
            clear bk4 kp4 ap4
            go_wp2_with fail
            refine (looksB_any W4 B W4.heap.size B vi v' es (ts ++ [e']) BK4.out (by omega) (by rw [List.length_append, List.length_singleton]; omega)).mono ?_
            rintro e W5 ⟨rfl, bel5⟩
            have BK5 := hid (BK4.out.below bel5 bel5.size (Nat.le_refl _))
            have BEL5 := hid (BEL4.out.trans (bel5.mono (Nat.le_of_lt BK4.out.k.bS)))
            clear bel5
            go_wp2_with fail
            exact ⟨⟨k + 1, vi, es, v', ts ++ [e'], by omega, by go_num, by omega, by rw [List.length_append, List.length_singleton]; omega, BK5, BEL5⟩, by simp [intOf]; omega⟩
          · go_wp2_with fail
            obtain ⟨W3, hW3⟩ : ∃ W3 : World, W3 = wr.alloc (.cells #[.int .i64 3, .slice p1 n1 c1, .slice p2 n2 c2, .slice p3 n3 c3, .int .i64 x, .int .i64 y] 62) := ⟨_, rfl⟩
            rw [← hW3] at BEL1 BK1 ⊢
            clear hW3 d0 d1 d2 d3 d4 d5
            have BW : Hid (Below w.heap.size w W3) := by rw [HB.out] at BEL1; exact BEL1
            refine (plays3 W3 B B vt ts x y (.slice p1 n1 c1) (.slice p2 n2 c2) (.slice p3 n3 c3) n1 n2 n3 z1 z2 z3 HO.out.h1 HO.out.h2 HO.out.h3 BK1.out.t (by omega) (HO.out.s1.below BW.out) (HO.out.s2.below BW.out) (HO.out.s3.below BW.out) ?hq).mono ?_
            case hq =>
              intro v hv a n c e hn
              have hlt : a.block < w.heap.size := by
                simp at hv
                rcases hv with rfl | rfl | rfl
                · rw [e] at HO; exact HO.out.s1.lt (by omega) hn
                · rw [e] at HO; exact HO.out.s2.lt (by omega) hn
                · rw [e] at HO; exact HO.out.s3.lt (by omega) hn
              have := bt_ge BK1.out.t (k := a.block) (by rw [HB.out]; exact hlt)
              exact ⟨Nat.lt_of_lt_of_le hlt BW.out.size, this⟩
            rintro e W4 ⟨rfl, v', e', bk4, kp4, ap4⟩
            have BK4 := hid (BK1.out.threes bk4 kp4 ap4)
            have BEL4 := hid (BEL1.out.trans (kpt_below BK1.out.t kp4))
            clear bk4 kp4 ap4
            go_wp2_with fail
            refine (looksB_any W4 B W4.heap.size B vi v' es (ts ++ [e']) BK4.out (by omega) (by rw [List.length_append, List.length_singleton]; omega)).mono ?_
            rintro e W5 ⟨rfl, bel5⟩
            have BK5 := hid (BK4.out.below bel5 bel5.size (Nat.le_refl _))
            have BEL5 := hid (BEL4.out.trans (bel5.mono (Nat.le_of_lt BK4.out.k.bS)))
            clear bel5
            go_wp2_with fail
            exact ⟨⟨k + 1, vi, es, v', ts ++ [e'], by omega, by go_num, by omega, by rw [List.length_append, List.length_singleton]; omega, BK5, BEL5⟩, by simp [intOf]; omega⟩
          · go_wp2_with fail
            obtain ⟨W3, hW3⟩ : ∃ W3 : World, W3 = wr.alloc (.cells #[.int .i64 4, .slice p1 n1 c1, .slice p2 n2 c2, .slice p3 n3 c3, .int .i64 x, .int .i64 y] 62) := ⟨_, rfl⟩
            rw [← hW3] at BEL1 BK1 ⊢
            clear hW3 d0 d1 d2 d3 d4 d5
            have BW : Hid (Below w.heap.size w W3) := by rw [HB.out] at BEL1; exact BEL1
            refine (plays4 W3 B x y (.slice p1 n1 c1) (.slice p2 n2 c2) (.slice p3 n3 c3) n1 n2 n3 z1 z2 z3 HO.out.h1 HO.out.h2 HO.out.h3 (HO.out.s1.below BW.out) (HO.out.s2.below BW.out) (HO.out.s3.below BW.out)).mono ?_
            rintro e W4 ⟨rfl, bel4⟩
            have BK4 := hid (BK1.out.below bel4 bel4.size (Nat.le_refl _))
            have BEL4 := hid (BEL1.out.trans (bel4.mono (Nat.le_of_lt BK1.out.k.bS)))
            clear bel4
            go_wp2_with fail
            refine (looksB_any W4 B W4.heap.size B vi vt es ts BK4.out (by omega) (by omega)).mono ?_
            rintro e W5 ⟨rfl, bel5⟩
            have BK5 := hid (BK4.out.below bel5 bel5.size (Nat.le_refl _))
            have BEL5 := hid (BEL4.out.trans (bel5.mono (Nat.le_of_lt BK4.out.k.bS)))
            clear bel5
            go_wp2_with fail
            exact ⟨⟨k + 1, vi, es, vt, ts, by omega, by go_num, by omega, by omega, BK5, BEL5⟩, by simp [intOf]; omega⟩
          · have j1 : ¬ (1 : Int) ≤ kd := by omega
            go_wp2_with fail
            exact ⟨⟨k + 1, vi, es, vt, ts, by omega, by go_num, by omega, by omega, BK1, BEL1⟩, by simp [intOf]; omega⟩
          · have j1 : (1 : Int) ≤ kd := by omega
            have j2 : ¬ kd ≤ 4 := by omega
            go_wp2_with fail
            exact ⟨⟨k + 1, vi, es, vt, ts, by omega, by go_num, by omega, by omega, BK1, BEL1⟩, by simp [intOf]; omega⟩
        · have hkn : k = n := by omega
          subst hkn
          go_wp2_with fail
          go_ret
          exact ⟨rfl, by rw [← HB.out]; exact hW.out⟩

set_option maxRecDepth 100000 in
theorem all_any (w : World) (p : Option Addr) (n c : Nat) (hops : Ops w p n) :
    Calls Tryz.prog 12 #[.slice p n c] w fun e w' => e = .returned (.bool true) ∧ Below w.heap.size w w' := by
  have H := hid (upToAll w p n c hops)
  clear hops
  go_enter Tryz.func12, Tryz.ntmps12
  go_wp2_with fail
  refine H.out.mono ?_
  rintro e w' ⟨rfl, hb⟩
  go_wp2_with fail
  go_ret
  exact ⟨rfl, hb⟩
end Go.Proofs.YtdbebbbceeopaaaGreat

set_option linter.unusedSimpArgs false
namespace Go.Proofs.YtdbebbbceeopaaaGreat
open Go.RowKit

/-- What comes of Triangles, at points that are made of raw numbers. -/
theorem tri_set {n : Nat} {px py : Nat → Int} (hS : Sett n px py) (g cp : Nat) (w : World) (hp : Pts w g 0 n px py) (hcp : n ≤ cp) :
    Calls Tryz.prog 15 #[.slice (some ⟨g, 0, none⟩) n cp] w fun e w' => Below w.heap.size w w' ∧ ∃ (g2 cp2 : Nat) (d : Array T3) (M : Nat → Nat → Option Nat) (hs : List Nat), e = .returned (.tuple #[.slice (some ⟨g2, 0, none⟩) d.size cp2, .int .i64 0]) ∧ d.size ≤ 1600 ∧ 0 < d.size ∧ Trs w' g2 0 d.size (dz d) ∧ Tris M d ∧ Msh px py n M hs ∧ Geo.Loc px py M := by
  have hz : NeZero n := ⟨by have := hS.len; omega⟩
  refine (triangles_ok px py n g 0 cp w hp hS.len (by have := hS.len'; omega) hcp hS.ref).mono ?_
  rintro e w' ⟨hb, g2, cp2, d, M, hs, rfl, hg2, hd, hown, hT, hM, hL⟩
  refine ⟨hb, g2, cp2, d, M, hs, rfl, hd, ?_, trs_own hown, hT, hM, hL⟩
  obtain ⟨a, b, c, e, h1, h2⟩ := one_tri hM.mesh hM.cor (by have := hS.len; omega)
  have := List.length_pos_of_mem (hT.all a b c e h1 h2)
  simpa using this

/-- Four numbers in bounds. -/
def Bd4 (a b c d : Int) : Prop := (-1000 ≤ a ∧ a ≤ 1000) ∧ (-1000 ≤ b ∧ b ≤ 1000) ∧ (-1000 ≤ c ∧ c ≤ 1000) ∧ (-1000 ≤ d ∧ d ≤ 1000)

theorem bd4 {n : Nat} {px py : Nat → Int} (h : Bds n px py) {i k : Nat} (hi : i < n) (hk : k < n) : Bd4 (px i) (py i) (px k) (py k) := ⟨(h i hi).1, (h i hi).2, (h k hk).1, (h k hk).2⟩

theorem square_4 (a b c d : Int) (w : World) (h : Bd4 a b c d) : Calls Tryz.prog 17 #[.agg #[.int .i64 a, .int .i64 b], .agg #[.int .i64 c, .int .i64 d]] w fun e w' => e = .returned (.int .i64 (sqI a b c d)) ∧ Below w.heap.size w w' := ksquare_any a b c d h.1 h.2.1 h.2.2.1 h.2.2.2 w

def sqN (px py : Nat → Int) (i k : Nat) : Int := sqI (px i) (py i) (px k) (py k)

/-- The nearest so far: none, or b, c times. -/
def Best (px py : Nat → Int) (i k : Nat) (best count : Int) : Prop :=
  (best = -1 ∧ count = 0 ∧ ∀ r, r < k → r = i) ∨
  ∃ b : Nat, best = b ∧ b < k ∧ b ≠ i ∧ 1 ≤ count ∧ count ≤ k ∧ (∀ r, r < k → r ≠ i → sqN px py i b ≤ sqN px py i r) ∧ (count = 1 → ∀ r, r < k → r ≠ i → r ≠ b → sqN px py i b < sqN px py i r)

theorem Best.skip {px py : Nat → Int} {i : Nat} {best count : Int} (h : Best px py i i best count) : Best px py i (i + 1) best count := by
  rcases h with ⟨h1, h2, h3⟩ | ⟨b, h1, h2, h3, h4, h5, h6, h7⟩
  · refine .inl ⟨h1, h2, fun r hr => ?_⟩
    rcases Nat.lt_or_ge r i with k | k
    · exact h3 r k
    · omega
  · refine .inr ⟨b, h1, by omega, h3, h4, by omega, fun r hr hi => h6 r (by omega) hi, fun hc r hr hi hb => h7 hc r (by omega) hi hb⟩

theorem Best.first {px py : Nat → Int} {i k : Nat} {count : Int} (h : Best px py i k (-1) count) (hk : k ≠ i) : Best px py i (k + 1) k 1 := by
  rcases h with ⟨_, _, h3⟩ | ⟨b, h1, _⟩
  · refine .inr ⟨k, rfl, by omega, hk, by omega, by omega, fun r hr hi => ?_, fun _ r hr hi hb => ?_⟩
    · rcases Nat.lt_or_ge r k with q | q
      · exact absurd (h3 r q) hi
      · have : r = k := by omega
        subst this; exact Int.le_refl _
    · exact absurd (h3 r (by omega)) hi
  · omega

theorem Best.less {px py : Nat → Int} {i k b : Nat} {count : Int} (h : Best px py i k b count) (hk : k ≠ i) (hl : sqN px py i k < sqN px py i b) : Best px py i (k + 1) k 1 := by
  rcases h with ⟨h1, _⟩ | ⟨b', h1, h2, h3, h4, h5, h6, h7⟩
  · omega
  · have : b' = b := by omega
    subst this
    refine .inr ⟨k, rfl, by omega, hk, by omega, by omega, fun r hr hi => ?_, fun _ r hr hi hb => ?_⟩
    · rcases Nat.lt_or_ge r k with q | q
      · have := h6 r q hi; omega
      · have : r = k := by omega
        subst this; exact Int.le_refl _
    · have := h6 r (by omega) hi; omega

theorem Best.same {px py : Nat → Int} {i k b : Nat} {count : Int} (h : Best px py i k b count) (hk : k ≠ i) (hl : sqN px py i k = sqN px py i b) : Best px py i (k + 1) b (count + 1) := by
  rcases h with ⟨h1, _⟩ | ⟨b', h1, h2, h3, h4, h5, h6, h7⟩
  · omega
  · have : b' = b := by omega
    subst this
    refine .inr ⟨b', rfl, by omega, h3, by omega, by omega, fun r hr hi => ?_, fun hc => by omega⟩
    rcases Nat.lt_or_ge r k with q | q
    · exact h6 r q hi
    · have : r = k := by omega
      subst this; omega

theorem Best.more {px py : Nat → Int} {i k b : Nat} {count : Int} (h : Best px py i k b count) (hl : sqN px py i b < sqN px py i k) : Best px py i (k + 1) b count := by
  rcases h with ⟨h1, _⟩ | ⟨b', h1, h2, h3, h4, h5, h6, h7⟩
  · omega
  · have : b' = b := by omega
    subst this
    refine .inr ⟨b', rfl, by omega, h3, h4, by omega, fun r hr hi => ?_, fun hc r hr hi hb => ?_⟩
    · rcases Nat.lt_or_ge r k with q | q
      · exact h6 r q hi
      · have : r = k := by omega
        subst this; omega
    · rcases Nat.lt_or_ge r k with q | q
      · exact h7 hc r q hi hb
      · have : r = k := by omega
        subst this; omega

theorem sqN_sq (px py : Nat → Int) (i k : Nat) : sqN px py i k = Geo.sq (px i - px k) (py i - py k) := rfl

/-- The one that is nearest is a corner of a triangle that has the other, too. -/
theorem joined {px py : Nat → Int} {n : Nat} {M : Nat → Nat → Option Nat} {hs : List Nat} {d : Array T3} (hi : Geo.Inj px py n) (hM : Msh px py n M hs) (hL : Geo.Loc px py M) (hT : Tris M d) {i b : Nat} (h1 : i < n) (h2 : b < n) (hne : b ≠ i)
    (hn : ∀ r, r < n → r ≠ i → r ≠ b → sqN px py i b < sqN px py i r) : sideB (dA d) (dB d) (dC d) i b d.size = true := by
  have key : ∀ a c, (∃ z, M a c = some z) → ((a = i ∧ c = b) ∨ (a = b ∧ c = i)) → sideB (dA d) (dB d) (dC d) i b d.size = true := by
    rintro a c ⟨z, e⟩ hac
    obtain ⟨j, hj, q⟩ := hT.lists.has hM.mesh e
    refine sideB_of hj ?_
    unfold hasB
    rcases hac with ⟨rfl, rfl⟩ | ⟨rfl, rfl⟩ <;> rcases q with ⟨q1, q2, q3⟩ | ⟨q1, q2, q3⟩ | ⟨q1, q2, q3⟩ <;> simp [q1, q2, q3]
  rcases hM.mesh.nearest hi hM.cor hL h1 h2 (Ne.symm hne) (fun r hr k1 k2 => by have := hn r hr k1 k2; rw [sqN_sq, sqN_sq] at this; exact this) with h | h
  · exact key i b h (.inl ⟨rfl, rfl⟩)
  · exact key b i h (.inr ⟨rfl, rfl⟩)

set_option maxRecDepth 100000 in
set_option maxHeartbeats 4000000 in
theorem near_any (a : Option Addr) (len cap : Nat) (sz : Int) (w : World)
    (hpts : Calls Tryz.prog 14 #[.slice a len cap, .int .i64 sz] w fun e w' => ∃ v N ps, e = .returned v ∧ Below w.heap.size w w' ∧ Sq N ps ∧ w'.ownsRow w.heap.size 35 2 v ps.length (cellsP ps)) :
    Calls Tryz.prog 5 #[.slice a len cap, .int .i64 sz] w fun e w' => e = .returned (.bool true) ∧ Below w.heap.size w w' := by
  have C1 := hid (points_set hpts)
  clear hpts
  go_enter Tryz.func5, Tryz.ntmps5
  go_wp2_with fail
  refine C1.out.mono ?_
  rintro e w1 ⟨g, n, cp, px, py, rfl, hb1, hcp, hS, hP⟩
  have C2 := hid (tri_set hS g cp w1 hP hcp)
  have HB1 := hid hb1
  have HS := hid hS
  have HP := hid hP
  have hn3 := hS.len
  have hn30 := hS.len'
  clear C1 hb1 hS hP
  go_wp2_with fail
  refine C2.out.mono ?_
  rintro e w2 ⟨hb2, g2, cp2, d, M, hs, rfl, hd, hd0, hTr, hT, hM, hL⟩
  have HB2 := hid (HB1.out.trans (hb2.mono HB1.out.size))
  have HP2 := hid (HP.out.below hb2 HP.out.lt)
  have HTR := hid hTr
  have HT := hid hT
  have HM := hid hM
  have HL := hid hL
  have BDS := hid (refI_bds HS.out.ref)
  have C3 := hid (sane_any px py n g 0 cp d.size cp2 (some ⟨g2, 0, none⟩) (dz d) (dA d) (dB d) (dC d) w2 HP2.out (fun _ => ⟨g2, 0, rfl, hTr⟩) (by omega) BDS.out (hT.row3 hM.mesh) (fun i hi => (hT.lists.tri i hi).2) (fun i hi => hM.mesh.pos _ _ _ (hT.lists.tri i hi).1))
  have hZ : Hid (∀ i b W, Below w2.heap.size w2 W → Calls Tryz.prog 18 #[.slice (some ⟨g2, 0, none⟩) d.size cp2, .int .i64 ((i : Nat) : Int), .int .i64 ((b : Nat) : Int)] W fun e w' => e = .returned (.bool (sideB (dA d) (dB d) (dC d) i b d.size)) ∧ Below W.heap.size W w') := hid fun i b W hW => side_any n g2 0 d.size cp2 (dz d) (dA d) (dB d) (dC d) i b W (hTr.below hW) (by omega) (hT.row3 hM.mesh)
  clear C2 hb2 HB1 HP hTr hT hM hL
  go_wp2_with fail
  refine C3.out.mono ?_
  rintro e w3 ⟨rfl, hb3⟩
  have HB3 := hid hb3
  clear C3 hb3
  obtain ⟨m, hm⟩ : ∃ m, m = d.size := ⟨_, rfl⟩
  rw [← hm] at hd hd0 hZ ⊢
  have HMM := hid hm
  clear hm
  go_wp2_with fail
  go_loopw [9] (fun i wr => ∃ k : Nat, k ≤ n ∧ i = .int .i64 k ∧ Hid (Below w2.heap.size w2 wr)) (fun i _ => n - (intOf i).toNat)
  case atStart => exact ⟨0, Nat.zero_le _, rfl, HB3⟩
  case round =>
    obtain ⟨i, hi, rfl, HB⟩ := hrel
    clear HB3
    by_cases hlt : i < n
    · have hlt' : (i : Int) < n := by omega
      obtain ⟨W0, rfl⟩ : ∃ W0, W0 = wr := ⟨wr, rfl⟩
      go_wp2_with fail
      go_loopw [10, 11, 12] (fun be co kk wr => ∃ (k : Nat) (b c : Int), k ≤ n ∧ kk = .int .i64 k ∧ be = .int .i64 b ∧ co = .int .i64 c ∧ Best px py i k b c ∧ Hid (Below w2.heap.size w2 wr)) (fun _ _ kk _ => n - (intOf kk).toNat)
      case atStart => exact ⟨0, -1, 0, Nat.zero_le _, rfl, rfl, rfl, .inl ⟨rfl, rfl, fun r hr => by omega⟩, HB⟩
      case round =>
        clear HB
        obtain ⟨k, b, c, hk, rfl, rfl, rfl, hbest, HB⟩ := hrel
        by_cases hlk : k < n
        · have hlk' : (k : Int) < n := by omega
          by_cases hki : k = i
          · subst hki
            have HBE := hid hbest.skip
            clear hbest
            go_wp2_with fail
            go_roundw
            case rel => exact ⟨k + 1, _, _, by omega, by go_num, rfl, rfl, HBE.out, HB⟩
            case measure => simp [intOf]; omega
          · have dki : ((k : Int) == (i : Int)) = false := by simp; omega
            have hpw := HP2.out.below HB.out HP2.out.lt
            have cx : ∀ j, j < n → wr.cell? ⟨g, j * 2, none⟩ = some (.int .i64 (px j)) := fun j hj => by have := hpw.x j hj; rwa [Nat.zero_add] at this
            have cy : ∀ j, j < n → wr.cell? ⟨g, j * 2 + 1, none⟩ = some (.int .i64 (py j)) := fun j hj => by have := hpw.y j hj; rwa [Nat.zero_add] at this
            have xi := cx i hlt
            have yi := cy i hlt
            have xk := cx k hlk
            have yk := cy k hlk
            have gl := hpw.lt
            have B1 := bd4 BDS.out hlt hlk
            by_cases hb1 : b = -1
            · subst hb1
              have HBE := hid (hbest.first hki)
              clear hbest cx cy hpw B1
              go_wp2_with fail
              go_quiet (fail)
              go_wp2_with fail
              go_roundw
              case rel => exact ⟨k + 1, _, _, by omega, by go_num, rfl, rfl, HBE.out, hid (below_drewN HB.out _)⟩
              case measure => simp [intOf]; omega
            · obtain ⟨bb, hbb, rfl⟩ : ∃ bb : Nat, bb < k ∧ b = bb := by
                rcases hbest with ⟨h1, _⟩ | ⟨b', h1, h2, _⟩
                · exact absurd h1 hb1
                · exact ⟨b', h2, h1⟩
              have hbn : bb < n := by omega
              have hbn' : (bb : Int) < n := by omega
              have hb0 : ¬ (bb : Int) < 0 := by omega
              have xb := cx bb hbn
              have yb := cy bb hbn
              have B2 := bd4 BDS.out hlt hbn
              have SQ := hid (square_4)
              have HBEST := hid hbest
              have q1 : (0 : Int) ≤ (i : Int) := by omega
              have q2 : (0 : Int) ≤ (k : Int) := by omega
              have q3 : (0 : Int) ≤ (bb : Int) := by omega
              have HN1 : Hid (sqN px py i k = sqI (px i) (py i) (px k) (py k)) := hid rfl
              have HN2 : Hid (sqN px py i bb = sqI (px i) (py i) (px bb) (py bb)) := hid rfl
              have KEEP : Hid (∀ W, Below wr.heap.size wr W → W.cell? ⟨g, i * 2, none⟩ = some (.int .i64 (px i)) ∧ W.cell? ⟨g, i * 2 + 1, none⟩ = some (.int .i64 (py i)) ∧ W.cell? ⟨g, k * 2, none⟩ = some (.int .i64 (px k)) ∧ W.cell? ⟨g, k * 2 + 1, none⟩ = some (.int .i64 (py k)) ∧ W.cell? ⟨g, bb * 2, none⟩ = some (.int .i64 (px bb)) ∧ W.cell? ⟨g, bb * 2 + 1, none⟩ = some (.int .i64 (py bb))) := hid fun W hW => ⟨(hW.cell (by exact gl)).trans xi, (hW.cell (by exact gl)).trans yi, (hW.cell (by exact gl)).trans xk, (hW.cell (by exact gl)).trans yk, (hW.cell (by exact gl)).trans xb, (hW.cell (by exact gl)).trans yb⟩
              have START := KEEP.out wr.drew (Below.refl _ _).drew
              clear hbest cx cy hpw hb1
              go_wp2_with fail
              go_region_held3 (fun w' => w'.cell? ⟨g, i * 2, none⟩ = some (.int .i64 (px i)) ∧ w'.cell? ⟨g, i * 2 + 1, none⟩ = some (.int .i64 (py i)) ∧ w'.cell? ⟨g, k * 2, none⟩ = some (.int .i64 (px k)) ∧ w'.cell? ⟨g, k * 2 + 1, none⟩ = some (.int .i64 (py k)) ∧ w'.cell? ⟨g, bb * 2, none⟩ = some (.int .i64 (px bb)) ∧ w'.cell? ⟨g, bb * 2 + 1, none⟩ = some (.int .i64 (py bb))) (assumption)
                ((go_at_call 17; refine (SQ.out _ _ _ _ _ (by assumption)).mono ?_; rintro e w6 ⟨rfl, hb6⟩; have HB6 : Hid (Below wr.heap.size wr w6) := hid (by first | exact (Below.refl _ _).drew.trans hb6 | exact HB6.out.trans (hb6.mono HB6.out.size)); have HK := KEEP.out w6 HB6.out; clear hb6))
              clear HK START
              obtain ⟨s1, hs1⟩ : ∃ s1, s1 = sqI (px i) (py i) (px k) (py k) := ⟨_, rfl⟩
              obtain ⟨s2, hs2⟩ : ∃ s2, s2 = sqI (px i) (py i) (px bb) (py bb) := ⟨_, rfl⟩
              have HS1 := hid hs1
              have HS2 := hid hs2
              rw [← hs1, ← hs2]
              clear hs1 hs2
              by_cases l1 : s1 < s2
              · have HBE := hid (HBEST.out.less hki (by rw [HN1.out, HN2.out, ← HS1.out, ← HS2.out]; exact l1))
                go_wp2_with fail
                go_roundw
                case rel => exact ⟨k + 1, _, _, by omega, by go_num, rfl, rfl, HBE.out, hid (HB.out.trans (HB6.out.mono HB.out.size))⟩
                case measure => simp [intOf]; omega
              · have START := KEEP.out w6.drew HB6.out.drew
                go_wp2_with fail
                go_region_held3 (fun w' => w'.cell? ⟨g, i * 2, none⟩ = some (.int .i64 (px i)) ∧ w'.cell? ⟨g, i * 2 + 1, none⟩ = some (.int .i64 (py i)) ∧ w'.cell? ⟨g, k * 2, none⟩ = some (.int .i64 (px k)) ∧ w'.cell? ⟨g, k * 2 + 1, none⟩ = some (.int .i64 (py k)) ∧ w'.cell? ⟨g, bb * 2, none⟩ = some (.int .i64 (px bb)) ∧ w'.cell? ⟨g, bb * 2 + 1, none⟩ = some (.int .i64 (py bb))) (assumption)
                  ((go_at_call 17; refine (SQ.out _ _ _ _ _ (by assumption)).mono ?_; rintro e w8 ⟨rfl, hb8⟩; have HB8 : Hid (Below wr.heap.size wr w8) := hid (by first | exact HB6.out.drew.trans (hb8.mono HB6.out.size) | exact HB8.out.trans (hb8.mono HB8.out.size)); have HK := KEEP.out w8 HB8.out; clear hb8))
                clear HK START
                rw [← HS1.out, ← HS2.out]
                by_cases l2 : s1 = s2
                · have HBE := hid (HBEST.out.same hki (by rw [HN1.out, HN2.out, ← HS1.out, ← HS2.out]; exact l2))
                  have dl : (s1 == s2) = true := by simpa using l2
                  have hcb : c ≤ 40 ∧ 0 ≤ c := by
                    rcases HBEST.out with ⟨_, h2, _⟩ | ⟨_, _, _, _, h4, h5, _⟩
                    · omega
                    · omega
                  go_wp2_with fail
                  go_roundw
                  case rel => exact ⟨k + 1, _, _, by omega, by go_num, rfl, by go_num, HBE.out, hid (HB.out.trans (HB8.out.mono HB.out.size))⟩
                  case measure => simp [intOf]; omega
                · have HBE := hid (HBEST.out.more (by rw [HN1.out, HN2.out, ← HS1.out, ← HS2.out]; omega))
                  have dl : (s1 == s2) = false := by simpa using l2
                  go_wp2_with fail
                  go_roundw
                  case rel => exact ⟨k + 1, _, _, by omega, by go_num, rfl, rfl, HBE.out, hid (HB.out.trans (HB8.out.mono HB.out.size))⟩
                  case measure => simp [intOf]; omega
        · have hkn : k = n := by omega
          subst hkn
          rcases hbest with ⟨_, _, h3⟩ | ⟨bb, rfl, h2, h3, h4, h5, h6, h7⟩
          · exfalso
            have e0 := h3 0 (by omega)
            have e1 := h3 1 (by omega)
            omega
          · go_wp2_with fail
            refine (hZ.out i bb wr HB.out).mono ?_
            rintro e w4 ⟨rfl, hb4⟩
            have HB4 := hid (HB.out.trans (hb4.mono HB.out.size))
            clear hb4
            by_cases hc1 : c = 1
            · have hj := joined (refI_inj HS.out.ref) HM.out HL.out HT.out hlt h2 h3 (h7 hc1)
              rw [← HMM.out] at hj
              rw [hj]
              subst hc1
              clear h4 h5 h6 h7 hj
              go_wp2_with fail
              go_roundw
              case rel => exact ⟨i + 1, by omega, by go_num, HB4⟩
              case measure => simp [intOf]; omega
            · have dc : (c == 1) = false := by simpa using hc1
              generalize sideB (dA d) (dB d) (dC d) i bb m = jj at *
              clear h4 h5 h6 h7
              go_wp2_with fail
              go_roundw
              case rel => exact ⟨i + 1, by omega, by go_num, HB4⟩
              case measure => simp [intOf]; omega
    · have hkm : i = n := by omega
      subst hkm
      go_wp2_with fail
      go_ret
      exact ⟨rfl, HB2.out.trans (HB.out.mono HB2.out.size)⟩
end Go.Proofs.YtdbebbbceeopaaaGreat

set_option linter.unusedSimpArgs false
namespace Go.Proofs.YtdbebbbceeopaaaGreat
open Go.RowKit
open Geo (tp)

/-- The corners of the square that points of raw numbers lie in. -/
structure Corn (px py : Nat → Int) (N : Int) : Prop where
  big : 8 ≤ N
  x0 : px 0 = 0
  y0 : py 0 = 0
  x1 : px 1 = N
  y1 : py 1 = 0
  x2 : px 2 = 0
  y2 : py 2 = N

theorem sq_corn {N : Int} {ps : List (Int × Int)} (h : Sq N ps) : Corn (sx ps) (sy ps) N := by
  have e0 : ps.getD 0 (0, 0) = (0, 0) := by rw [List.getD_eq_getElem?_getD, h.p0]; rfl
  have e1 : ps.getD 1 (0, 0) = (N, 0) := by rw [List.getD_eq_getElem?_getD, h.p1]; rfl
  have e2 : ps.getD 2 (0, 0) = (0, N) := by rw [List.getD_eq_getElem?_getD, h.p2]; rfl
  exact ⟨h.big, by unfold sx; rw [e0], by unfold sy; rw [e0], by unfold sx; rw [e1], by unfold sy; rw [e1], by unfold sx; rw [e2], by unfold sy; rw [e2]⟩

theorem points_set2 {arg : Array Value} {w : World} (hpts : Calls Tryz.prog 14 arg w fun e w' => ∃ v N ps, e = .returned v ∧ Below w.heap.size w w' ∧ Sq N ps ∧ w'.ownsRow w.heap.size 35 2 v ps.length (cellsP ps)) :
    Calls Tryz.prog 14 arg w fun e w' => ∃ g n cp px py N, e = .returned (.slice (some ⟨g, 0, none⟩) n cp) ∧ Below w.heap.size w w' ∧ n ≤ cp ∧ Sett n px py ∧ Corn px py N ∧ Pts w' g 0 n px py := by
  refine hpts.mono ?_
  rintro e w1 ⟨v, N, ps, rfl, hb1, hsq, ho⟩
  obtain ⟨g, cp, rfl, hgb, hgl, hcp, hcells⟩ := shape33 ho (by have := hsq.len; omega)
  exact ⟨g, ps.length, cp, sx ps, sy ps, N, rfl, hb1, hcp, sq_set hsq, sq_corn hsq, sq_pts hgl hcells⟩

theorem hull_set2 {n : Nat} {px py : Nat → Int} (hS : Sett n px py) (g cp : Nat) (w : World) (hp : Pts w g 0 n px py) (hcp : n ≤ cp) :
    Calls Tryz.prog 21 #[.slice (some ⟨g, 0, none⟩) n cp] w fun e w' => ∃ g2 cp2 hs, e = .returned (.tuple #[.slice (some ⟨g2, 0, none⟩) (hs.length : Nat) cp2, .int .i64 0]) ∧ Below w.heap.size w w' ∧ hs.length ≤ 100 ∧ g2 < w'.heap.size ∧
      Cnr n px py hs.length (fun i => hs.getD i 0) ∧ (∃ os : List Nat, (3 ≤ os.length ∧ os.Pairwise (Geo.Lt Geo.Lex px py) ∧ ∀ p, p ∈ os ↔ p < n) ∧ hs = hullOf (T px py) os) ∧ ∀ j, j < hs.length → w'.cell? ⟨g2, j, none⟩ = some (.int .i64 (hs.getD j 0 : Nat)) := by
  have hz : NeZero n := ⟨by have := hS.len; omega⟩
  refine (hull_ok px py n g 0 cp w hp hS.len (by have := hS.len'; omega) hcp hS.ref).mono ?_
  rintro e w2 ⟨v2, rfl, hb2, d, hd, hperm, hsort, hown⟩
  have H := hullOf_isHull hS.len hd hperm hsort hS.ne ⟨2, by have := hS.len; omega, hS.wide⟩
  obtain ⟨g2, cp2, rfl, _, hg2, _, _, hc⟩ := row_of_owns hown (by have := H.len; omega)
  refine ⟨g2, cp2, hullOf (T px py) (nums d), rfl, hb2, ?_, hg2, ⟨H.len, H.lt, H.inj, H.side, H.turn⟩, ⟨nums d, ord0 hS.len hS.ref hd hperm hsort, rfl⟩, ?_⟩
  · have := hull_len H
    have := hS.len'
    omega
  · intro j hj
    rw [hc j hj]
    simp [encN, hj]

/-- To the left of the hull's first k sides? -/
def inB (px py : Nat → Int) (x y : Int) (hs : List Nat) : Nat → Bool
  | 0 => true
  | k + 1 => inB px py x y hs k && decide (0 ≤ tp px py x y (hs.getD k 0) (hs.getD ((k + 1) % hs.length) 0))

theorem inB_all {px py : Nat → Int} {x y : Int} {hs : List Nat} : ∀ {k : Nat}, inB px py x y hs k = true → ∀ i, i < k → 0 ≤ tp px py x y (hs.getD i 0) (hs.getD ((i + 1) % hs.length) 0)
  | 0, _, i, hi => by omega
  | k + 1, h, i, hi => by
    unfold inB at h
    rw [Bool.and_eq_true, decide_eq_true_eq] at h
    rcases Nat.lt_or_ge i k with g | g
    · exact inB_all h.1 i g
    · have : i = k := by omega
      subst this; exact h.2

theorem inB_not {px py : Nat → Int} {x y : Int} {hs : List Nat} : ∀ {k : Nat}, inB px py x y hs k = false → ∃ i, i < k ∧ tp px py x y (hs.getD i 0) (hs.getD ((i + 1) % hs.length) 0) < 0
  | 0, h => by cases h
  | k + 1, h => by
    unfold inB at h
    rcases Bool.and_eq_false_iff.1 h with g | g
    · obtain ⟨i, hi, q⟩ := inB_not g
      exact ⟨i, by omega, q⟩
    · rw [decide_eq_false_iff_not] at g
      exact ⟨k, by omega, by omega⟩

/-- Does a place lie in the triangle of three points, or on its border? -/
def triB (px py : Nat → Int) (x y : Int) (a b c : Nat) : Bool := decide (0 ≤ tp px py x y a b) && (decide (0 ≤ tp px py x y b c) && decide (0 ≤ tp px py x y c a))

theorem hit_tri {px py : Nat → Int} {n : Nat} {M : Nat → Nat → Option Nat} {hs : List Nat} {d : Array T3} (hbd : Bds n px py) (hM : Msh px py n M hs) (hT : Tris M d) {x y : Int} (X : -1000 ≤ x ∧ x ≤ 1000) (Y : -1000 ≤ y ∧ y ≤ 1000) {j : Nat} (hj : j < d.size) :
    hitB px py n x y (tris (dz d) d.size)[j]! = triB px py x y (dA d j) (dB d j) (dC d j) := by
  obtain ⟨z0, z1, z2⟩ := dz_get d j hj
  have l := (hT.row3 hM.mesh).a j hj
  have p := hM.mesh.pos _ _ _ (hT.lists.tri j hj).1
  have nr : ∀ i, i < n → (nearB (px i) && nearB (py i)) = true := fun i hi => by rw [Bool.and_eq_true, nearB_iff, nearB_iff]; exact hbd i hi
  rw [tris_at _ _ _ hj, z0, z1, z2]
  unfold hitB
  rw [hit_near (by rw [Bool.and_eq_true, nearB_iff, nearB_iff]; exact ⟨X, Y⟩) (nr _ l.1) (nr _ l.2.1) (nr _ l.2.2) l.1 l.2.1 l.2.2]
  have : decide (0 < tw (px (dA d j)) (py (dA d j)) (px (dB d j)) (py (dB d j)) (px (dC d j)) (py (dC d j))) = true := decide_eq_true p
  rw [this]
  rfl

/-- Beside the hull nothing is found. -/
theorem loc_out {px py : Nat → Int} {n : Nat} {M : Nat → Nat → Option Nat} {hs hs' : List Nat} {d : Array T3} (hbd : Bds n px py) (hM : Msh px py n M hs) (hT : Tris M d) (hC : Cnr n px py hs'.length (fun i => hs'.getD i 0)) {x y : Int} (X : -1000 ≤ x ∧ x ≤ 1000) (Y : -1000 ≤ y ∧ y ≤ 1000)
    (h : inB px py x y hs' hs'.length = false) : locI px py n (dz d) d.size x y = -1 := by
  obtain ⟨i, hi, hlt⟩ := inB_not h
  refine loc_miss fun j hj => ?_
  rw [hit_tri hbd hM hT X Y hj]
  have nb := hM.mesh.beside (hC.side i hi) hlt (hT.lists.tri j hj).1
  unfold triB
  cases h1 : decide (0 ≤ tp px py x y (dA d j) (dB d j)) with
  | false => rfl
  | true =>
    cases h2 : decide (0 ≤ tp px py x y (dB d j) (dC d j)) with
    | false => rfl
    | true =>
      cases h3 : decide (0 ≤ tp px py x y (dC d j) (dA d j)) with
      | false => rfl
      | true => exact absurd ⟨of_decide_eq_true h1, of_decide_eq_true h2, of_decide_eq_true h3⟩ nb

/-- Within the hull something is. -/
theorem in_some {px py : Nat → Int} {n : Nat} {N : Int} {M : Nat → Nat → Option Nat} {hs hs' : List Nat} {d : Array T3} (hS : Sett n px py) (hC : Corn px py N) (hM : Msh px py n M hs) (hT : Tris M d) (ho : ∃ os : List Nat, (3 ≤ os.length ∧ os.Pairwise (Geo.Lt Geo.Lex px py) ∧ ∀ p, p ∈ os ↔ p < n) ∧ hs' = hullOf (T px py) os) {x y : Int}
    (h : inB px py x y hs' hs'.length = true) : ∃ j, j < d.size ∧ triB px py x y (dA d j) (dB d j) (dC d j) = true := by
  obtain ⟨os', ⟨o3', op', om'⟩, rfl⟩ := ho
  obtain ⟨os, ⟨o3, op, om⟩, rfl, hre⟩ := hM.ord
  have e : os' = os := order_one op' op (fun p => by rw [om, om'])
  subst e
  obtain ⟨s1, q1, s2, q2, R⟩ := ring0 o3 op om (refI_Wide hS.len hS.ref om)
  have hlen := hS.len
  have big := hC.big
  have key : ∀ gx : Int, 1 ≤ gx → gx ≤ 2 → gx ≠ x → ∃ a b c, M a b = some c ∧ 0 ≤ tp px py x y a b ∧ 0 ≤ tp px py x y b c ∧ 0 ≤ tp px py x y c a := by
    intro gx g1 g2 gne
    have nn : 0 < N * N := Int.mul_pos (by omega) (by omega)
    refine found_tri R hre hM.mesh om (gx := gx) (gy := 1) (p := 0) (q := 1) (r := 2) (by omega) (by omega) (by omega) ?_ ?_ ?_ ?_ gne ⟨0, by omega, by rw [hC.x0]; omega⟩ ⟨1, by omega, by rw [hC.x1]; omega⟩ (inB_all h)
    · unfold T tw
      rw [hC.x0, hC.y0, hC.x1, hC.y1, hC.x2, hC.y2]
      simp; omega
    · unfold tp
      rw [hC.x0, hC.y0, hC.x1, hC.y1]
      simp; omega
    · unfold tp
      rw [hC.x1, hC.y1, hC.x2, hC.y2]
      have e : (0 - N) * (1 - 0) - (N - 0) * (gx - N) = N * (N - gx - 1) := by grind
      rw [e]
      exact Int.mul_pos (by omega) (by omega)
    · unfold tp
      rw [hC.x0, hC.y0, hC.x2, hC.y2]
      have e : (0 - 0) * (1 - N) - (0 - N) * (gx - 0) = N * gx := by grind
      rw [e]
      exact Int.mul_pos (by omega) (by omega)
  obtain ⟨a, b, c, e, k1, k2, k3⟩ : ∃ a b c, M a b = some c ∧ 0 ≤ tp px py x y a b ∧ 0 ≤ tp px py x y b c ∧ 0 ≤ tp px py x y c a := by
    by_cases q : x = 1
    · exact key 2 (by omega) (by omega) (by omega)
    · exact key 1 (by omega) (by omega) (by omega)
  obtain ⟨j, hj, q⟩ := hT.lists.has hM.mesh e
  refine ⟨j, hj, ?_⟩
  unfold triB
  rw [Bool.and_eq_true, Bool.and_eq_true, decide_eq_true_eq, decide_eq_true_eq, decide_eq_true_eq]
  rcases q with ⟨q1, q2, q3⟩ | ⟨q1, q2, q3⟩ | ⟨q1, q2, q3⟩
  · rw [q1, q2, q3]; exact ⟨k1, k2, k3⟩
  · rw [q1, q2, q3]; exact ⟨k3, k1, k2⟩
  · rw [q1, q2, q3]; exact ⟨k2, k3, k1⟩

end Go.Proofs.YtdbebbbceeopaaaGreat

set_option linter.unusedSimpArgs false
namespace Go.Proofs.YtdbebbbceeopaaaGreat
open Go.RowKit
open Geo (tp)

/-- Six numbers in bounds. -/
def Bd6 (a b c d e f : Int) : Prop := Bd4 a b c d ∧ (-1000 ≤ e ∧ e ≤ 1000) ∧ (-1000 ≤ f ∧ f ≤ 1000)

theorem turn_6 (a b c d e f : Int) (w : World) (h : Bd6 a b c d e f) : Calls Tryz.prog 23 #[.agg #[.int .i64 a, .int .i64 b], .agg #[.int .i64 c, .int .i64 d], .agg #[.int .i64 e, .int .i64 f]] w fun r w' => r = .returned (.int .i64 (tw a b c d e f)) ∧ Below w.heap.size w w' :=
  kturn_any a b c d e f h.1.1 h.1.2.1 h.1.2.2.1 h.1.2.2.2 h.2.1 h.2.2 w

set_option maxRecDepth 100000 in
set_option maxHeartbeats 4000000 in
theorem found_any (a : Option Addr) (len cap : Nat) (sz x0 y0 : Int) (w : World) (wsz : -9223372036854775808 ≤ sz ∧ sz ≤ 9223372036854775807) (wx : -9223372036854775808 ≤ x0 ∧ x0 ≤ 9223372036854775807) (wy : -9223372036854775808 ≤ y0 ∧ y0 ≤ 9223372036854775807)
    (hpts : Calls Tryz.prog 14 #[.slice a len cap, .int .i64 sz] w fun e w' => ∃ v N ps, e = .returned v ∧ Below w.heap.size w w' ∧ Sq N ps ∧ w'.ownsRow w.heap.size 35 2 v ps.length (cellsP ps)) :
    Calls Tryz.prog 8 #[.slice a len cap, .int .i64 sz, .int .i64 x0, .int .i64 y0] w fun e w' => e = .returned (.bool true) ∧ Below w.heap.size w w' := by
  have C1 := hid (points_set2 hpts)
  clear hpts
  have K1 := hid (fun W => pick_any sz 400 wsz (by omega) (by omega) W)
  have pk := pickI_bd sz 400 (by omega)
  obtain ⟨m0, hm0⟩ : ∃ m0, m0 = pickI sz 400 := ⟨_, rfl⟩
  rw [← hm0] at K1 pk
  clear hm0
  have K2 := hid (fun W => pick_any x0 (8 + m0 + 3) wx (by omega) (by omega) W)
  have K3 := hid (fun W => pick_any y0 (8 + m0 + 3) wy (by omega) (by omega) W)
  have p2 := pickI_bd x0 (8 + m0 + 3) (by omega)
  have p3 := pickI_bd y0 (8 + m0 + 3) (by omega)
  obtain ⟨x1, hx1⟩ : ∃ x1, x1 = pickI x0 (8 + m0 + 3) := ⟨_, rfl⟩
  obtain ⟨y1, hy1⟩ : ∃ y1, y1 = pickI y0 (8 + m0 + 3) := ⟨_, rfl⟩
  rw [← hx1] at K2 p2
  rw [← hy1] at K3 p3
  clear hx1 hy1 wx wy wsz
  have c1 : IntKind.i64.wrap (8 + m0) = 8 + m0 := by simp [IntKind.wrap, IntKind.signed, IntKind.bits]; omega
  have c2 : IntKind.i64.wrap (8 + m0 + 3) = 8 + m0 + 3 := by simp [IntKind.wrap, IntKind.signed, IntKind.bits]; omega
  have c3 : IntKind.i64.wrap (x1 - 1) = x1 - 1 := by simp [IntKind.wrap, IntKind.signed, IntKind.bits]; omega
  have c4 : IntKind.i64.wrap (y1 - 1) = y1 - 1 := by simp [IntKind.wrap, IntKind.signed, IntKind.bits]; omega
  go_enter Tryz.func8, Tryz.ntmps8
  go_wp2_with fail
  refine C1.out.mono ?_
  rintro e w1 ⟨g, n, cp, px, py, N, rfl, hb1, hcp, hS, hC, hP⟩
  have HB1 := hid hb1
  have HS := hid hS
  have HC := hid hC
  have HP := hid hP
  have hn3 := hS.len
  have hn30 := hS.len'
  clear C1 hb1 hS hP hC
  go_wp2_with fail
  refine (K1.out _).mono ?_
  rintro e w2 ⟨rfl, rfl⟩
  clear K1
  go_wp2_with fail
  refine (K2.out _).mono ?_
  rintro e w3 ⟨rfl, rfl⟩
  clear K2
  go_wp2_with fail
  refine (K3.out _).mono ?_
  rintro e w4 ⟨rfl, rfl⟩
  clear K3 c1 c2
  go_wp2_with fail
  obtain ⟨x, hx⟩ : ∃ x, x = x1 - 1 := ⟨_, rfl⟩
  obtain ⟨y, hy⟩ : ∃ y, y = y1 - 1 := ⟨_, rfl⟩
  rw [← hx, ← hy]
  have X : -1000 ≤ x ∧ x ≤ 1000 := by omega
  have Y : -1000 ≤ y ∧ y ≤ 1000 := by omega
  clear hx hy p2 p3 pk c3 c4
  obtain ⟨W4, hW4⟩ : ∃ W4 : World, W4 = w4.alloc (.cells #[.int .i64 x, .int .i64 y] 35) := ⟨_, rfl⟩
  obtain ⟨bq, hbq⟩ : ∃ bq, bq = w4.heap.size := ⟨_, rfl⟩
  have hb4 : Below w4.heap.size w4 W4 := by rw [hW4]; exact (Below.refl _ _).alloc (Nat.le_refl _) _
  have PX : W4.cell? ⟨bq, 0, none⟩ = some (.int .i64 x) := by rw [hW4, hbq]; exact World.cell?_alloc_at _ _ _ _ rfl
  have PY : W4.cell? ⟨bq, 1, none⟩ = some (.int .i64 y) := by rw [hW4, hbq]; exact World.cell?_alloc_at _ _ _ _ rfl
  rw [← hW4, ← hbq]
  have HB4 := hid (HB1.out.trans (hb4.mono HB1.out.size))
  have HP4 := hid (HP.out.below hb4 HP.out.lt)
  have HPX := hid PX
  have HPY := hid PY
  have BQ := hid (World.block_lt_of_cell? W4 _ PX)
  clear hW4 hbq hb4 PX PY HP HB1
  have C2 := hid (tri_set HS.out g cp W4 HP4.out hcp)
  refine C2.out.mono ?_
  rintro e w5 ⟨hb5, g2, cp2, d, M, hs, rfl, hd, hd0, hTr, hT, hM, hL⟩
  have HB5 := hid hb5
  have HTR := hid hTr
  have HT := hid hT
  have HM := hid hM
  clear C2 hb5 hTr hT hM hL
  have C3 := hid (hull_set2 HS.out g cp w5 (HP4.out.below HB5.out HP4.out.lt) hcp)
  go_wp2_with fail
  refine C3.out.mono ?_
  rintro e w6 ⟨g3, cp3, hs', rfl, hb6, hlen, hg3, hCn, hOs, hcell⟩
  have HB6 := hid (HB5.out.trans (hb6.mono HB5.out.size))
  have HTR6 := hid (HTR.out.below hb6)
  have HCN := hid hCn
  have HOS := hid hOs
  have HCL := hid hcell
  have BDS := hid (refI_bds HS.out.ref)
  have hm3 := hCn.len
  have C4 := hid (sane_any px py n g 0 cp d.size cp2 (some ⟨g2, 0, none⟩) (dz d) (dA d) (dB d) (dC d) w6 (HP4.out.below HB6.out HP4.out.lt) (fun _ => ⟨g2, 0, rfl, HTR6.out⟩) (by omega) BDS.out (HT.out.row3 HM.out.mesh) (fun i hi => (HT.out.lists.tri i hi).2) (fun i hi => HM.out.mesh.pos _ _ _ (HT.out.lists.tri i hi).1))
  clear C3 hb6 hCn hOs hcell HTR HB5
  go_wp2_with fail
  refine C4.out.mono ?_
  rintro e w7 ⟨rfl, hb7⟩
  have HG3 := hid hg3
  have C5 := hid (known_any g3 hs'.length cp3 n (fun i => hs'.getD i 0) w7 hm3 hlen (fun j hj => (hb7.cell (by exact HG3.out)).trans (HCL.out j hj)) HCN.out.lt HCN.out.inj)
  have HB7 := hid (HB6.out.trans (hb7.mono HB6.out.size))
  have HTR7 := hid (HTR6.out.below hb7)
  have HCL7 : Hid (∀ j, j < hs'.length → w7.cell? ⟨g3, j, none⟩ = some (.int .i64 (hs'.getD j 0 : Nat))) := hid (fun j hj => (hb7.cell (by exact HG3.out)).trans (HCL.out j hj))
  have HG7 := hid (Nat.lt_of_lt_of_le hg3 hb7.size)
  clear C4 hb7 HB6 HTR6 HCL HG3 hg3
  obtain ⟨m, hm⟩ : ∃ m, m = hs'.length := ⟨_, rfl⟩
  obtain ⟨k, hk⟩ : ∃ k, k = d.size := ⟨_, rfl⟩
  have HMM := hid hm
  have HKK := hid hk
  rw [← hm] at hm3 hlen C5 ⊢
  rw [← hk] at hd hd0 ⊢
  clear hm hk
  have dk : ((k : Int) == 0) = false := by simp; omega
  go_wp2_with fail
  refine C5.out.mono ?_
  rintro e w8 ⟨rfl, q, rfl⟩
  clear C5
  have HB8 := hid (below_drewN HB7.out q)
  have HTR8 := hid (HTR7.out.below (below_drewN (Below.refl w7.heap.size w7) q))
  have HCL8 : Hid (∀ j, j < hs'.length → (w7.drewN q).cell? ⟨g3, j, none⟩ = some (.int .i64 (hs'.getD j 0 : Nat))) := hid (fun j hj => HCL7.out j hj)
  have HG8 : Hid (g3 < (w7.drewN q).heap.size) := hid HG7.out
  obtain ⟨w8, hw8⟩ : ∃ w8, w8 = w7.drewN q := ⟨_, rfl⟩
  rw [← hw8] at HB8 HTR8 HCL8 HG8 ⊢
  clear hw8 HB7 HTR7 HCL7 HG7
  go_wp2_with fail
  go_loopw [17, 18] (fun inn i wr => ∃ j : Nat, j ≤ m ∧ i = .int .i64 j ∧ inn = .bool (inB px py x y hs' j) ∧ Hid (Below w8.heap.size w8 wr)) (fun _ i _ => m - (intOf i).toNat)
  case atStart => exact ⟨0, Nat.zero_le _, rfl, rfl, hid (Below.refl _ _)⟩
  case round =>
    obtain ⟨j, hj, rfl, rfl, HB⟩ := hrel
    have BW := hid (HB8.out.trans (HB.out.mono HB8.out.size))
    by_cases hjm : j < m
    · have hjm' : (j : Int) < m := by omega
      have HIN : Hid (inB px py x y hs' (j + 1) = (inB px py x y hs' j && decide (0 ≤ tp px py x y (hs'.getD j 0) (hs'.getD ((j + 1) % m) 0)))) := hid (by rw [HMM.out]; rfl)
      obtain ⟨ib, hib⟩ : ∃ ib, ib = inB px py x y hs' j := ⟨_, rfl⟩
      rw [← hib] at HIN ⊢
      clear hib
      cases ib with
      | false =>
        have HR : Hid (inB px py x y hs' (j + 1) = false) := hid (by rw [HIN.out]; rfl)
        clear HIN
        go_wp2_with fail
        go_quiet (fail)
        go_wp2_with fail
        go_roundw
        case rel => exact ⟨j + 1, by omega, by go_num, by rw [HR.out], hid (below_drewN HB.out _)⟩
        case measure => simp [intOf]; omega
      | true =>
        have HR : Hid (inB px py x y hs' (j + 1) = decide (0 ≤ tp px py x y (hs'.getD j 0) (hs'.getD ((j + 1) % m) 0))) := hid (by rw [HIN.out]; rfl)
        clear HIN
        obtain ⟨i1, hi1⟩ : ∃ i1, i1 = (j + 1) % m := ⟨_, rfl⟩
        have li1 : i1 < m := by rw [hi1]; exact Nat.mod_lt _ (by omega)
        have m1 : ((j : Int) + 1) % (m : Int) = (i1 : Int) := by rw [hi1]; push_cast; rfl
        rw [← hi1] at HR
        have na := HCN.out.lt j (by rw [← HMM.out]; exact hjm)
        have nb := HCN.out.lt i1 (by rw [← HMM.out]; exact li1)
        have ca := (HB.out.cell (p := ⟨g3, j, none⟩) HG8.out).trans (HCL8.out j (by rw [← HMM.out]; exact hjm))
        have cb := (HB.out.cell (p := ⟨g3, i1, none⟩) HG8.out).trans (HCL8.out i1 (by rw [← HMM.out]; exact li1))
        clear hi1
        obtain ⟨ai, hai⟩ : ∃ ai, ai = hs'.getD j 0 := ⟨_, rfl⟩
        obtain ⟨bi, hbi⟩ : ∃ bi, bi = hs'.getD i1 0 := ⟨_, rfl⟩
        rw [← hai] at na ca HR
        rw [← hbi] at nb cb HR
        clear hai hbi
        have hpw := HP4.out.below BW.out HP4.out.lt
        have xa := hpw.x ai na
        have ya := hpw.y ai na
        have xb := hpw.x bi nb
        have yb := hpw.y bi nb
        rw [Nat.zero_add] at xa ya xb yb
        have pX := (BW.out.cell (p := ⟨bq, 0, none⟩) BQ.out).trans HPX.out
        have pY := (BW.out.cell (p := ⟨bq, 1, none⟩) BQ.out).trans HPY.out
        have gl := hpw.lt
        have gl3 : g3 < wr.heap.size := Nat.lt_of_lt_of_le HG8.out HB.out.size
        have glq : bq < wr.heap.size := Nat.lt_of_lt_of_le BQ.out BW.out.size
        have B6 : Bd6 (px ai) (py ai) (px bi) (py bi) x y := ⟨bd4 BDS.out na nb, X, Y⟩
        have a' : (ai : Int) < n := by omega
        have b' : (bi : Int) < n := by omega
        have l1' : (i1 : Int) < m := by omega
        have q1 : (0 : Int) ≤ (j : Int) := by omega
        have q2 : (0 : Int) ≤ (i1 : Int) := by omega
        have q3 : (0 : Int) ≤ (ai : Int) := by omega
        have q4 : (0 : Int) ≤ (bi : Int) := by omega
        have y2 : IntKind.i64.wrap ((j : Int) + 1) = j + 1 := by rw [IntKind.wrap_i64]; omega
        have hm0 : ¬ (m : Int) = 0 := by omega
        have hm0' : ¬ m = 0 := by omega
        have dm : ((m : Int) == 0) = false := by simp; omega
        have tm : Int.tmod ((j : Int) + 1) (m : Int) = (i1 : Int) := by rw [Int.tmod_eq_emod_of_nonneg (by omega)]; exact m1
        have TN := hid turn_6
        have KEEP : Hid (∀ W, Below wr.heap.size wr W → W.cell? ⟨g3, j, none⟩ = some (.int .i64 (ai : Nat)) ∧ W.cell? ⟨g3, i1, none⟩ = some (.int .i64 (bi : Nat)) ∧ W.cell? ⟨g, ai * 2, none⟩ = some (.int .i64 (px ai)) ∧ W.cell? ⟨g, ai * 2 + 1, none⟩ = some (.int .i64 (py ai)) ∧ W.cell? ⟨g, bi * 2, none⟩ = some (.int .i64 (px bi)) ∧ W.cell? ⟨g, bi * 2 + 1, none⟩ = some (.int .i64 (py bi)) ∧ W.cell? ⟨bq, 0, none⟩ = some (.int .i64 x) ∧ W.cell? ⟨bq, 1, none⟩ = some (.int .i64 y)) := hid fun W hW => ⟨(hW.cell (by exact gl3)).trans ca, (hW.cell (by exact gl3)).trans cb, (hW.cell (by exact gl)).trans xa, (hW.cell (by exact gl)).trans ya, (hW.cell (by exact gl)).trans xb, (hW.cell (by exact gl)).trans yb, (hW.cell (by exact glq)).trans pX, (hW.cell (by exact glq)).trans pY⟩
        have START := KEEP.out wr.drew (Below.refl _ _).drew
        clear hpw ca cb xa ya xb yb pX pY
        go_wp2_with fail
        go_region_held3 (fun W => W.cell? ⟨g3, j, none⟩ = some (.int .i64 (ai : Nat)) ∧ W.cell? ⟨g3, i1, none⟩ = some (.int .i64 (bi : Nat)) ∧ W.cell? ⟨g, ai * 2, none⟩ = some (.int .i64 (px ai)) ∧ W.cell? ⟨g, ai * 2 + 1, none⟩ = some (.int .i64 (py ai)) ∧ W.cell? ⟨g, bi * 2, none⟩ = some (.int .i64 (px bi)) ∧ W.cell? ⟨g, bi * 2 + 1, none⟩ = some (.int .i64 (py bi)) ∧ W.cell? ⟨bq, 0, none⟩ = some (.int .i64 x) ∧ W.cell? ⟨bq, 1, none⟩ = some (.int .i64 y)) (assumption)
          ((go_at_call 23; refine (TN.out _ _ _ _ _ _ _ (by assumption)).mono ?_; rintro e w9 ⟨rfl, hb9⟩; have HB9 : Hid (Below wr.heap.size wr w9) := hid ((Below.refl _ _).drew.trans hb9); have HK := KEEP.out w9 HB9.out; clear hb9))
        clear HK START KEEP
        have HR9 : Hid (inB px py x y hs' (j + 1) = decide (0 ≤ tw (px ai) (py ai) (px bi) (py bi) x y)) := HR
        obtain ⟨tv, htv⟩ : ∃ tv, tv = decide (0 ≤ tw (px ai) (py ai) (px bi) (py bi) x y) := ⟨_, rfl⟩
        rw [← htv] at HR9 ⊢
        clear htv HR
        go_wp2_with fail
        go_roundw
        case rel => exact ⟨j + 1, by omega, by go_num, by rw [HR9.out], hid (HB.out.trans (HB9.out.mono HB.out.size))⟩
        case measure => simp [intOf]; omega
    · have hjj : j = m := by omega
      subst hjj
      have LC := hid (locate_any px py n g 0 cp g2 0 k cp2 (dz d) x y wr (HP4.out.below BW.out HP4.out.lt) (by have := HTR8.out.below HB.out; rw [← HKK.out] at this; exact this) (by omega))
      have pX := (BW.out.cell (p := ⟨bq, 0, none⟩) BQ.out).trans HPX.out
      have pY := (BW.out.cell (p := ⟨bq, 1, none⟩) BQ.out).trans HPY.out
      have glq : bq < wr.heap.size := Nat.lt_of_lt_of_le BQ.out BW.out.size
      obtain ⟨lo, hlo⟩ : ∃ lo, lo = locI px py n (dz d) k x y := ⟨_, rfl⟩
      rw [← hlo] at LC
      have HLO := hid hlo
      clear hlo
      obtain ⟨ib, hib⟩ : ∃ ib, ib = inB px py x y hs' j := ⟨_, rfl⟩
      rw [← hib]
      have HIB := hid hib
      clear hib
      cases ib with
      | false =>
        have e1 : lo = -1 := by
          have := loc_out BDS.out HM.out HT.out HCN.out X Y (by rw [← HMM.out]; exact HIB.out.symm)
          rw [HLO.out, HKK.out]; exact this
        subst e1
        go_wp2_with fail
        refine LC.out.mono ?_
        rintro e w9 ⟨rfl, hb9⟩
        have HB9 := hid (BW.out.trans (hb9.mono BW.out.size))
        clear hb9 LC
        go_wp2_with fail
        go_ret
        exact ⟨rfl, HB4.out.trans (HB9.out.mono HB4.out.size)⟩
      | true =>
        have SM := hid (in_some HS.out HC.out HM.out HT.out HOS.out (by rw [← HMM.out]; exact HIB.out.symm))
        go_wp2_with fail
        refine LC.out.mono ?_
        rintro e w9 ⟨rfl, hb9⟩
        have HB9 := hid (BW.out.trans (hb9.mono BW.out.size))
        have HTR9 := hid ((HTR8.out.below HB.out).below hb9)
        clear hb9 LC pX pY HB HCL8 HB8 HTR8 BW
        go_wp2_with fail
        go_loopw [20] (fun i wr => ∃ i' : Nat, i' ≤ k ∧ i = .int .i64 i' ∧ Hid (∀ r, r < i' → triB px py x y (dA d r) (dB d r) (dC d r) = false) ∧ Hid (Below w9.heap.size w9 wr)) (fun i _ => k - (intOf i).toNat)
        case atStart => exact ⟨0, Nat.zero_le _, rfl, hid (fun r hr => by omega), hid (Below.refl _ _)⟩
        case round =>
          obtain ⟨i, hi, rfl, HF, HB⟩ := hrel
          have BW := hid (HB9.out.trans (HB.out.mono HB9.out.size))
          by_cases hik : i < k
          · have hik' : (i : Int) < k := by omega
            have hid' : i < d.size := by rw [← HKK.out]; exact hik
            obtain ⟨z0, z1, z2⟩ := (HTR9.out.below HB.out).2 i hid'
            obtain ⟨y0', y1', y2'⟩ := (HT.out.row3 HM.out.mesh).z i hid'
            have nn := (HT.out.row3 HM.out.mesh).a i hid'
            rw [y0'] at z0
            rw [y1'] at z1
            rw [y2'] at z2
            rw [Nat.zero_add] at z0 z1 z2
            have HTB : Hid (triB px py x y (dA d i) (dB d i) (dC d i) = (decide (0 ≤ tw (px (dA d i)) (py (dA d i)) (px (dB d i)) (py (dB d i)) x y) && (decide (0 ≤ tw (px (dB d i)) (py (dB d i)) (px (dC d i)) (py (dC d i)) x y) && decide (0 ≤ tw (px (dC d i)) (py (dC d i)) (px (dA d i)) (py (dA d i)) x y)))) := hid rfl
            obtain ⟨ta, hta⟩ : ∃ ta, ta = dA d i := ⟨_, rfl⟩
            obtain ⟨tb, htb⟩ : ∃ tb, tb = dB d i := ⟨_, rfl⟩
            obtain ⟨tc, htc⟩ : ∃ tc, tc = dC d i := ⟨_, rfl⟩
            have HABC := hid (And.intro hta (And.intro htb htc))
            rw [← hta] at z0 nn HTB
            rw [← htb] at z1 nn HTB
            rw [← htc] at z2 nn HTB
            clear hta htb htc y0' y1' y2' hid'
            obtain ⟨na, nb, nc⟩ := nn
            have hpw := HP4.out.below BW.out HP4.out.lt
            have xa := hpw.x ta na
            have ya := hpw.y ta na
            have xb := hpw.x tb nb
            have yb := hpw.y tb nb
            have xc := hpw.x tc nc
            have yc := hpw.y tc nc
            rw [Nat.zero_add] at xa ya xb yb xc yc
            have pX := (BW.out.cell (p := ⟨bq, 0, none⟩) BQ.out).trans HPX.out
            have pY := (BW.out.cell (p := ⟨bq, 1, none⟩) BQ.out).trans HPY.out
            have a' : (ta : Int) < n := by omega
            have b' : (tb : Int) < n := by omega
            have c' : (tc : Int) < n := by omega
            have B1 : Bd6 (px ta) (py ta) (px tb) (py tb) x y := ⟨bd4 BDS.out na nb, X, Y⟩
            have B2 : Bd6 (px tb) (py tb) (px tc) (py tc) x y := ⟨bd4 BDS.out nb nc, X, Y⟩
            have B3 : Bd6 (px tc) (py tc) (px ta) (py ta) x y := ⟨bd4 BDS.out nc na, X, Y⟩
            have gl := hpw.lt
            have TN := hid turn_6
            have z1' : ∀ o, (wr.alloc o).cell? ⟨g2, i * 3 + 1, none⟩ = some (.int .i64 (tb : Nat)) := fun o => cell_new z1
            have xb' : ∀ o, (wr.alloc o).cell? ⟨g, tb * 2, none⟩ = some (.int .i64 (px tb)) := fun o => cell_new xb
            have yb' : ∀ o, (wr.alloc o).cell? ⟨g, tb * 2 + 1, none⟩ = some (.int .i64 (py tb)) := fun o => cell_new yb
            have z2' : ∀ o o', ((wr.alloc o).alloc o').cell? ⟨g2, i * 3 + 2, none⟩ = some (.int .i64 (tc : Nat)) := fun o o' => cell_new (cell_new z2)
            have xc' : ∀ o o', ((wr.alloc o).alloc o').cell? ⟨g, tc * 2, none⟩ = some (.int .i64 (px tc)) := fun o o' => cell_new (cell_new xc)
            have yc' : ∀ o o', ((wr.alloc o).alloc o').cell? ⟨g, tc * 2 + 1, none⟩ = some (.int .i64 (py tc)) := fun o o' => cell_new (cell_new yc)
            have pX' : ∀ o o' o'', (((wr.alloc o).alloc o').alloc o'').cell? ⟨bq, 0, none⟩ = some (.int .i64 x) := fun o o' o'' => cell_new (cell_new (cell_new pX))
            have pY' : ∀ o o' o'', (((wr.alloc o).alloc o').alloc o'').cell? ⟨bq, 1, none⟩ = some (.int .i64 y) := fun o o' o'' => cell_new (cell_new (cell_new pY))
            clear hpw z1 xb yb z2 xc yc pX pY
            go_wp2_with fail
            obtain ⟨W3, hW3⟩ : ∃ W3 : World, W3 = ((wr.alloc (.cells #[.int .i64 (px ta), .int .i64 (py ta)] 35)).alloc (.cells #[.int .i64 (px tb), .int .i64 (py tb)] 35)).alloc (.cells #[.int .i64 (px tc), .int .i64 (py tc)] 35) := ⟨_, rfl⟩
            have hB3 : Below wr.heap.size wr W3 := by rw [hW3]; exact (((Below.refl _ _).alloc (Nat.le_refl _) _).alloc (by simp) _).alloc (by simp <;> omega) _
            have hsz : W3.heap.size = wr.heap.size + 1 + 1 + 1 := by rw [hW3]; simp
            have c0 : W3.cell? ⟨wr.heap.size, 0, none⟩ = some (.int .i64 (px ta)) ∧ W3.cell? ⟨wr.heap.size, 1, none⟩ = some (.int .i64 (py ta)) ∧ W3.cell? ⟨wr.heap.size + 1, 0, none⟩ = some (.int .i64 (px tb)) ∧ W3.cell? ⟨wr.heap.size + 1, 1, none⟩ = some (.int .i64 (py tb)) ∧ W3.cell? ⟨wr.heap.size + 1 + 1, 0, none⟩ = some (.int .i64 (px tc)) ∧ W3.cell? ⟨wr.heap.size + 1 + 1, 1, none⟩ = some (.int .i64 (py tc)) ∧ W3.cell? ⟨bq, 0, none⟩ = some (.int .i64 x) ∧ W3.cell? ⟨bq, 1, none⟩ = some (.int .i64 y) := by
              rw [hW3]
              refine ⟨?_, ?_, ?_, ?_, ?_, ?_, pX' _ _ _, pY' _ _ _⟩
              · rw [World.cell?_alloc_past _ _ _ (by simp <;> omega), World.cell?_alloc_past _ _ _ (by simp), World.cell?_alloc_at _ _ _ _ (by simp)]; rfl
              · rw [World.cell?_alloc_past _ _ _ (by simp <;> omega), World.cell?_alloc_past _ _ _ (by simp), World.cell?_alloc_at _ _ _ _ (by simp)]; rfl
              · rw [World.cell?_alloc_past _ _ _ (by simp), World.cell?_alloc_at _ _ _ _ (by simp)]; rfl
              · rw [World.cell?_alloc_past _ _ _ (by simp), World.cell?_alloc_at _ _ _ _ (by simp)]; rfl
              · rw [World.cell?_alloc_at _ _ _ _ (by simp)]; rfl
              · rw [World.cell?_alloc_at _ _ _ _ (by simp)]; rfl
            have glq : bq < W3.heap.size := World.block_lt_of_cell? W3 _ c0.2.2.2.2.2.2.1
            have KC : Hid (∀ W, Below W3.heap.size W3 W → W.cell? ⟨wr.heap.size, 0, none⟩ = some (.int .i64 (px ta)) ∧ W.cell? ⟨wr.heap.size, 1, none⟩ = some (.int .i64 (py ta)) ∧ W.cell? ⟨wr.heap.size + 1, 0, none⟩ = some (.int .i64 (px tb)) ∧ W.cell? ⟨wr.heap.size + 1, 1, none⟩ = some (.int .i64 (py tb)) ∧ W.cell? ⟨wr.heap.size + 1 + 1, 0, none⟩ = some (.int .i64 (px tc)) ∧ W.cell? ⟨wr.heap.size + 1 + 1, 1, none⟩ = some (.int .i64 (py tc)) ∧ W.cell? ⟨bq, 0, none⟩ = some (.int .i64 x) ∧ W.cell? ⟨bq, 1, none⟩ = some (.int .i64 y)) := hid fun W hW => by
              obtain ⟨k0, k1, k2, k3, k4, k5, k6, k7⟩ := c0
              exact ⟨(hW.cell (by show wr.heap.size < _; omega)).trans k0, (hW.cell (by show wr.heap.size < _; omega)).trans k1, (hW.cell (by show wr.heap.size + 1 < _; omega)).trans k2, (hW.cell (by show wr.heap.size + 1 < _; omega)).trans k3, (hW.cell (by show wr.heap.size + 1 + 1 < _; omega)).trans k4, (hW.cell (by show wr.heap.size + 1 + 1 < _; omega)).trans k5, (hW.cell (by exact glq)).trans k6, (hW.cell (by exact glq)).trans k7⟩
            have HB3 := hid (HB.out.trans (hB3.mono HB.out.size))
            rw [← hW3]
            clear hW3 hB3 hsz c0 pX' pY' z0 z1' z2' xa ya xb' yb' xc' yc' glq
            obtain ⟨t1, ht1⟩ : ∃ t1, t1 = tw (px ta) (py ta) (px tb) (py tb) x y := ⟨_, rfl⟩
            obtain ⟨t2, ht2⟩ : ∃ t2, t2 = tw (px tb) (py tb) (px tc) (py tc) x y := ⟨_, rfl⟩
            obtain ⟨t3, ht3⟩ : ∃ t3, t3 = tw (px tc) (py tc) (px ta) (py ta) x y := ⟨_, rfl⟩
            have T1 := hid (fun W => turn_6 (px ta) (py ta) (px tb) (py tb) x y W B1)
            have T2 := hid (fun W => turn_6 (px tb) (py tb) (px tc) (py tc) x y W B2)
            have T3 := hid (fun W => turn_6 (px tc) (py tc) (px ta) (py ta) x y W B3)
            rw [← ht1] at T1 HTB
            rw [← ht2] at T2 HTB
            rw [← ht3] at T3 HTB
            clear ht1 ht2 ht3 B1 B2 B3 TN
            have NO : Hid (triB px py x y ta tb tc = false → ∀ r, r < i + 1 → triB px py x y (dA d r) (dB d r) (dC d r) = false) := hid fun hf r hr => by
              rcases Nat.lt_or_ge r i with q | q
              · exact HF.out r q
              · have : r = i := by omega
                subst this
                rw [← HABC.out.1, ← HABC.out.2.1, ← HABC.out.2.2]
                exact hf
            refine (T1.out _).mono ?_
            rintro e w10 ⟨rfl, hb10⟩
            have HB10 := hid (HB3.out.trans (hb10.mono HB3.out.size))
            have HK10 := hid hb10
            clear hb10
            by_cases g1 : 0 ≤ t1
            · have d1 : decide (0 ≤ t1) = true := decide_eq_true g1
              obtain ⟨k0, k1, k2, k3, k4, k5, k6, k7⟩ := KC.out w10 HK10.out
              go_wp2_with fail
              refine (T2.out _).mono ?_
              rintro e w11 ⟨rfl, hb11⟩
              have HB11 := hid (HB10.out.trans (hb11.mono HB10.out.size))
              have HK11 := hid (HK10.out.trans (hb11.mono HK10.out.size))
              clear hb11 k0 k1 k2 k3 k4 k5 k6 k7
              by_cases g2 : 0 ≤ t2
              · have d2 : decide (0 ≤ t2) = true := decide_eq_true g2
                obtain ⟨k0, k1, k2, k3, k4, k5, k6, k7⟩ := KC.out w11 HK11.out
                go_wp2_with fail
                refine (T3.out _).mono ?_
                rintro e w12 ⟨rfl, hb12⟩
                have HB12 := hid (HB11.out.trans (hb12.mono HB11.out.size))
                clear hb12 k0 k1 k2 k3 k4 k5 k6 k7
                by_cases g3' : 0 ≤ t3
                · have e1 : triB px py x y ta tb tc = true := by rw [HTB.out, decide_eq_true g1, decide_eq_true g2, decide_eq_true g3']; rfl
                  have e2 : lo = i := by
                    rw [HLO.out, HKK.out]
                    refine loc_hit (by rw [← HKK.out]; exact hik) ?_ (fun r hr => ?_)
                    · rw [hit_tri BDS.out HM.out HT.out X Y (by rw [← HKK.out]; exact hik), ← HABC.out.1, ← HABC.out.2.1, ← HABC.out.2.2]
                      exact e1
                    · rw [hit_tri BDS.out HM.out HT.out X Y (by rw [← HKK.out]; omega)]
                      exact HF.out r hr
                  subst e2
                  go_wp2_with fail
                  go_ret
                  exact ⟨rfl, HB4.out.trans ((HB9.out.trans (HB12.out.mono HB9.out.size)).mono HB4.out.size)⟩
                · have e1 : triB px py x y ta tb tc = false := by rw [HTB.out, decide_eq_false g3']; simp
                  have NN := hid (NO.out e1)
                  clear e1
                  go_wp2_with fail
                  go_roundw
                  case rel => exact ⟨i + 1, by omega, by go_num, NN, HB12⟩
                  case measure => simp [intOf]; omega
              · have e1 : triB px py x y ta tb tc = false := by rw [HTB.out, decide_eq_false g2]; simp
                have NN := hid (NO.out e1)
                clear e1
                go_wp2_with fail
                go_roundw
                case rel => exact ⟨i + 1, by omega, by go_num, NN, HB11⟩
                case measure => simp [intOf]; omega
            · have e1 : triB px py x y ta tb tc = false := by rw [HTB.out, decide_eq_false g1]; simp
              have NN := hid (NO.out e1)
              clear e1
              go_wp2_with fail
              go_roundw
              case rel => exact ⟨i + 1, by omega, by go_num, NN, HB10⟩
              case measure => simp [intOf]; omega
          · exfalso
            obtain ⟨r, hr, ht⟩ := SM.out
            rw [HF.out r (by rw [← HKK.out] at hr; omega)] at ht
            cases ht
end Go.Proofs.YtdbebbbceeopaaaGreat

set_option linter.unusedSimpArgs false
namespace Go.Proofs.YtdbebbbceeopaaaGreat
open Go.RowKit

set_option maxRecDepth 100000 in
set_option maxHeartbeats 2000000 in
theorem karea_any (px py : Nat → Int) (n g cap g2 m cp2 : Nat) (z : List Int) (A B C : Nat → Nat) (w : World) (hp : Pts w g 0 n px py) (ht : Trs w g2 0 m z) (hm : m ≤ 1600) (hbd : Bds n px py) (hr : Row3 n m z A B C) :
    Calls Tryz.prog 28 #[.slice (some ⟨g, 0, none⟩) n cap, .slice (some ⟨g2, 0, none⟩) m cp2] w fun e w' => e = .returned (.int .i64 (su px py A B C m)) ∧ Below w.heap.size w w' := by
  have HP := hid hp
  have HT := hid ht
  have HBD := hid hbd
  have HR := hid hr
  have HF := hid (su_bd hbd (m := m) hr.a)
  clear hp ht hbd hr
  go_enter Tryz.func28, Tryz.ntmps28
  go_wp2_with fail
  go_loopw [5, 6] (fun s i wr => ∃ k : Nat, k ≤ m ∧ i = .int .i64 k ∧ s = .int .i64 (su px py A B C k) ∧ Hid (Below w.heap.size w wr)) (fun _ i _ => m - (intOf i).toNat)
  case atStart => exact ⟨0, Nat.zero_le _, rfl, rfl, hid (Below.refl _ _)⟩
  case round =>
    obtain ⟨k, hk, rfl, rfl, HB⟩ := hrel
    by_cases hlt : k < m
    · have hlt' : (k : Int) < m := by omega
      obtain ⟨d0, d1, d2⟩ := (HT.out.below HB.out).2 k hlt
      obtain ⟨y0, y1, y2⟩ := HR.out.z k hlt
      rw [y0, Nat.zero_add] at d0
      rw [y1, Nat.zero_add] at d1
      rw [y2, Nat.zero_add] at d2
      obtain ⟨l0, l1, l2⟩ := HR.out.a k hlt
      have bd := HF.out k (by omega)
      have FN : Hid (su px py A B C (k + 1) = su px py A B C k + T px py (A k) (B k) (C k)) := hid rfl
      generalize A k = a at *
      generalize B k = b at *
      generalize C k = c at *
      have hpw := HP.out.below HB.out HP.out.lt
      have xa := hpw.x a l0
      have ya := hpw.y a l0
      have xb := hpw.x b l1
      have yb := hpw.y b l1
      have xc := hpw.x c l2
      have yc := hpw.y c l2
      rw [Nat.zero_add] at xa ya xb yb xc yc
      have gl := hpw.lt
      have gt : g2 < wr.heap.size := (HT.out.below HB.out).1
      have tb := T_bd HBD.out l0 l1 l2
      have B6 : Bd6 (px a) (py a) (px b) (py b) (px c) (py c) := ⟨bd4 HBD.out l0 l1, (HBD.out c l2).1, (HBD.out c l2).2⟩
      have K1 := hid (fun W => turn_6 (px a) (py a) (px b) (py b) (px c) (py c) W B6)
      have et : tw (px a) (py a) (px b) (py b) (px c) (py c) = T px py a b c := rfl
      rw [et] at K1
      clear et B6
      generalize T px py a b c = t at *
      generalize su px py A B C k = f at *
      have a' : (a : Int) < n := by omega
      have b' : (b : Int) < n := by omega
      have c' : (c : Int) < n := by omega
      have z0 : (0 : Int) ≤ (a : Int) := by omega
      have z1 : (0 : Int) ≤ (b : Int) := by omega
      have z2 : (0 : Int) ≤ (c : Int) := by omega
      have z3 : (0 : Int) ≤ (k : Int) := by omega
      have wf : IntKind.i64.wrap (f + t) = f + t := by rw [IntKind.wrap_i64]; omega
      clear hpw y0 y1 y2
      go_wp2_with fail
      go_region_held3 (fun w' => w'.cell? ⟨g2, k * 3, none⟩ = some (.int .i64 a) ∧ w'.cell? ⟨g2, k * 3 + 1, none⟩ = some (.int .i64 b) ∧ w'.cell? ⟨g2, k * 3 + 2, none⟩ = some (.int .i64 c) ∧ w'.cell? ⟨g, a * 2, none⟩ = some (.int .i64 (px a)) ∧ w'.cell? ⟨g, a * 2 + 1, none⟩ = some (.int .i64 (py a)) ∧ w'.cell? ⟨g, b * 2, none⟩ = some (.int .i64 (px b)) ∧ w'.cell? ⟨g, b * 2 + 1, none⟩ = some (.int .i64 (py b)) ∧ w'.cell? ⟨g, c * 2, none⟩ = some (.int .i64 (px c)) ∧ w'.cell? ⟨g, c * 2 + 1, none⟩ = some (.int .i64 (py c))) (go_keep)
        ((go_at_call 23; refine (K1.out _).mono ?_; rintro e w6 ⟨rfl, hb6⟩; have u1 := (hb6.cell (p := ⟨g, a * 2, none⟩) gl).trans xa; have u2 := (hb6.cell (p := ⟨g, a * 2 + 1, none⟩) gl).trans ya; have u3 := (hb6.cell (p := ⟨g, b * 2, none⟩) gl).trans xb; have u4 := (hb6.cell (p := ⟨g, b * 2 + 1, none⟩) gl).trans yb; have u5 := (hb6.cell (p := ⟨g, c * 2, none⟩) gl).trans xc; have u6 := (hb6.cell (p := ⟨g, c * 2 + 1, none⟩) gl).trans yc; have v0 := (hb6.cell (p := ⟨g2, k * 3, none⟩) gt).trans d0; have v1 := (hb6.cell (p := ⟨g2, k * 3 + 1, none⟩) gt).trans d1; have v2 := (hb6.cell (p := ⟨g2, k * 3 + 2, none⟩) gt).trans d2; have HB6 := hid hb6; clear hb6))
      clear u1 u2 u3 u4 u5 u6 v0 v1 v2 xa ya xb yb xc yc d0 d1 d2
      go_wp2_with fail
      go_roundw
      case rel => exact ⟨k + 1, by omega, by go_num, by rw [FN.out], hid (HB.out.drew.trans (HB6.out.mono HB.out.size))⟩
      case measure => simp [intOf]; omega
    · have hkm : k = m := by omega
      subst hkm
      go_wp2_with fail
      go_ret
      exact ⟨rfl, HB.out⟩
end Go.Proofs.YtdbebbbceeopaaaGreat
