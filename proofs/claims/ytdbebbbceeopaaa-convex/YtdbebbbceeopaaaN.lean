import Derived.Test.YtdbebbbceeopaaaK
import Derived.Test.YtdbebbbceeopaaaL
import Derived.Test.YtdbebbbceeopaaaM
namespace Go.Proofs.Ytdbebbbceeopaaa
open Go.RowKit
open Go.Sort (SortedIn)
open Geo

set_option maxRecDepth 100000 in
set_option maxHeartbeats 1000000 in
theorem points_zero (a : Option Addr) (cap : Nat) (sz : Int) (w : World) (hsz : (Lit.int .i64 sz).wf = true) :
    Calls Try.prog 4 #[.slice a 0 cap, .int .i64 sz] w fun e w' => ∃ v N ps, e = .returned v ∧ Below w.heap.size w w' ∧ Sq N ps ∧ w'.ownsRow w.heap.size 30 2 v ps.length (cellsP ps) := by
  have hpk := pickI_bd sz 400 (by omega)
  have c1 := hid (pick_any sz 400 (wf_bd hsz) (by omega) (by omega))
  generalize pickI sz 400 = pk at *
  clear hsz
  go_enter Try.func4, Try.ntmps4
  go_wp2_with (go_at_call 8; refine (c1.out _).mono ?_; rintro e w' ⟨rfl, he⟩; have he' := he.symm; subst he'; clear he)
  refine wp_loop_rounds 1 ?_
  rw [rounds_succ]
  obtain ⟨N, hN⟩ : ∃ N, N = 8 + pk := ⟨_, rfl⟩
  have hN1 : 8 ≤ N := by omega
  have hN2 : N ≤ 407 := by omega
  rw [← hN]
  have H0 := hid (Sq.start N hN1 hN2)
  have H1 := hid (start_owns w N)
  have H2 := hid ((Below.refl w.heap.size w).alloc (Nat.le_refl _) (.cells #[.int .i64 0, .int .i64 0, .int .i64 N, .int .i64 0, .int .i64 0, .int .i64 N] 30))
  clear hN hpk c1
  go_wp2
  go_ret
  exact ⟨_, N, _, rfl, H2.out, H0.out, H1.out⟩

/-- The points of a square, by their numbers. -/
def sx (ps : List (Int × Int)) (i : Nat) : Int := (ps.getD i (0, 0)).1
def sy (ps : List (Int × Int)) (i : Nat) : Int := (ps.getD i (0, 0)).2

theorem sq_bd {N : Int} {ps : List (Int × Int)} (h : Sq N ps) (i : Nat) (hi : i < ps.length) : (0 ≤ sx ps i ∧ sx ps i ≤ N) ∧ (0 ≤ sy ps i ∧ sy ps i ≤ N) := by
  unfold sx sy
  rw [List.getD_eq_getElem?_getD, List.getElem?_eq_getElem hi]
  exact h.bd _ (List.getElem_mem _)

theorem sq_ne {N : Int} {ps : List (Int × Int)} (h : Sq N ps) (i j : Nat) (hi : i < ps.length) (hj : j < ps.length) (hne : i ≠ j) : ¬ (sx ps i = sx ps j ∧ sy ps i = sy ps j) := by
  rintro ⟨e1, e2⟩
  unfold sx at e1
  unfold sy at e2
  rw [List.getD_eq_getElem?_getD, List.getD_eq_getElem?_getD, List.getElem?_eq_getElem hi, List.getElem?_eq_getElem hj] at e1 e2
  have e : ps[i] = ps[j] := Prod.ext e1 e2
  have nd := List.pairwise_iff_getElem.1 h.nodup
  rcases Nat.lt_or_gt_of_ne hne with hl | hl
  · exact nd i j hi hj hl e
  · exact nd j i hj hi hl e.symm

theorem sq_wide {N : Int} {ps : List (Int × Int)} (h : Sq N ps) : T (sx ps) (sy ps) 0 1 2 ≠ 0 := by
  have b := h.big
  have e0 : ps.getD 0 (0, 0) = (0, 0) := by rw [List.getD_eq_getElem?_getD, h.p0]; rfl
  have e1 : ps.getD 1 (0, 0) = (N, 0) := by rw [List.getD_eq_getElem?_getD, h.p1]; rfl
  have e2 : ps.getD 2 (0, 0) = (0, N) := by rw [List.getD_eq_getElem?_getD, h.p2]; rfl
  unfold T tw sx sy
  rw [e0, e1, e2]
  simp
  omega

theorem sq_ref {N : Int} {ps : List (Int × Int)} (h : Sq N ps) : refI (sx ps) (sy ps) ps.length = 0 := by
  have hA : allB (sx ps) (sy ps) ps.length = true := by
    rw [allB_iff]
    intro i hi
    have := sq_bd h i hi
    have b := h.small
    rw [near_iff, near_iff]
    omega
  have hT : twB (sx ps) (sy ps) ps.length = false := by
    cases hc : twB (sx ps) (sy ps) ps.length with
    | false => rfl
    | true =>
      obtain ⟨i, hi, hc⟩ := (twB_iff _ _ _).1 hc
      obtain ⟨j, hj, e⟩ := (twiceAt_iff _ _ _).1 hc
      exact absurd e (sq_ne h i j hi (by omega) (by omega))
  have hF : flatB (sx ps) (sy ps) (ps.length - 2) = false :=
    flatB_false _ _ _ 0 (by have := h.len; omega) (sq_wide h)
  simp [refI, hA, hT, hF]

theorem sq_pts {w : World} {g : Nat} {ps : List (Int × Int)} (hg : g < w.heap.size)
    (hc : ∀ i, (hi : i < ps.length) → w.cell? ⟨g, i * 2, none⟩ = some (.int .i64 ps[i].1) ∧ w.cell? ⟨g, i * 2 + 1, none⟩ = some (.int .i64 ps[i].2)) : Pts w g 0 ps.length (sx ps) (sy ps) := by
  refine ⟨hg, fun i hi => ?_, fun i hi => ?_⟩
  · rw [Nat.zero_add, (hc i hi).1]
    simp [sx, hi]
  · rw [Nat.zero_add, (hc i hi).2]
    simp [sy, hi]


/-- What Convex knows of the points, by their numbers. -/
structure Set (n : Nat) (px py : Nat → Int) : Prop where
  len : 3 ≤ n
  len' : n ≤ 30
  bd : ∀ i, i < n → (0 ≤ px i ∧ px i ≤ 407) ∧ (0 ≤ py i ∧ py i ≤ 407)
  ne : ∀ i j, i < n → j < n → i ≠ j → ¬ (px i = px j ∧ py i = py j)
  wide : T px py 0 1 2 ≠ 0
  ref : refI px py n = 0

theorem sq_set {N : Int} {ps : List (Int × Int)} (h : Sq N ps) : Set ps.length (sx ps) (sy ps) :=
  ⟨h.len, h.len', fun i hi => by have := sq_bd h i hi; have := h.small; omega, sq_ne h, sq_wide h, sq_ref h⟩

theorem points_set {arg : Array Value} {w : World} (hpts : Calls Try.prog 4 arg w fun e w' => ∃ v N ps, e = .returned v ∧ Below w.heap.size w w' ∧ Sq N ps ∧ w'.ownsRow w.heap.size 30 2 v ps.length (cellsP ps)) :
    Calls Try.prog 4 arg w fun e w' => ∃ g n cp px py, e = .returned (.slice (some ⟨g, 0, none⟩) n cp) ∧ Below w.heap.size w w' ∧ n ≤ cp ∧ Set n px py ∧ Pts w' g 0 n px py := by
  refine hpts.mono ?_
  rintro e w1 ⟨v, N, ps, rfl, hb1, hsq, ho⟩
  obtain ⟨g, cp, rfl, hgb, hgl, hcp, hcells⟩ := shape33 ho (by have := hsq.len; omega)
  exact ⟨g, ps.length, cp, sx ps, sy ps, rfl, hb1, hcp, sq_set hsq, sq_pts hgl hcells⟩

/-- What Convex knows of the corners, by their numbers. -/
structure Cor (n : Nat) (px py : Nat → Int) (m : Nat) (h : Nat → Nat) : Prop where
  len : 3 ≤ m
  lt : ∀ i, i < m → h i < n
  inj : ∀ i j, i < j → j < m → h i ≠ h j
  side : ∀ i, i < m → ∀ p, p < n → 0 ≤ T px py (h i) (h ((i + 1) % m)) p
  turn : ∀ i, i < m → 0 < T px py (h i) (h ((i + 1) % m)) (h ((i + 2) % m))

theorem hull_set {n : Nat} {px py : Nat → Int} (hS : Set n px py) (g cp : Nat) (w : World) (hp : Pts w g 0 n px py) (hcp : n ≤ cp) :
    Calls Try.prog 5 #[.slice (some ⟨g, 0, none⟩) n cp] w fun e w' => ∃ g2 m cp2 h, e = .returned (.tuple #[.slice (some ⟨g2, 0, none⟩) m cp2, .int .i64 0]) ∧ Below w.heap.size w w' ∧ m ≤ 100 ∧ g2 < w'.heap.size ∧
      Cor n px py m h ∧ ∀ j, j < m → w'.cell? ⟨g2, j, none⟩ = some (.int .i64 (h j : Nat)) := by
  have hz : NeZero n := ⟨by have := hS.len; omega⟩
  refine (hull_ok px py n g 0 cp w hp hS.len (by have := hS.len'; omega) hcp hS.ref).mono ?_
  rintro e w2 ⟨v2, rfl, hb2, d, hd, hperm, hsort, hown⟩
  have H := hullOf_isHull hS.len hd hperm hsort hS.ne ⟨2, by have := hS.len; omega, hS.wide⟩
  obtain ⟨g2, cp2, rfl, _, hg2, _, _, hc⟩ := row_of_owns hown (by have := H.len; omega)
  refine ⟨g2, _, cp2, fun i => (hullOf (T px py) (nums d)).getD i 0, rfl, hb2, ?_, hg2, ⟨H.len, H.lt, H.inj, H.side, H.turn⟩, ?_⟩
  · have a1 := stk_le (T px py) (nums d)
    have a2 := stk_le (T px py) (nums d).reverse
    rw [List.length_reverse] at a2
    rw [nums_len, hd] at a1 a2
    have := hS.len'
    simp only [hullOf, List.length_append, List.length_dropLast, List.length_reverse]
    omega
  · intro j hj
    rw [hc j hj]
    simp [encN, hj]

theorem boxes_kept (wr : World) (a b c d e f : Value) {w4 : World} (hb : Below (((wr.alloc (.cells #[a, b] 30)).alloc (.cells #[c, d] 30)).alloc (.cells #[e, f] 30)).heap.size (((wr.alloc (.cells #[a, b] 30)).alloc (.cells #[c, d] 30)).alloc (.cells #[e, f] 30)) w4) :
    wr.heap.size < w4.heap.size ∧ wr.heap.size + 1 < w4.heap.size ∧ w4.cell? ⟨wr.heap.size, 0, none⟩ = some a ∧ w4.cell? ⟨wr.heap.size, 1, none⟩ = some b ∧ w4.cell? ⟨wr.heap.size + 1, 0, none⟩ = some c ∧ w4.cell? ⟨wr.heap.size + 1, 1, none⟩ = some d := by
  have hs := hb.size
  have e1 : (((wr.alloc (.cells #[a, b] 30)).alloc (.cells #[c, d] 30)).alloc (.cells #[e, f] 30)).heap.size = wr.heap.size + 3 := by simp
  rw [e1] at hs
  have k : ∀ p : Addr, p.block < wr.heap.size + 3 → w4.cell? p = (((wr.alloc (.cells #[a, b] 30)).alloc (.cells #[c, d] 30)).alloc (.cells #[e, f] 30)).cell? p := fun p hp => hb.cell (by rw [e1]; exact hp)
  refine ⟨by omega, by omega, ?_, ?_, ?_, ?_⟩
  · rw [k ⟨wr.heap.size, 0, none⟩ (by simp), World.cell?_alloc_past _ _ _ (by simp; omega), World.cell?_alloc_past _ _ _ (by simp), World.cell?_alloc_at _ _ _ _ rfl]; rfl
  · rw [k ⟨wr.heap.size, 1, none⟩ (by simp), World.cell?_alloc_past _ _ _ (by simp; omega), World.cell?_alloc_past _ _ _ (by simp), World.cell?_alloc_at _ _ _ _ rfl]; rfl
  · rw [k ⟨wr.heap.size + 1, 0, none⟩ (by simp), World.cell?_alloc_past _ _ _ (by simp), World.cell?_alloc_at _ _ _ _ (by simp)]; rfl
  · rw [k ⟨wr.heap.size + 1, 1, none⟩ (by simp), World.cell?_alloc_past _ _ _ (by simp), World.cell?_alloc_at _ _ _ _ (by simp)]; rfl

set_option maxRecDepth 100000 in
set_option maxHeartbeats 2000000 in
theorem convex_any (a : Option Addr) (len cap : Nat) (sz : Int) (w : World)
    (hpts : Calls Try.prog 4 #[.slice a len cap, .int .i64 sz] w fun e w' => ∃ v N ps, e = .returned v ∧ Below w.heap.size w w' ∧ Sq N ps ∧ w'.ownsRow w.heap.size 30 2 v ps.length (cellsP ps)) :
    Calls Try.prog 3 #[.slice a len cap, .int .i64 sz] w fun e w' => e = .returned (.bool true) ∧ Below w.heap.size w w' := by
  have C1 := hid (points_set hpts)
  clear hpts
  go_enter Try.func3, Try.ntmps3
  go_wp2_with fail
  refine C1.out.mono ?_
  rintro e w1 ⟨g, n, cp, px, py, rfl, hb1, hcp, hS, hP⟩
  have C2 := hid (hull_set hS g cp w1 hP hcp)
  have HB1 := hid hb1
  have HS := hid hS
  have HP := hid hP
  have hn3 := hS.len
  have hn30 := hS.len'
  clear C1 hb1 hS hP
  go_wp2_with fail
  refine C2.out.mono ?_
  rintro e w2 ⟨g2, m, cp2, h, rfl, hb2, hm100, hg2, hC, hcell⟩
  have hm3 := hC.len
  have C3 := hid (known_any g2 m cp2 n h w2 hm3 hm100 hcell hC.lt hC.inj)
  have HB2 := hid (HB1.out.trans (hb2.mono HB1.out.size))
  have HP2 := hid (HP.out.below hb2 HP.out.lt)
  have HC := hid hC
  have HCL := hid hcell
  clear C2 hb2 hC hcell HB1 HP
  go_wp2_with fail
  refine C3.out.mono ?_
  rintro e w3 ⟨rfl, q, hw3⟩
  have HB3 : Hid (Below w.heap.size w w3) := by rw [hw3]; exact below_drewN HB2.out q
  have HP3 : Hid (Pts w3 g 0 n px py) := by rw [hw3]; exact ⟨HP2.out.lt, HP2.out.x, HP2.out.y⟩
  have HCL3 : Hid (∀ j, j < m → w3.cell? ⟨g2, j, none⟩ = some (.int .i64 (h j : Nat))) := by rw [hw3]; exact HCL.out
  have hg23 : g2 < w3.heap.size := by rw [hw3]; exact hg2
  clear C3 hw3 HB2 HP2 HCL hg2
  go_wp2
  go_loopw [9] (fun i wr => ∃ k : Nat, k ≤ m ∧ i = .int .i64 k ∧ Below w3.heap.size w3 wr) (fun i _ => m - (intOf i).toNat)
  case atStart => exact ⟨0, Nat.zero_le _, rfl, Below.refl _ _⟩
  case round =>
    obtain ⟨k, hk, rfl, hb⟩ := hrel
    by_cases hkm : k < m
    · have hpw := HP3.out.below hb HP3.out.lt
      have hclw : ∀ j, j < m → wr.cell? ⟨g2, j, none⟩ = some (.int .i64 (h j : Nat)) := fun j hj => (hb.cell (by exact hg23)).trans (HCL3.out j hj)
      obtain ⟨i1, hi1⟩ : ∃ i1, i1 = (k + 1) % m := ⟨_, rfl⟩
      obtain ⟨i2, hi2⟩ : ∃ i2, i2 = (k + 2) % m := ⟨_, rfl⟩
      have li1 : i1 < m := by rw [hi1]; exact Nat.mod_lt _ (by omega)
      have li2 : i2 < m := by rw [hi2]; exact Nat.mod_lt _ (by omega)
      have hsd := HC.out.side k hkm
      have htn := HC.out.turn k hkm
      rw [← hi1] at hsd htn
      rw [← hi2] at htn
      have na := HC.out.lt k hkm
      have nb := HC.out.lt i1 li1
      have nc := HC.out.lt i2 li2
      have ca := hclw k hkm
      have cb := hclw i1 li1
      have cc := hclw i2 li2
      generalize h k = ai at *
      generalize h i1 = bi at *
      generalize h i2 = ci at *
      have xa := hpw.x ai na
      have ya := hpw.y ai na
      have xb := hpw.x bi nb
      have yb := hpw.y bi nb
      have xc := hpw.x ci nc
      have yc := hpw.y ci nc
      rw [Nat.zero_add] at xa ya xb yb xc yc
      have m1 : ((k : Int) + 1) % (m : Int) = (i1 : Int) := by rw [hi1]; push_cast; rfl
      have m2 : ((k : Int) + 2) % (m : Int) = (i2 : Int) := by rw [hi2]; push_cast; rfl
      have HPW := hid hpw
      have HBW := hid hb
      have HSD := hid hsd
      have HTN := hid htn
      have k' : (k : Int) < m := by omega
      have a' : (ai : Int) < n := by omega
      have b' : (bi : Int) < n := by omega
      have c' : (ci : Int) < n := by omega
      have l1' : (i1 : Int) < m := by omega
      have l2' : (i2 : Int) < m := by omega
      have gl := hpw.lt
      have gl2 : g2 < wr.heap.size := Nat.lt_of_lt_of_le hg23 hb.size
      clear hclw hi1 hi2 hsd htn hb hpw
      have KT := hid (fun (i j l : Nat) (hi : i < n) (hj : j < n) (hl : l < n) (W : World) => kturn_any (px i) (py i) (px j) (py j) (px l) (py l) (by have := HS.out.bd i hi; omega) (by have := HS.out.bd i hi; omega) (by have := HS.out.bd j hj; omega) (by have := HS.out.bd j hj; omega) (by have := HS.out.bd l hl; omega) (by have := HS.out.bd l hl; omega) W)
      go_wp2_with fail
      refine (KT.out ai bi ci na nb nc _).mono ?_
      rintro e w4 ⟨rfl, hb4⟩
      have htp : (0 : Int) < tw (px ai) (py ai) (px bi) (py bi) (px ci) (py ci) := HTN.out
      generalize tw (px ai) (py ai) (px bi) (py bi) (px ci) (py ci) = t at *
      have htp' : decide (t ≤ 0) = false := by simp; omega
      have HB4 := hid hb4
      clear hb4 ca cb cc xc yc m1 m2
      go_wp2_with fail
      have hbx := boxes_kept wr _ _ _ _ _ _ HB4.out
      have hw4 : Below wr.heap.size wr w4 := (((Below.refl wr.heap.size wr).alloc (Nat.le_refl _) _).alloc (by simp) _).alloc (by simp; omega) _ |>.trans (HB4.out.mono (by simp; omega))
      have HPW4 := hid (HPW.out.below hw4 gl)
      have HBW4 := hid (HBW.out.trans (hw4.mono HBW.out.size))
      have HBX := hid hbx
      clear hbx hw4 HB4 HPW HBW xa ya xb yb
      generalize wr.heap.size = B0 at *
      go_loopw [13] (fun kk w5 => ∃ j : Nat, j ≤ n ∧ kk = .int .i64 j ∧ Below w4.heap.size w4 w5) (fun kk _ => n - (intOf kk).toNat)
      case atStart => exact ⟨0, Nat.zero_le _, rfl, Below.refl _ _⟩
      case round =>
        obtain ⟨j, hj, rfl, hb5⟩ := hrel
        by_cases hjn : j < n
        · have hp5 := HPW4.out.below hb5 HPW4.out.lt
          have xj := hp5.x j hjn
          have yj := hp5.y j hjn
          rw [Nat.zero_add] at xj yj
          obtain ⟨s1, s2, q1, q2, q3, q4⟩ := HBX.out
          have r1 := (hb5.cell (p := ⟨B0, 0, none⟩) s1).trans q1
          have r2 := (hb5.cell (p := ⟨B0, 1, none⟩) s1).trans q2
          have r3 := (hb5.cell (p := ⟨B0 + 1, 0, none⟩) s2).trans q3
          have r4 := (hb5.cell (p := ⟨B0 + 1, 1, none⟩) s2).trans q4
          have hsd : (0 : Int) ≤ tw (px ai) (py ai) (px bi) (py bi) (px j) (py j) := HSD.out j hjn
          have K1 := hid (KT.out ai bi j na nb hjn)
          have HB5 := hid hb5
          have hj' : (j : Int) < n := by omega
          have zz0 : (0 : Int) ≤ (j : Int) := by omega
          have hle : decide (tw (px ai) (py ai) (px bi) (py bi) (px j) (py j) < 0) = false := by simp; omega
          generalize tw (px ai) (py ai) (px bi) (py bi) (px j) (py j) = t2 at *
          have t1 : B0 < wr.heap.size := Nat.lt_of_lt_of_le s1 hb5.size
          have t2 : B0 + 1 < wr.heap.size := Nat.lt_of_lt_of_le s2 hb5.size
          have t3 : g < wr.heap.size := hp5.lt
          clear hp5 q1 q2 q3 q4 s1 s2 hb5
          go_wp2
          go_region_held3 (fun w' => w'.cell? ⟨B0, 0, none⟩ = some (.int .i64 (px ai)) ∧ w'.cell? ⟨B0, 1, none⟩ = some (.int .i64 (py ai)) ∧ w'.cell? ⟨B0 + 1, 0, none⟩ = some (.int .i64 (px bi)) ∧ w'.cell? ⟨B0 + 1, 1, none⟩ = some (.int .i64 (py bi)) ∧ w'.cell? ⟨g, j * 2, none⟩ = some (.int .i64 (px j)) ∧ w'.cell? ⟨g, j * 2 + 1, none⟩ = some (.int .i64 (py j))) (go_keep) ((go_at_call 7; refine (K1.out _).mono ?_; rintro e w6 ⟨rfl, hb6⟩; have u1 := (hb6.cell (p := ⟨B0, 0, none⟩) t1).trans r1; have u2 := (hb6.cell (p := ⟨B0, 1, none⟩) t1).trans r2; have u3 := (hb6.cell (p := ⟨B0 + 1, 0, none⟩) t2).trans r3; have u4 := (hb6.cell (p := ⟨B0 + 1, 1, none⟩) t2).trans r4; have u5 := (hb6.cell (p := ⟨g, j * 2, none⟩) t3).trans xj; have u6 := (hb6.cell (p := ⟨g, j * 2 + 1, none⟩) t3).trans yj; have HB6 := hid hb6; clear hb6))
          clear u1 u2 u3 u4 u5 u6 r1 r2 r3 r4 xj yj
          go_wp2
          go_roundw
          case rel => exact ⟨j + 1, by omega, by go_num, HB5.out.drew.trans (HB6.out.mono HB5.out.size)⟩
          case measure => simp [intOf]; omega
        · have : j = n := by omega
          subst this
          have HBZ := hid (HBW4.out.trans (hb5.mono HBW4.out.size))
          clear hb5
          go_wp2
          go_roundw
          case rel => exact ⟨k + 1, by omega, by go_num, HBZ.out⟩
          case measure => simp [intOf]; omega
    · have : k = m := by omega
      subst this
      have HB := hid (HB3.out.trans (hb.mono HB3.out.size))
      clear hb
      go_wp2
      go_ret
      exact ⟨rfl, HB.out⟩
end Go.Proofs.Ytdbebbbceeopaaa
