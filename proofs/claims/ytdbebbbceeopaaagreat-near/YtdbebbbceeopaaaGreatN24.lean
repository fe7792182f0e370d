import Derived.Test.YtdbebbbceeopaaaGreatN23
import Derived.Test.YtdbebbbceeopaaaGreatN15
import Derived.Test.YtdbebbbceeopaaaGreatN4
import Derived.Test.YtdbebbbceeopaaaGreatN5
set_option linter.unusedSimpArgs false
namespace Go.Proofs.YtdbebbbceeopaaaGreat
open Geo
variable {px py : Nat → Int} {n m : Nat} {M : Nat → Nat → Option Nat} {A B C : Nat → Nat}

theorem Lists.count (h : Lists M m A B C) (hm : Mesh px py n M) : (m : Int) * 3 = Sd n M (fun _ _ _ => 1) := by
  have e1 : Sd n M (fun _ _ _ => 1) = Sd n M (Kc fun _ _ _ => 1) + Sd n M (fun u v w => Kc (fun _ _ _ => 1) v w u) + Sd n M (fun u v w => Kc (fun _ _ _ => 1) w u v) := by
    unfold Sd
    rw [← sm2_add, ← sm2_add]
    refine sm2_congr fun u v _ _ => ?_
    cases e : M u v with
    | none => rfl
    | some w =>
      simp only [el_some, Kc]
      rcases least hm e with k | k | k
      · rw [if_pos k, if_neg (by omega), if_neg (by omega)]; omega
      · rw [if_neg (by omega), if_pos k, if_neg (by omega)]; omega
      · rw [if_neg (by omega), if_neg (by omega), if_pos k]; omega
  have r1 : Sd n M (Kc fun _ _ _ => 1) = Sd n M (fun u v w => Kc (fun _ _ _ => 1) v w u) := rotS hm _
  have r2 : Sd n M (fun u v w => Kc (fun _ _ _ => 1) v w u) = Sd n M (fun u v w => Kc (fun _ _ _ => 1) w u v) := rotS hm _
  have e2 : Sd n M (Kc fun _ _ _ => 1) = (m : Int) := by
    have d := sm2_diff (n := n) ((List.range m).map fun j => (A j, B j)) (fun u v => el (M u v) fun w => Kc (fun _ _ _ => 1) u v w) (fun _ _ => 0) (by
        refine List.nodup_iff_pairwise_ne.2 (List.pairwise_map.2 (List.pairwise_iff_getElem.2 fun i j hi hj hij => ?_))
        simp at hi hj
        simp only [List.getElem_range, ne_eq, Prod.mk.injEq, not_and]
        intro k1 k2
        have t1 := (h.tri i hi).1
        have t2 := (h.tri j hj).1
        rw [k1, k2, t2] at t1
        have := h.inj hi hj k1 k2 (Option.some.inj t1).symm
        omega) (by
        intro k hk
        obtain ⟨j, hj, rfl⟩ := List.mem_map.1 hk
        have := hm.lts (h.tri j (List.mem_range.1 hj)).1
        exact ⟨this.1, this.2.1⟩) (by
        intro u v _ _ hn
        cases e : M u v with
        | none => rfl
        | some w =>
          simp only [el_some, Kc]
          rw [if_neg]
          intro k
          obtain ⟨i, hi, e1, e2, _⟩ := h.all u v w e k.1 k.2
          exact hn (List.mem_map.2 ⟨i, List.mem_range.2 hi, by rw [e1, e2]⟩))
    have z0 : sm2 n (fun _ _ => (0 : Int)) = 0 := by
      have : sm2 n (fun _ _ => (0 : Int)) = sm n (fun _ => 0) := sm_congr fun _ _ => sm_zero n
      rw [this, sm_zero]
    unfold Sd
    rw [d, z0, List.map_map, Int.zero_add]
    have e : (List.range m).map ((fun k : Nat × Nat => el (M k.1 k.2) (fun w => Kc (fun _ _ _ => 1) k.1 k.2 w) - 0) ∘ fun j => (A j, B j)) = (List.range m).map fun _ => (1 : Int) := by
      refine List.map_congr_left fun j hj => ?_
      have t := h.tri j (List.mem_range.1 hj)
      simp only [Function.comp, t.1, el_some, Kc]
      rw [if_pos t.2]
      omega
    rw [e]
    clear e d z0 h
    induction m with
    | zero => rfl
    | succ m ih => rw [List.range_succ, List.map_append, List.sum_append, ih]; simp
  omega

theorem refI_Wide (h3 : 3 ≤ n) (hr : refI px py n = 0) {os : List Nat} (hn : ∀ p, p ∈ os ↔ p < n) : Wide px py os := by
  obtain ⟨i, hi, hT⟩ := refI_wide h3 hr
  exact ⟨0, (hn 0).2 (by omega), 1, (hn 1).2 (by omega), i, (hn i).2 hi, hT⟩

/-- How many triangles there are. -/
theorem Msh.count {hs : List Nat} (h : Msh px py n M hs) (h3 : 3 ≤ n) (hr : refI px py n = 0) (hj : Inj px py n) (hl : Lists M m A B C) : (m : Int) = 2 * n - bdc px py n - 2 := by
  obtain ⟨os, ⟨o3, op, om⟩, rfl, hre⟩ := h.ord
  have hw := refI_Wide h3 hr om
  obtain ⟨s1, q1, s2, q2, R⟩ := ring0 o3 op om hw
  have m0 := mesh0_ok o3 op om hw
  have b := R.bdc m0.1 hj m0.2.1 om hw
  have c := R.cnt
  have rc := reach_cnt hre
  have lc := hl.count h.mesh
  have len := ord_len op om
  omega

end Go.Proofs.YtdbebbbceeopaaaGreat

set_option linter.unusedSimpArgs false
namespace Go.Proofs.YtdbebbbceeopaaaGreat
open Go.RowKit
open Geo (tp)

/-- The corners of the square that points of raw numbers lie in. -/
structure Corn (px py : Nat → Int) (N : Int) : Prop where
  big : 8 ≤ N
  x0 : px 0 = 0
  y0 : py 0 = 0
  x1 : px 1 = N
  y1 : py 1 = 0
  x2 : px 2 = 0
  y2 : py 2 = N

theorem sq_corn {N : Int} {ps : List (Int × Int)} (h : Sq N ps) : Corn (sx ps) (sy ps) N := by
  have e0 : ps.getD 0 (0, 0) = (0, 0) := by rw [List.getD_eq_getElem?_getD, h.p0]; rfl
  have e1 : ps.getD 1 (0, 0) = (N, 0) := by rw [List.getD_eq_getElem?_getD, h.p1]; rfl
  have e2 : ps.getD 2 (0, 0) = (0, N) := by rw [List.getD_eq_getElem?_getD, h.p2]; rfl
  exact ⟨h.big, by unfold sx; rw [e0], by unfold sy; rw [e0], by unfold sx; rw [e1], by unfold sy; rw [e1], by unfold sx; rw [e2], by unfold sy; rw [e2]⟩

theorem points_set2 {arg : Array Value} {w : World} (hpts : Calls Tryz.prog 14 arg w fun e w' => ∃ v N ps, e = .returned v ∧ Below w.heap.size w w' ∧ Sq N ps ∧ w'.ownsRow w.heap.size 35 2 v ps.length (cellsP ps)) :
    Calls Tryz.prog 14 arg w fun e w' => ∃ g n cp px py N, e = .returned (.slice (some ⟨g, 0, none⟩) n cp) ∧ Below w.heap.size w w' ∧ n ≤ cp ∧ Sett n px py ∧ Corn px py N ∧ Pts w' g 0 n px py := by
  refine hpts.mono ?_
  rintro e w1 ⟨v, N, ps, rfl, hb1, hsq, ho⟩
  obtain ⟨g, cp, rfl, hgb, hgl, hcp, hcells⟩ := shape33 ho (by have := hsq.len; omega)
  exact ⟨g, ps.length, cp, sx ps, sy ps, N, rfl, hb1, hcp, sq_set hsq, sq_corn hsq, sq_pts hgl hcells⟩

theorem hull_set2 {n : Nat} {px py : Nat → Int} (hS : Sett n px py) (g cp : Nat) (w : World) (hp : Pts w g 0 n px py) (hcp : n ≤ cp) :
    Calls Tryz.prog 21 #[.slice (some ⟨g, 0, none⟩) n cp] w fun e w' => ∃ g2 cp2 hs, e = .returned (.tuple #[.slice (some ⟨g2, 0, none⟩) (hs.length : Nat) cp2, .int .i64 0]) ∧ Below w.heap.size w w' ∧ hs.length ≤ 100 ∧ g2 < w'.heap.size ∧
      Cnr n px py hs.length (fun i => hs.getD i 0) ∧ (∃ os : List Nat, (3 ≤ os.length ∧ os.Pairwise (Geo.Lt Geo.Lex px py) ∧ ∀ p, p ∈ os ↔ p < n) ∧ hs = hullOf (T px py) os) ∧ ∀ j, j < hs.length → w'.cell? ⟨g2, j, none⟩ = some (.int .i64 (hs.getD j 0 : Nat)) := by
  have hz : NeZero n := ⟨by have := hS.len; omega⟩
  refine (hull_ok px py n g 0 cp w hp hS.len (by have := hS.len'; omega) hcp hS.ref).mono ?_
  rintro e w2 ⟨v2, rfl, hb2, d, hd, hperm, hsort, hown⟩
  have H := hullOf_isHull hS.len hd hperm hsort hS.ne ⟨2, by have := hS.len; omega, hS.wide⟩
  obtain ⟨g2, cp2, rfl, _, hg2, _, _, hc⟩ := row_of_owns hown (by have := H.len; omega)
  refine ⟨g2, cp2, hullOf (T px py) (nums d), rfl, hb2, ?_, hg2, ⟨H.len, H.lt, H.inj, H.side, H.turn⟩, ⟨nums d, ord0 hS.len hS.ref hd hperm hsort, rfl⟩, ?_⟩
  · have := hull_len H
    have := hS.len'
    omega
  · intro j hj
    rw [hc j hj]
    simp [encN, hj]

/-- To the left of the hull's first k sides? -/
def inB (px py : Nat → Int) (x y : Int) (hs : List Nat) : Nat → Bool
  | 0 => true
  | k + 1 => inB px py x y hs k && decide (0 ≤ tp px py x y (hs.getD k 0) (hs.getD ((k + 1) % hs.length) 0))

theorem inB_all {px py : Nat → Int} {x y : Int} {hs : List Nat} : ∀ {k : Nat}, inB px py x y hs k = true → ∀ i, i < k → 0 ≤ tp px py x y (hs.getD i 0) (hs.getD ((i + 1) % hs.length) 0)
  | 0, _, i, hi => by omega
  | k + 1, h, i, hi => by
    unfold inB at h
    rw [Bool.and_eq_true, decide_eq_true_eq] at h
    rcases Nat.lt_or_ge i k with g | g
    · exact inB_all h.1 i g
    · have : i = k := by omega
      subst this; exact h.2

theorem inB_not {px py : Nat → Int} {x y : Int} {hs : List Nat} : ∀ {k : Nat}, inB px py x y hs k = false → ∃ i, i < k ∧ tp px py x y (hs.getD i 0) (hs.getD ((i + 1) % hs.length) 0) < 0
  | 0, h => by cases h
  | k + 1, h => by
    unfold inB at h
    rcases Bool.and_eq_false_iff.1 h with g | g
    · obtain ⟨i, hi, q⟩ := inB_not g
      exact ⟨i, by omega, q⟩
    · rw [decide_eq_false_iff_not] at g
      exact ⟨k, by omega, by omega⟩

/-- Does a place lie in the triangle of three points, or on its border? -/
def triB (px py : Nat → Int) (x y : Int) (a b c : Nat) : Bool := decide (0 ≤ tp px py x y a b) && (decide (0 ≤ tp px py x y b c) && decide (0 ≤ tp px py x y c a))

theorem hit_tri {px py : Nat → Int} {n : Nat} {M : Nat → Nat → Option Nat} {hs : List Nat} {d : Array T3} (hbd : Bds n px py) (hM : Msh px py n M hs) (hT : Tris M d) {x y : Int} (X : -1000 ≤ x ∧ x ≤ 1000) (Y : -1000 ≤ y ∧ y ≤ 1000) {j : Nat} (hj : j < d.size) :
    hitB px py n x y (tris (dz d) d.size)[j]! = triB px py x y (dA d j) (dB d j) (dC d j) := by
  obtain ⟨z0, z1, z2⟩ := dz_get d j hj
  have l := (hT.row3 hM.mesh).a j hj
  have p := hM.mesh.pos _ _ _ (hT.lists.tri j hj).1
  have nr : ∀ i, i < n → (nearB (px i) && nearB (py i)) = true := fun i hi => by rw [Bool.and_eq_true, nearB_iff, nearB_iff]; exact hbd i hi
  rw [tris_at _ _ _ hj, z0, z1, z2]
  unfold hitB
  rw [hit_near (by rw [Bool.and_eq_true, nearB_iff, nearB_iff]; exact ⟨X, Y⟩) (nr _ l.1) (nr _ l.2.1) (nr _ l.2.2) l.1 l.2.1 l.2.2]
  have : decide (0 < tw (px (dA d j)) (py (dA d j)) (px (dB d j)) (py (dB d j)) (px (dC d j)) (py (dC d j))) = true := decide_eq_true p
  rw [this]
  rfl

/-- Beside the hull nothing is found. -/
theorem loc_out {px py : Nat → Int} {n : Nat} {M : Nat → Nat → Option Nat} {hs hs' : List Nat} {d : Array T3} (hbd : Bds n px py) (hM : Msh px py n M hs) (hT : Tris M d) (hC : Cnr n px py hs'.length (fun i => hs'.getD i 0)) {x y : Int} (X : -1000 ≤ x ∧ x ≤ 1000) (Y : -1000 ≤ y ∧ y ≤ 1000)
    (h : inB px py x y hs' hs'.length = false) : locI px py n (dz d) d.size x y = -1 := by
  obtain ⟨i, hi, hlt⟩ := inB_not h
  refine loc_miss fun j hj => ?_
  rw [hit_tri hbd hM hT X Y hj]
  have nb := hM.mesh.beside (hC.side i hi) hlt (hT.lists.tri j hj).1
  unfold triB
  cases h1 : decide (0 ≤ tp px py x y (dA d j) (dB d j)) with
  | false => rfl
  | true =>
    cases h2 : decide (0 ≤ tp px py x y (dB d j) (dC d j)) with
    | false => rfl
    | true =>
      cases h3 : decide (0 ≤ tp px py x y (dC d j) (dA d j)) with
      | false => rfl
      | true => exact absurd ⟨of_decide_eq_true h1, of_decide_eq_true h2, of_decide_eq_true h3⟩ nb

/-- Within the hull something is. -/
theorem in_some {px py : Nat → Int} {n : Nat} {N : Int} {M : Nat → Nat → Option Nat} {hs hs' : List Nat} {d : Array T3} (hS : Sett n px py) (hC : Corn px py N) (hM : Msh px py n M hs) (hT : Tris M d) (ho : ∃ os : List Nat, (3 ≤ os.length ∧ os.Pairwise (Geo.Lt Geo.Lex px py) ∧ ∀ p, p ∈ os ↔ p < n) ∧ hs' = hullOf (T px py) os) {x y : Int}
    (h : inB px py x y hs' hs'.length = true) : ∃ j, j < d.size ∧ triB px py x y (dA d j) (dB d j) (dC d j) = true := by
  obtain ⟨os', ⟨o3', op', om'⟩, rfl⟩ := ho
  obtain ⟨os, ⟨o3, op, om⟩, rfl, hre⟩ := hM.ord
  have e : os' = os := order_one op' op (fun p => by rw [om, om'])
  subst e
  obtain ⟨s1, q1, s2, q2, R⟩ := ring0 o3 op om (refI_Wide hS.len hS.ref om)
  have hlen := hS.len
  have big := hC.big
  have key : ∀ gx : Int, 1 ≤ gx → gx ≤ 2 → gx ≠ x → ∃ a b c, M a b = some c ∧ 0 ≤ tp px py x y a b ∧ 0 ≤ tp px py x y b c ∧ 0 ≤ tp px py x y c a := by
    intro gx g1 g2 gne
    have nn : 0 < N * N := Int.mul_pos (by omega) (by omega)
    refine found_tri R hre hM.mesh om (gx := gx) (gy := 1) (p := 0) (q := 1) (r := 2) (by omega) (by omega) (by omega) ?_ ?_ ?_ ?_ gne ⟨0, by omega, by rw [hC.x0]; omega⟩ ⟨1, by omega, by rw [hC.x1]; omega⟩ (inB_all h)
    · unfold T tw
      rw [hC.x0, hC.y0, hC.x1, hC.y1, hC.x2, hC.y2]
      simp; omega
    · unfold tp
      rw [hC.x0, hC.y0, hC.x1, hC.y1]
      simp; omega
    · unfold tp
      rw [hC.x1, hC.y1, hC.x2, hC.y2]
      have e : (0 - N) * (1 - 0) - (N - 0) * (gx - N) = N * (N - gx - 1) := by grind
      rw [e]
      exact Int.mul_pos (by omega) (by omega)
    · unfold tp
      rw [hC.x0, hC.y0, hC.x2, hC.y2]
      have e : (0 - 0) * (1 - N) - (0 - N) * (gx - 0) = N * gx := by grind
      rw [e]
      exact Int.mul_pos (by omega) (by omega)
  obtain ⟨a, b, c, e, k1, k2, k3⟩ : ∃ a b c, M a b = some c ∧ 0 ≤ tp px py x y a b ∧ 0 ≤ tp px py x y b c ∧ 0 ≤ tp px py x y c a := by
    by_cases q : x = 1
    · exact key 2 (by omega) (by omega) (by omega)
    · exact key 1 (by omega) (by omega) (by omega)
  obtain ⟨j, hj, q⟩ := hT.lists.has hM.mesh e
  refine ⟨j, hj, ?_⟩
  unfold triB
  rw [Bool.and_eq_true, Bool.and_eq_true, decide_eq_true_eq, decide_eq_true_eq, decide_eq_true_eq]
  rcases q with ⟨q1, q2, q3⟩ | ⟨q1, q2, q3⟩ | ⟨q1, q2, q3⟩
  · rw [q1, q2, q3]; exact ⟨k1, k2, k3⟩
  · rw [q1, q2, q3]; exact ⟨k3, k1, k2⟩
  · rw [q1, q2, q3]; exact ⟨k2, k3, k1⟩

end Go.Proofs.YtdbebbbceeopaaaGreat

set_option linter.unusedSimpArgs false
namespace Go.Proofs.YtdbebbbceeopaaaGreat
open Go.RowKit
open Geo (tp)

/-- Six numbers in bounds. -/
def Bd6 (a b c d e f : Int) : Prop := Bd4 a b c d ∧ (-1000 ≤ e ∧ e ≤ 1000) ∧ (-1000 ≤ f ∧ f ≤ 1000)

theorem turn_6 (a b c d e f : Int) (w : World) (h : Bd6 a b c d e f) : Calls Tryz.prog 23 #[.agg #[.int .i64 a, .int .i64 b], .agg #[.int .i64 c, .int .i64 d], .agg #[.int .i64 e, .int .i64 f]] w fun r w' => r = .returned (.int .i64 (tw a b c d e f)) ∧ Below w.heap.size w w' :=
  kturn_any a b c d e f h.1.1 h.1.2.1 h.1.2.2.1 h.1.2.2.2 h.2.1 h.2.2 w

set_option maxRecDepth 100000 in
set_option maxHeartbeats 4000000 in
theorem found_any (a : Option Addr) (len cap : Nat) (sz x0 y0 : Int) (w : World) (wsz : -9223372036854775808 ≤ sz ∧ sz ≤ 9223372036854775807) (wx : -9223372036854775808 ≤ x0 ∧ x0 ≤ 9223372036854775807) (wy : -9223372036854775808 ≤ y0 ∧ y0 ≤ 9223372036854775807)
    (hpts : Calls Tryz.prog 14 #[.slice a len cap, .int .i64 sz] w fun e w' => ∃ v N ps, e = .returned v ∧ Below w.heap.size w w' ∧ Sq N ps ∧ w'.ownsRow w.heap.size 35 2 v ps.length (cellsP ps)) :
    Calls Tryz.prog 8 #[.slice a len cap, .int .i64 sz, .int .i64 x0, .int .i64 y0] w fun e w' => e = .returned (.bool true) ∧ Below w.heap.size w w' := by
  have C1 := hid (points_set2 hpts)
  clear hpts
  have K1 := hid (fun W => pick_any sz 400 wsz (by omega) (by omega) W)
  have pk := pickI_bd sz 400 (by omega)
  obtain ⟨m0, hm0⟩ : ∃ m0, m0 = pickI sz 400 := ⟨_, rfl⟩
  rw [← hm0] at K1 pk
  clear hm0
  have K2 := hid (fun W => pick_any x0 (8 + m0 + 3) wx (by omega) (by omega) W)
  have K3 := hid (fun W => pick_any y0 (8 + m0 + 3) wy (by omega) (by omega) W)
  have p2 := pickI_bd x0 (8 + m0 + 3) (by omega)
  have p3 := pickI_bd y0 (8 + m0 + 3) (by omega)
  obtain ⟨x1, hx1⟩ : ∃ x1, x1 = pickI x0 (8 + m0 + 3) := ⟨_, rfl⟩
  obtain ⟨y1, hy1⟩ : ∃ y1, y1 = pickI y0 (8 + m0 + 3) := ⟨_, rfl⟩
  rw [← hx1] at K2 p2
  rw [← hy1] at K3 p3
  clear hx1 hy1 wx wy wsz
  have c1 : IntKind.i64.wrap (8 + m0) = 8 + m0 := by simp [IntKind.wrap, IntKind.signed, IntKind.bits]; omega
  have c2 : IntKind.i64.wrap (8 + m0 + 3) = 8 + m0 + 3 := by simp [IntKind.wrap, IntKind.signed, IntKind.bits]; omega
  have c3 : IntKind.i64.wrap (x1 - 1) = x1 - 1 := by simp [IntKind.wrap, IntKind.signed, IntKind.bits]; omega
  have c4 : IntKind.i64.wrap (y1 - 1) = y1 - 1 := by simp [IntKind.wrap, IntKind.signed, IntKind.bits]; omega
  go_enter Tryz.func8, Tryz.ntmps8
  go_wp2_with fail
  refine C1.out.mono ?_
  rintro e w1 ⟨g, n, cp, px, py, N, rfl, hb1, hcp, hS, hC, hP⟩
  have HB1 := hid hb1
  have HS := hid hS
  have HC := hid hC
  have HP := hid hP
  have hn3 := hS.len
  have hn30 := hS.len'
  clear C1 hb1 hS hP hC
  go_wp2_with fail
  refine (K1.out _).mono ?_
  rintro e w2 ⟨rfl, rfl⟩
  clear K1
  go_wp2_with fail
  refine (K2.out _).mono ?_
  rintro e w3 ⟨rfl, rfl⟩
  clear K2
  go_wp2_with fail
  refine (K3.out _).mono ?_
  rintro e w4 ⟨rfl, rfl⟩
  clear K3 c1 c2
  go_wp2_with fail
  obtain ⟨x, hx⟩ : ∃ x, x = x1 - 1 := ⟨_, rfl⟩
  obtain ⟨y, hy⟩ : ∃ y, y = y1 - 1 := ⟨_, rfl⟩
  rw [← hx, ← hy]
  have X : -1000 ≤ x ∧ x ≤ 1000 := by omega
  have Y : -1000 ≤ y ∧ y ≤ 1000 := by omega
  clear hx hy p2 p3 pk c3 c4
  obtain ⟨W4, hW4⟩ : ∃ W4 : World, W4 = w4.alloc (.cells #[.int .i64 x, .int .i64 y] 35) := ⟨_, rfl⟩
  obtain ⟨bq, hbq⟩ : ∃ bq, bq = w4.heap.size := ⟨_, rfl⟩
  have hb4 : Below w4.heap.size w4 W4 := by rw [hW4]; exact (Below.refl _ _).alloc (Nat.le_refl _) _
  have PX : W4.cell? ⟨bq, 0, none⟩ = some (.int .i64 x) := by rw [hW4, hbq]; exact World.cell?_alloc_at _ _ _ _ rfl
  have PY : W4.cell? ⟨bq, 1, none⟩ = some (.int .i64 y) := by rw [hW4, hbq]; exact World.cell?_alloc_at _ _ _ _ rfl
  rw [← hW4, ← hbq]
  have HB4 := hid (HB1.out.trans (hb4.mono HB1.out.size))
  have HP4 := hid (HP.out.below hb4 HP.out.lt)
  have HPX := hid PX
  have HPY := hid PY
  have BQ := hid (World.block_lt_of_cell? W4 _ PX)
  clear hW4 hbq hb4 PX PY HP HB1
  have C2 := hid (tri_set HS.out g cp W4 HP4.out hcp)
  refine C2.out.mono ?_
  rintro e w5 ⟨hb5, g2, cp2, d, M, hs, rfl, hd, hd0, hTr, hT, hM, hL⟩
  have HB5 := hid hb5
  have HTR := hid hTr
  have HT := hid hT
  have HM := hid hM
  clear C2 hb5 hTr hT hM hL
  have C3 := hid (hull_set2 HS.out g cp w5 (HP4.out.below HB5.out HP4.out.lt) hcp)
  go_wp2_with fail
  refine C3.out.mono ?_
  rintro e w6 ⟨g3, cp3, hs', rfl, hb6, hlen, hg3, hCn, hOs, hcell⟩
  have HB6 := hid (HB5.out.trans (hb6.mono HB5.out.size))
  have HTR6 := hid (HTR.out.below hb6)
  have HCN := hid hCn
  have HOS := hid hOs
  have HCL := hid hcell
  have BDS := hid (refI_bds HS.out.ref)
  have hm3 := hCn.len
  have C4 := hid (sane_any px py n g 0 cp d.size cp2 (some ⟨g2, 0, none⟩) (dz d) (dA d) (dB d) (dC d) w6 (HP4.out.below HB6.out HP4.out.lt) (fun _ => ⟨g2, 0, rfl, HTR6.out⟩) (by omega) BDS.out (HT.out.row3 HM.out.mesh) (fun i hi => (HT.out.lists.tri i hi).2) (fun i hi => HM.out.mesh.pos _ _ _ (HT.out.lists.tri i hi).1))
  clear C3 hb6 hCn hOs hcell HTR HB5
  go_wp2_with fail
  refine C4.out.mono ?_
  rintro e w7 ⟨rfl, hb7⟩
  have HG3 := hid hg3
  have C5 := hid (known_any g3 hs'.length cp3 n (fun i => hs'.getD i 0) w7 hm3 hlen (fun j hj => (hb7.cell (by exact HG3.out)).trans (HCL.out j hj)) HCN.out.lt HCN.out.inj)
  have HB7 := hid (HB6.out.trans (hb7.mono HB6.out.size))
  have HTR7 := hid (HTR6.out.below hb7)
  have HCL7 : Hid (∀ j, j < hs'.length → w7.cell? ⟨g3, j, none⟩ = some (.int .i64 (hs'.getD j 0 : Nat))) := hid (fun j hj => (hb7.cell (by exact HG3.out)).trans (HCL.out j hj))
  have HG7 := hid (Nat.lt_of_lt_of_le hg3 hb7.size)
  clear C4 hb7 HB6 HTR6 HCL HG3 hg3
  obtain ⟨m, hm⟩ : ∃ m, m = hs'.length := ⟨_, rfl⟩
  obtain ⟨k, hk⟩ : ∃ k, k = d.size := ⟨_, rfl⟩
  have HMM := hid hm
  have HKK := hid hk
  rw [← hm] at hm3 hlen C5 ⊢
  rw [← hk] at hd hd0 ⊢
  clear hm hk
  have dk : ((k : Int) == 0) = false := by simp; omega
  go_wp2_with fail
  refine C5.out.mono ?_
  rintro e w8 ⟨rfl, q, rfl⟩
  clear C5
  have HB8 := hid (below_drewN HB7.out q)
  have HTR8 := hid (HTR7.out.below (below_drewN (Below.refl w7.heap.size w7) q))
  have HCL8 : Hid (∀ j, j < hs'.length → (w7.drewN q).cell? ⟨g3, j, none⟩ = some (.int .i64 (hs'.getD j 0 : Nat))) := hid (fun j hj => HCL7.out j hj)
  have HG8 : Hid (g3 < (w7.drewN q).heap.size) := hid HG7.out
  obtain ⟨w8, hw8⟩ : ∃ w8, w8 = w7.drewN q := ⟨_, rfl⟩
  rw [← hw8] at HB8 HTR8 HCL8 HG8 ⊢
  clear hw8 HB7 HTR7 HCL7 HG7
  go_wp2_with fail
  go_loopw [17, 18] (fun inn i wr => ∃ j : Nat, j ≤ m ∧ i = .int .i64 j ∧ inn = .bool (inB px py x y hs' j) ∧ Hid (Below w8.heap.size w8 wr)) (fun _ i _ => m - (intOf i).toNat)
  case atStart => exact ⟨0, Nat.zero_le _, rfl, rfl, hid (Below.refl _ _)⟩
  case round =>
    obtain ⟨j, hj, rfl, rfl, HB⟩ := hrel
    have BW := hid (HB8.out.trans (HB.out.mono HB8.out.size))
    by_cases hjm : j < m
    · have hjm' : (j : Int) < m := by omega
      have HIN : Hid (inB px py x y hs' (j + 1) = (inB px py x y hs' j && decide (0 ≤ tp px py x y (hs'.getD j 0) (hs'.getD ((j + 1) % m) 0)))) := hid (by rw [HMM.out]; rfl)
      obtain ⟨ib, hib⟩ : ∃ ib, ib = inB px py x y hs' j := ⟨_, rfl⟩
      rw [← hib] at HIN ⊢
      clear hib
      cases ib with
      | false =>
        have HR : Hid (inB px py x y hs' (j + 1) = false) := hid (by rw [HIN.out]; rfl)
        clear HIN
        go_wp2_with fail
        go_quiet (fail)
        go_wp2_with fail
        go_roundw
        case rel => exact ⟨j + 1, by omega, by go_num, by rw [HR.out], hid (below_drewN HB.out _)⟩
        case measure => simp [intOf]; omega
      | true =>
        have HR : Hid (inB px py x y hs' (j + 1) = decide (0 ≤ tp px py x y (hs'.getD j 0) (hs'.getD ((j + 1) % m) 0))) := hid (by rw [HIN.out]; rfl)
        clear HIN
        obtain ⟨i1, hi1⟩ : ∃ i1, i1 = (j + 1) % m := ⟨_, rfl⟩
        have li1 : i1 < m := by rw [hi1]; exact Nat.mod_lt _ (by omega)
        have m1 : ((j : Int) + 1) % (m : Int) = (i1 : Int) := by rw [hi1]; push_cast; rfl
        rw [← hi1] at HR
        have na := HCN.out.lt j (by rw [← HMM.out]; exact hjm)
        have nb := HCN.out.lt i1 (by rw [← HMM.out]; exact li1)
        have ca := (HB.out.cell (p := ⟨g3, j, none⟩) HG8.out).trans (HCL8.out j (by rw [← HMM.out]; exact hjm))
        have cb := (HB.out.cell (p := ⟨g3, i1, none⟩) HG8.out).trans (HCL8.out i1 (by rw [← HMM.out]; exact li1))
        clear hi1
        obtain ⟨ai, hai⟩ : ∃ ai, ai = hs'.getD j 0 := ⟨_, rfl⟩
        obtain ⟨bi, hbi⟩ : ∃ bi, bi = hs'.getD i1 0 := ⟨_, rfl⟩
        rw [← hai] at na ca HR
        rw [← hbi] at nb cb HR
        clear hai hbi
        have hpw := HP4.out.below BW.out HP4.out.lt
        have xa := hpw.x ai na
        have ya := hpw.y ai na
        have xb := hpw.x bi nb
        have yb := hpw.y bi nb
        rw [Nat.zero_add] at xa ya xb yb
        have pX := (BW.out.cell (p := ⟨bq, 0, none⟩) BQ.out).trans HPX.out
        have pY := (BW.out.cell (p := ⟨bq, 1, none⟩) BQ.out).trans HPY.out
        have gl := hpw.lt
        have gl3 : g3 < wr.heap.size := Nat.lt_of_lt_of_le HG8.out HB.out.size
        have glq : bq < wr.heap.size := Nat.lt_of_lt_of_le BQ.out BW.out.size
        have B6 : Bd6 (px ai) (py ai) (px bi) (py bi) x y := ⟨bd4 BDS.out na nb, X, Y⟩
        have a' : (ai : Int) < n := by omega
        have b' : (bi : Int) < n := by omega
        have l1' : (i1 : Int) < m := by omega
        have q1 : (0 : Int) ≤ (j : Int) := by omega
        have q2 : (0 : Int) ≤ (i1 : Int) := by omega
        have q3 : (0 : Int) ≤ (ai : Int) := by omega
        have q4 : (0 : Int) ≤ (bi : Int) := by omega
        have y2 : IntKind.i64.wrap ((j : Int) + 1) = j + 1 := by rw [IntKind.wrap_i64]; omega
        have hm0 : ¬ (m : Int) = 0 := by omega
        have hm0' : ¬ m = 0 := by omega
        have dm : ((m : Int) == 0) = false := by simp; omega
        have tm : Int.tmod ((j : Int) + 1) (m : Int) = (i1 : Int) := by rw [Int.tmod_eq_emod_of_nonneg (by omega)]; exact m1
        have TN := hid turn_6
        have KEEP : Hid (∀ W, Below wr.heap.size wr W → W.cell? ⟨g3, j, none⟩ = some (.int .i64 (ai : Nat)) ∧ W.cell? ⟨g3, i1, none⟩ = some (.int .i64 (bi : Nat)) ∧ W.cell? ⟨g, ai * 2, none⟩ = some (.int .i64 (px ai)) ∧ W.cell? ⟨g, ai * 2 + 1, none⟩ = some (.int .i64 (py ai)) ∧ W.cell? ⟨g, bi * 2, none⟩ = some (.int .i64 (px bi)) ∧ W.cell? ⟨g, bi * 2 + 1, none⟩ = some (.int .i64 (py bi)) ∧ W.cell? ⟨bq, 0, none⟩ = some (.int .i64 x) ∧ W.cell? ⟨bq, 1, none⟩ = some (.int .i64 y)) := hid fun W hW => ⟨(hW.cell (by exact gl3)).trans ca, (hW.cell (by exact gl3)).trans cb, (hW.cell (by exact gl)).trans xa, (hW.cell (by exact gl)).trans ya, (hW.cell (by exact gl)).trans xb, (hW.cell (by exact gl)).trans yb, (hW.cell (by exact glq)).trans pX, (hW.cell (by exact glq)).trans pY⟩
        have START := KEEP.out wr.drew (Below.refl _ _).drew
        clear hpw ca cb xa ya xb yb pX pY
        go_wp2_with fail
        go_region_held3 (fun W => W.cell? ⟨g3, j, none⟩ = some (.int .i64 (ai : Nat)) ∧ W.cell? ⟨g3, i1, none⟩ = some (.int .i64 (bi : Nat)) ∧ W.cell? ⟨g, ai * 2, none⟩ = some (.int .i64 (px ai)) ∧ W.cell? ⟨g, ai * 2 + 1, none⟩ = some (.int .i64 (py ai)) ∧ W.cell? ⟨g, bi * 2, none⟩ = some (.int .i64 (px bi)) ∧ W.cell? ⟨g, bi * 2 + 1, none⟩ = some (.int .i64 (py bi)) ∧ W.cell? ⟨bq, 0, none⟩ = some (.int .i64 x) ∧ W.cell? ⟨bq, 1, none⟩ = some (.int .i64 y)) (assumption)
          ((go_at_call 23; refine (TN.out _ _ _ _ _ _ _ (by assumption)).mono ?_; rintro e w9 ⟨rfl, hb9⟩; have HB9 : Hid (Below wr.heap.size wr w9) := hid ((Below.refl _ _).drew.trans hb9); have HK := KEEP.out w9 HB9.out; clear hb9))
        clear HK START KEEP
        have HR9 : Hid (inB px py x y hs' (j + 1) = decide (0 ≤ tw (px ai) (py ai) (px bi) (py bi) x y)) := HR
        obtain ⟨tv, htv⟩ : ∃ tv, tv = decide (0 ≤ tw (px ai) (py ai) (px bi) (py bi) x y) := ⟨_, rfl⟩
        rw [← htv] at HR9 ⊢
        clear htv HR
        go_wp2_with fail
        go_roundw
        case rel => exact ⟨j + 1, by omega, by go_num, by rw [HR9.out], hid (HB.out.trans (HB9.out.mono HB.out.size))⟩
        case measure => simp [intOf]; omega
    · have hjj : j = m := by omega
      subst hjj
      have LC := hid (locate_any px py n g 0 cp g2 0 k cp2 (dz d) x y wr (HP4.out.below BW.out HP4.out.lt) (by have := HTR8.out.below HB.out; rw [← HKK.out] at this; exact this) (by omega))
      have pX := (BW.out.cell (p := ⟨bq, 0, none⟩) BQ.out).trans HPX.out
      have pY := (BW.out.cell (p := ⟨bq, 1, none⟩) BQ.out).trans HPY.out
      have glq : bq < wr.heap.size := Nat.lt_of_lt_of_le BQ.out BW.out.size
      obtain ⟨lo, hlo⟩ : ∃ lo, lo = locI px py n (dz d) k x y := ⟨_, rfl⟩
      rw [← hlo] at LC
      have HLO := hid hlo
      clear hlo
      obtain ⟨ib, hib⟩ : ∃ ib, ib = inB px py x y hs' j := ⟨_, rfl⟩
      rw [← hib]
      have HIB := hid hib
      clear hib
      cases ib with
      | false =>
        have e1 : lo = -1 := by
          have := loc_out BDS.out HM.out HT.out HCN.out X Y (by rw [← HMM.out]; exact HIB.out.symm)
          rw [HLO.out, HKK.out]; exact this
        subst e1
        go_wp2_with fail
        refine LC.out.mono ?_
        rintro e w9 ⟨rfl, hb9⟩
        have HB9 := hid (BW.out.trans (hb9.mono BW.out.size))
        clear hb9 LC
        go_wp2_with fail
        go_ret
        exact ⟨rfl, HB4.out.trans (HB9.out.mono HB4.out.size)⟩
      | true =>
        have SM := hid (in_some HS.out HC.out HM.out HT.out HOS.out (by rw [← HMM.out]; exact HIB.out.symm))
        go_wp2_with fail
        refine LC.out.mono ?_
        rintro e w9 ⟨rfl, hb9⟩
        have HB9 := hid (BW.out.trans (hb9.mono BW.out.size))
        have HTR9 := hid ((HTR8.out.below HB.out).below hb9)
        clear hb9 LC pX pY HB HCL8 HB8 HTR8 BW
        go_wp2_with fail
        go_loopw [20] (fun i wr => ∃ i' : Nat, i' ≤ k ∧ i = .int .i64 i' ∧ Hid (∀ r, r < i' → triB px py x y (dA d r) (dB d r) (dC d r) = false) ∧ Hid (Below w9.heap.size w9 wr)) (fun i _ => k - (intOf i).toNat)
        case atStart => exact ⟨0, Nat.zero_le _, rfl, hid (fun r hr => by omega), hid (Below.refl _ _)⟩
        case round =>
          obtain ⟨i, hi, rfl, HF, HB⟩ := hrel
          have BW := hid (HB9.out.trans (HB.out.mono HB9.out.size))
          by_cases hik : i < k
          · have hik' : (i : Int) < k := by omega
            have hid' : i < d.size := by rw [← HKK.out]; exact hik
            obtain ⟨z0, z1, z2⟩ := (HTR9.out.below HB.out).2 i hid'
            obtain ⟨y0', y1', y2'⟩ := (HT.out.row3 HM.out.mesh).z i hid'
            have nn := (HT.out.row3 HM.out.mesh).a i hid'
            rw [y0'] at z0
            rw [y1'] at z1
            rw [y2'] at z2
            rw [Nat.zero_add] at z0 z1 z2
            have HTB : Hid (triB px py x y (dA d i) (dB d i) (dC d i) = (decide (0 ≤ tw (px (dA d i)) (py (dA d i)) (px (dB d i)) (py (dB d i)) x y) && (decide (0 ≤ tw (px (dB d i)) (py (dB d i)) (px (dC d i)) (py (dC d i)) x y) && decide (0 ≤ tw (px (dC d i)) (py (dC d i)) (px (dA d i)) (py (dA d i)) x y)))) := hid rfl
            obtain ⟨ta, hta⟩ : ∃ ta, ta = dA d i := ⟨_, rfl⟩
            obtain ⟨tb, htb⟩ : ∃ tb, tb = dB d i := ⟨_, rfl⟩
            obtain ⟨tc, htc⟩ : ∃ tc, tc = dC d i := ⟨_, rfl⟩
            have HABC := hid (And.intro hta (And.intro htb htc))
            rw [← hta] at z0 nn HTB
            rw [← htb] at z1 nn HTB
            rw [← htc] at z2 nn HTB
            clear hta htb htc y0' y1' y2' hid'
            obtain ⟨na, nb, nc⟩ := nn
            have hpw := HP4.out.below BW.out HP4.out.lt
            have xa := hpw.x ta na
            have ya := hpw.y ta na
            have xb := hpw.x tb nb
            have yb := hpw.y tb nb
            have xc := hpw.x tc nc
            have yc := hpw.y tc nc
            rw [Nat.zero_add] at xa ya xb yb xc yc
            have pX := (BW.out.cell (p := ⟨bq, 0, none⟩) BQ.out).trans HPX.out
            have pY := (BW.out.cell (p := ⟨bq, 1, none⟩) BQ.out).trans HPY.out
            have a' : (ta : Int) < n := by omega
            have b' : (tb : Int) < n := by omega
            have c' : (tc : Int) < n := by omega
            have B1 : Bd6 (px ta) (py ta) (px tb) (py tb) x y := ⟨bd4 BDS.out na nb, X, Y⟩
            have B2 : Bd6 (px tb) (py tb) (px tc) (py tc) x y := ⟨bd4 BDS.out nb nc, X, Y⟩
            have B3 : Bd6 (px tc) (py tc) (px ta) (py ta) x y := ⟨bd4 BDS.out nc na, X, Y⟩
            have gl := hpw.lt
            have TN := hid turn_6
            have z1' : ∀ o, (wr.alloc o).cell? ⟨g2, i * 3 + 1, none⟩ = some (.int .i64 (tb : Nat)) := fun o => cell_new z1
            have xb' : ∀ o, (wr.alloc o).cell? ⟨g, tb * 2, none⟩ = some (.int .i64 (px tb)) := fun o => cell_new xb
            have yb' : ∀ o, (wr.alloc o).cell? ⟨g, tb * 2 + 1, none⟩ = some (.int .i64 (py tb)) := fun o => cell_new yb
            have z2' : ∀ o o', ((wr.alloc o).alloc o').cell? ⟨g2, i * 3 + 2, none⟩ = some (.int .i64 (tc : Nat)) := fun o o' => cell_new (cell_new z2)
            have xc' : ∀ o o', ((wr.alloc o).alloc o').cell? ⟨g, tc * 2, none⟩ = some (.int .i64 (px tc)) := fun o o' => cell_new (cell_new xc)
            have yc' : ∀ o o', ((wr.alloc o).alloc o').cell? ⟨g, tc * 2 + 1, none⟩ = some (.int .i64 (py tc)) := fun o o' => cell_new (cell_new yc)
            have pX' : ∀ o o' o'', (((wr.alloc o).alloc o').alloc o'').cell? ⟨bq, 0, none⟩ = some (.int .i64 x) := fun o o' o'' => cell_new (cell_new (cell_new pX))
            have pY' : ∀ o o' o'', (((wr.alloc o).alloc o').alloc o'').cell? ⟨bq, 1, none⟩ = some (.int .i64 y) := fun o o' o'' => cell_new (cell_new (cell_new pY))
            clear hpw z1 xb yb z2 xc yc pX pY
            go_wp2_with fail
            obtain ⟨W3, hW3⟩ : ∃ W3 : World, W3 = ((wr.alloc (.cells #[.int .i64 (px ta), .int .i64 (py ta)] 35)).alloc (.cells #[.int .i64 (px tb), .int .i64 (py tb)] 35)).alloc (.cells #[.int .i64 (px tc), .int .i64 (py tc)] 35) := ⟨_, rfl⟩
            have hB3 : Below wr.heap.size wr W3 := by rw [hW3]; exact (((Below.refl _ _).alloc (Nat.le_refl _) _).alloc (by simp) _).alloc (by simp <;> omega) _
            have hsz : W3.heap.size = wr.heap.size + 1 + 1 + 1 := by rw [hW3]; simp
            have c0 : W3.cell? ⟨wr.heap.size, 0, none⟩ = some (.int .i64 (px ta)) ∧ W3.cell? ⟨wr.heap.size, 1, none⟩ = some (.int .i64 (py ta)) ∧ W3.cell? ⟨wr.heap.size + 1, 0, none⟩ = some (.int .i64 (px tb)) ∧ W3.cell? ⟨wr.heap.size + 1, 1, none⟩ = some (.int .i64 (py tb)) ∧ W3.cell? ⟨wr.heap.size + 1 + 1, 0, none⟩ = some (.int .i64 (px tc)) ∧ W3.cell? ⟨wr.heap.size + 1 + 1, 1, none⟩ = some (.int .i64 (py tc)) ∧ W3.cell? ⟨bq, 0, none⟩ = some (.int .i64 x) ∧ W3.cell? ⟨bq, 1, none⟩ = some (.int .i64 y) := by
              rw [hW3]
              refine ⟨?_, ?_, ?_, ?_, ?_, ?_, pX' _ _ _, pY' _ _ _⟩
              · rw [World.cell?_alloc_past _ _ _ (by simp <;> omega), World.cell?_alloc_past _ _ _ (by simp), World.cell?_alloc_at _ _ _ _ (by simp)]; rfl
              · rw [World.cell?_alloc_past _ _ _ (by simp <;> omega), World.cell?_alloc_past _ _ _ (by simp), World.cell?_alloc_at _ _ _ _ (by simp)]; rfl
              · rw [World.cell?_alloc_past _ _ _ (by simp), World.cell?_alloc_at _ _ _ _ (by simp)]; rfl
              · rw [World.cell?_alloc_past _ _ _ (by simp), World.cell?_alloc_at _ _ _ _ (by simp)]; rfl
              · rw [World.cell?_alloc_at _ _ _ _ (by simp)]; rfl
              · rw [World.cell?_alloc_at _ _ _ _ (by simp)]; rfl
            have glq : bq < W3.heap.size := World.block_lt_of_cell? W3 _ c0.2.2.2.2.2.2.1
            have KC : Hid (∀ W, Below W3.heap.size W3 W → W.cell? ⟨wr.heap.size, 0, none⟩ = some (.int .i64 (px ta)) ∧ W.cell? ⟨wr.heap.size, 1, none⟩ = some (.int .i64 (py ta)) ∧ W.cell? ⟨wr.heap.size + 1, 0, none⟩ = some (.int .i64 (px tb)) ∧ W.cell? ⟨wr.heap.size + 1, 1, none⟩ = some (.int .i64 (py tb)) ∧ W.cell? ⟨wr.heap.size + 1 + 1, 0, none⟩ = some (.int .i64 (px tc)) ∧ W.cell? ⟨wr.heap.size + 1 + 1, 1, none⟩ = some (.int .i64 (py tc)) ∧ W.cell? ⟨bq, 0, none⟩ = some (.int .i64 x) ∧ W.cell? ⟨bq, 1, none⟩ = some (.int .i64 y)) := hid fun W hW => by
              obtain ⟨k0, k1, k2, k3, k4, k5, k6, k7⟩ := c0
              exact ⟨(hW.cell (by show wr.heap.size < _; omega)).trans k0, (hW.cell (by show wr.heap.size < _; omega)).trans k1, (hW.cell (by show wr.heap.size + 1 < _; omega)).trans k2, (hW.cell (by show wr.heap.size + 1 < _; omega)).trans k3, (hW.cell (by show wr.heap.size + 1 + 1 < _; omega)).trans k4, (hW.cell (by show wr.heap.size + 1 + 1 < _; omega)).trans k5, (hW.cell (by exact glq)).trans k6, (hW.cell (by exact glq)).trans k7⟩
            have HB3 := hid (HB.out.trans (hB3.mono HB.out.size))
            rw [← hW3]
            clear hW3 hB3 hsz c0 pX' pY' z0 z1' z2' xa ya xb' yb' xc' yc' glq
            obtain ⟨t1, ht1⟩ : ∃ t1, t1 = tw (px ta) (py ta) (px tb) (py tb) x y := ⟨_, rfl⟩
            obtain ⟨t2, ht2⟩ : ∃ t2, t2 = tw (px tb) (py tb) (px tc) (py tc) x y := ⟨_, rfl⟩
            obtain ⟨t3, ht3⟩ : ∃ t3, t3 = tw (px tc) (py tc) (px ta) (py ta) x y := ⟨_, rfl⟩
            have T1 := hid (fun W => turn_6 (px ta) (py ta) (px tb) (py tb) x y W B1)
            have T2 := hid (fun W => turn_6 (px tb) (py tb) (px tc) (py tc) x y W B2)
            have T3 := hid (fun W => turn_6 (px tc) (py tc) (px ta) (py ta) x y W B3)
            rw [← ht1] at T1 HTB
            rw [← ht2] at T2 HTB
            rw [← ht3] at T3 HTB
            clear ht1 ht2 ht3 B1 B2 B3 TN
            have NO : Hid (triB px py x y ta tb tc = false → ∀ r, r < i + 1 → triB px py x y (dA d r) (dB d r) (dC d r) = false) := hid fun hf r hr => by
              rcases Nat.lt_or_ge r i with q | q
              · exact HF.out r q
              · have : r = i := by omega
                subst this
                rw [← HABC.out.1, ← HABC.out.2.1, ← HABC.out.2.2]
                exact hf
            refine (T1.out _).mono ?_
            rintro e w10 ⟨rfl, hb10⟩
            have HB10 := hid (HB3.out.trans (hb10.mono HB3.out.size))
            have HK10 := hid hb10
            clear hb10
            by_cases g1 : 0 ≤ t1
            · have d1 : decide (0 ≤ t1) = true := decide_eq_true g1
              obtain ⟨k0, k1, k2, k3, k4, k5, k6, k7⟩ := KC.out w10 HK10.out
              go_wp2_with fail
              refine (T2.out _).mono ?_
              rintro e w11 ⟨rfl, hb11⟩
              have HB11 := hid (HB10.out.trans (hb11.mono HB10.out.size))
              have HK11 := hid (HK10.out.trans (hb11.mono HK10.out.size))
              clear hb11 k0 k1 k2 k3 k4 k5 k6 k7
              by_cases g2 : 0 ≤ t2
              · have d2 : decide (0 ≤ t2) = true := decide_eq_true g2
                obtain ⟨k0, k1, k2, k3, k4, k5, k6, k7⟩ := KC.out w11 HK11.out
                go_wp2_with fail
                refine (T3.out _).mono ?_
                rintro e w12 ⟨rfl, hb12⟩
                have HB12 := hid (HB11.out.trans (hb12.mono HB11.out.size))
                clear hb12 k0 k1 k2 k3 k4 k5 k6 k7
                by_cases g3' : 0 ≤ t3
                · have e1 : triB px py x y ta tb tc = true := by rw [HTB.out, decide_eq_true g1, decide_eq_true g2, decide_eq_true g3']; rfl
                  have e2 : lo = i := by
                    rw [HLO.out, HKK.out]
                    refine loc_hit (by rw [← HKK.out]; exact hik) ?_ (fun r hr => ?_)
                    · rw [hit_tri BDS.out HM.out HT.out X Y (by rw [← HKK.out]; exact hik), ← HABC.out.1, ← HABC.out.2.1, ← HABC.out.2.2]
                      exact e1
                    · rw [hit_tri BDS.out HM.out HT.out X Y (by rw [← HKK.out]; omega)]
                      exact HF.out r hr
                  subst e2
                  go_wp2_with fail
                  go_ret
                  exact ⟨rfl, HB4.out.trans ((HB9.out.trans (HB12.out.mono HB9.out.size)).mono HB4.out.size)⟩
                · have e1 : triB px py x y ta tb tc = false := by rw [HTB.out, decide_eq_false g3']; simp
                  have NN := hid (NO.out e1)
                  clear e1
                  go_wp2_with fail
                  go_roundw
                  case rel => exact ⟨i + 1, by omega, by go_num, NN, HB12⟩
                  case measure => simp [intOf]; omega
              · have e1 : triB px py x y ta tb tc = false := by rw [HTB.out, decide_eq_false g2]; simp
                have NN := hid (NO.out e1)
                clear e1
                go_wp2_with fail
                go_roundw
                case rel => exact ⟨i + 1, by omega, by go_num, NN, HB11⟩
                case measure => simp [intOf]; omega
            · have e1 : triB px py x y ta tb tc = false := by rw [HTB.out, decide_eq_false g1]; simp
              have NN := hid (NO.out e1)
              clear e1
              go_wp2_with fail
              go_roundw
              case rel => exact ⟨i + 1, by omega, by go_num, NN, HB10⟩
              case measure => simp [intOf]; omega
          · exfalso
            obtain ⟨r, hr, ht⟩ := SM.out
            rw [HF.out r (by rw [← HKK.out] at hr; omega)] at ht
            cases ht
end Go.Proofs.YtdbebbbceeopaaaGreat

set_option linter.unusedSimpArgs false
namespace Go.Proofs.YtdbebbbceeopaaaGreat
open Geo
variable {px py : Nat → Int} {n : Nat}

theorem bdc_shift (x y : Int) : bdc (fun i => px i + x) (fun i => py i + y) n = bdc px py n := by
  have e : ∀ i, Bdr (fun i => px i + x) (fun i => py i + y) n i = Bdr px py n i := fun i => by
    unfold Bdr
    simp only [T_shift]
  rw [bdc_eq, bdc_eq]
  exact sm_congr fun i _ => by rw [e]

theorem bdr_rev {i : Nat} : Bdr (fun i => px (rv n i)) (fun i => py (rv n i)) n i ↔ Bdr px py n (rv n i) := by
  constructor
  · rintro ⟨a, b, ha, hb, hne, h, h0⟩
    refine ⟨rv n a, rv n b, rv_lt ha, rv_lt hb, fun e => hne ?_, fun p hp => ?_, h0⟩
    · rw [← rv_rv ha, e, rv_rv hb]
    · have := h (rv n p) (rv_lt hp)
      unfold T at this ⊢
      simp only [rv_rv hp] at this
      exact this
  · rintro ⟨a, b, ha, hb, hne, h, h0⟩
    refine ⟨rv n a, rv n b, rv_lt ha, rv_lt hb, fun e => hne ?_, fun p hp => ?_, ?_⟩
    · rw [← rv_rv ha, e, rv_rv hb]
    · have := h (rv n p) (rv_lt hp)
      unfold T at this ⊢
      simp only [rv_rv ha, rv_rv hb]
      exact this
    · unfold T at h0 ⊢
      simp only [rv_rv ha, rv_rv hb]
      exact h0

open Classical in
theorem bdc_rev : bdc (fun i => px (rv n i)) (fun i => py (rv n i)) n = bdc px py n := by
  rw [bdc_eq, bdc_eq]
  rw [← sm_rev (fun i => if Bdr px py n i then 1 else 0) n]
  exact sm_congr fun i _ => by
    have e : Bdr (fun i => px (rv n i)) (fun i => py (rv n i)) n i = Bdr px py n (n - 1 - i) := propext bdr_rev
    rw [e]

/-- Is a side of a mesh one between two points? -/
def Joined (M : Nat → Nat → Option Nat) (i k : Nat) : Prop := M i k ≠ none ∨ M k i ≠ none

theorem joined_same {M M' : Nat → Nat → Option Nat} (h : Mesh px py n M) (hi : Inj px py n) (hc : Cor n M) (hl : Geo.Loc px py M) (h' : Mesh px py n M') (hc' : Cor n M') (hl' : Geo.Loc px py M') (hf : Free px py n) (i k : Nat) : Joined M i k ↔ Joined M' i k := by
  have key : ∀ {M M' : Nat → Nat → Option Nat}, Mesh px py n M → Cor n M → Geo.Loc px py M → Mesh px py n M' → Cor n M' → Geo.Loc px py M' → ∀ i k, M i k ≠ none → Joined M' i k := by
    intro M M' h hc hl h' hc' hl' i k g
    cases e : M i k with
    | none => exact absurd e g
    | some z =>
      rcases same_sides h hi hc hl h' hc' hl' hf e with ⟨c, q⟩ | ⟨c, q⟩
      · exact .inl (by rw [q]; simp)
      · exact .inr (by rw [q]; simp)
  constructor
  · rintro (g | g)
    · exact key h hc hl h' hc' hl' i k g
    · exact (key h hc hl h' hc' hl' k i g).symm
  · rintro (g | g)
    · exact key h' hc' hl' h hc hl i k g
    · exact (key h' hc' hl' h hc hl k i g).symm

theorem joined_rev {M : Nat → Nat → Option Nat} {i k : Nat} (hi : i < n) (hk : k < n) : Joined (revM n M) i k ↔ Joined M (rv n i) (rv n k) := by
  unfold Joined
  rw [Ne, Ne, Ne, Ne, revM_none hi hk, revM_none hk hi]

end Go.Proofs.YtdbebbbceeopaaaGreat
