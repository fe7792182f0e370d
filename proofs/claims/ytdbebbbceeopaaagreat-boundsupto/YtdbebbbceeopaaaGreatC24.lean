import Derived.Test.YtdbebbbceeopaaaGreatC23
import Derived.Test.YtdbebbbceeopaaaGreatC21
import Derived.Test.YtdbebbbceeopaaaGreatC22
set_option linter.unusedSimpArgs false
namespace Go.Proofs.YtdbebbbceeopaaaGreat
open Go.RowKit

/-- Does the point lie on a line through one of the first k sides of the hull? -/
def onB (px py : Nat → Int) (hs : List Nat) (i : Nat) : Nat → Bool
  | 0 => false
  | k + 1 => onB px py hs i k || decide (T px py (hs.getD k 0) (hs.getD ((k + 1) % hs.length) 0) i = 0)

/-- How many of the first points do? -/
def rimI (px py : Nat → Int) (hs : List Nat) : Nat → Int
  | 0 => 0
  | i + 1 => rimI px py hs i + (if onB px py hs i hs.length then 1 else 0)

theorem rimI_bd (px py : Nat → Int) (hs : List Nat) : ∀ k : Nat, 0 ≤ rimI px py hs k ∧ rimI px py hs k ≤ k
  | 0 => by simp [rimI]
  | k + 1 => by
    have := rimI_bd px py hs k
    unfold rimI
    split <;> push_cast <;> omega

set_option maxRecDepth 100000 in
set_option maxHeartbeats 2000000 in
theorem rim_any (px py : Nat → Int) (n g cap g3 cp3 : Nat) (hs : List Nat) (w : World) (hn : n ≤ 40) (hp : Pts w g 0 n px py) (hbd : Bds n px py) (h3 : 3 ≤ hs.length) (hlen : hs.length ≤ 100) (hg : g3 < w.heap.size) (hc : ∀ j, j < hs.length → w.cell? ⟨g3, j, none⟩ = some (.int .i64 (hs.getD j 0 : Nat))) (hl : ∀ j, j < hs.length → hs.getD j 0 < n) :
    Calls Tryz.prog 27 #[.slice (some ⟨g, 0, none⟩) n cap, .slice (some ⟨g3, 0, none⟩) hs.length cp3] w fun e w' => e = .returned (.int .i64 (rimI px py hs n)) ∧ Below w.heap.size w w' := by
  have HP := hid hp
  have HBD := hid hbd
  have HC := hid hc
  have HL := hid hl
  have HRB := hid (rimI_bd px py hs)
  obtain ⟨m, hm⟩ : ∃ m, m = hs.length := ⟨_, rfl⟩
  have HM := hid hm
  rw [← hm] at HC HL h3 hlen ⊢
  clear hp hbd hc hl hm
  go_enter Tryz.func27, Tryz.ntmps27
  go_wp2_with fail
  go_loopw [5, 6] (fun s i wr => ∃ k : Nat, k ≤ n ∧ i = .int .i64 k ∧ s = .int .i64 (rimI px py hs k) ∧ Hid (Below w.heap.size w wr)) (fun _ i _ => n - (intOf i).toNat)
  case atStart => exact ⟨0, Nat.zero_le _, rfl, rfl, hid (Below.refl _ _)⟩
  case round =>
    obtain ⟨i, hi, rfl, rfl, HB⟩ := hrel
    by_cases hlt : i < n
    · have hlt' : (i : Int) < n := by omega
      obtain ⟨wr0, hwr0⟩ : ∃ wr0, wr0 = wr := ⟨_, rfl⟩
      have HB0 : Hid (Below w.heap.size w wr0) := by rw [hwr0]; exact HB
      rw [← hwr0]
      clear HB hwr0
      go_wp2_with fail
      go_loopw [7, 8] (fun s j wr => ∃ k : Nat, k ≤ m ∧ j = .int .i64 k ∧ s = .bool (onB px py hs i k) ∧ Hid (Below w.heap.size w wr)) (fun _ j _ => m - (intOf j).toNat)
      case atStart => exact ⟨0, Nat.zero_le _, rfl, rfl, HB0⟩
      case round =>
        obtain ⟨k, hk, rfl, rfl, HB⟩ := hrel
        by_cases hkm : k < m
        · have hkm' : (k : Int) < m := by omega
          obtain ⟨i1, hi1⟩ : ∃ i1, i1 = (k + 1) % m := ⟨_, rfl⟩
          have li1 : i1 < m := by rw [hi1]; exact Nat.mod_lt _ (by omega)
          have m1 : ((k : Int) + 1) % (m : Int) = (i1 : Int) := by rw [hi1]; push_cast; rfl
          have HON : Hid (onB px py hs i (k + 1) = (onB px py hs i k || decide (T px py (hs.getD k 0) (hs.getD i1 0) i = 0))) := hid (by rw [hi1, HM.out]; rfl)
          have na := HL.out k hkm
          have nb := HL.out i1 li1
          have ca := (HB.out.cell (p := ⟨g3, k, none⟩) hg).trans (HC.out k hkm)
          have cb := (HB.out.cell (p := ⟨g3, i1, none⟩) hg).trans (HC.out i1 li1)
          clear hi1
          obtain ⟨ai, hai⟩ : ∃ ai, ai = hs.getD k 0 := ⟨_, rfl⟩
          obtain ⟨bi, hbi⟩ : ∃ bi, bi = hs.getD i1 0 := ⟨_, rfl⟩
          rw [← hai] at na ca HON
          rw [← hbi] at nb cb HON
          clear hai hbi
          have hpw := HP.out.below HB.out HP.out.lt
          have xa := hpw.x ai na
          have ya := hpw.y ai na
          have xb := hpw.x bi nb
          have yb := hpw.y bi nb
          have xc := hpw.x i hlt
          have yc := hpw.y i hlt
          rw [Nat.zero_add] at xa ya xb yb xc yc
          have gl := hpw.lt
          have gl3 : g3 < wr.heap.size := Nat.lt_of_lt_of_le hg HB.out.size
          have B6 : Bd6 (px ai) (py ai) (px bi) (py bi) (px i) (py i) := ⟨bd4 HBD.out na nb, (HBD.out i hlt).1, (HBD.out i hlt).2⟩
          have K1 := hid (fun W => turn_6 (px ai) (py ai) (px bi) (py bi) (px i) (py i) W B6)
          have et : tw (px ai) (py ai) (px bi) (py bi) (px i) (py i) = T px py ai bi i := rfl
          rw [et] at K1
          clear et B6
          generalize T px py ai bi i = t at *
          have a' : (ai : Int) < n := by omega
          have b' : (bi : Int) < n := by omega
          have l1' : (i1 : Int) < m := by omega
          have q1 : (0 : Int) ≤ (k : Int) := by omega
          have q2 : (0 : Int) ≤ (i1 : Int) := by omega
          have q3 : (0 : Int) ≤ (ai : Int) := by omega
          have q4 : (0 : Int) ≤ (bi : Int) := by omega
          have y2 : IntKind.i64.wrap ((k : Int) + 1) = k + 1 := by rw [IntKind.wrap_i64]; omega
          have hm0 : ¬ (m : Int) = 0 := by omega
          have hm0' : ¬ m = 0 := by omega
          have dm : ((m : Int) == 0) = false := by simp; omega
          have tm : Int.tmod ((k : Int) + 1) (m : Int) = (i1 : Int) := by rw [Int.tmod_eq_emod_of_nonneg (by omega)]; exact m1
          have cb' : ∀ o, (wr.alloc o).cell? ⟨g3, i1, none⟩ = some (.int .i64 (bi : Nat)) := fun o => cell_new cb
          have xb' : ∀ o, (wr.alloc o).cell? ⟨g, bi * 2, none⟩ = some (.int .i64 (px bi)) := fun o => cell_new xb
          have yb' : ∀ o, (wr.alloc o).cell? ⟨g, bi * 2 + 1, none⟩ = some (.int .i64 (py bi)) := fun o => cell_new yb
          clear hpw
          go_wp2_with fail
          obtain ⟨W2, hW2⟩ : ∃ W2 : World, W2 = (wr.alloc (.cells #[.int .i64 (px ai), .int .i64 (py ai)] 35)).alloc (.cells #[.int .i64 (px bi), .int .i64 (py bi)] 35) := ⟨_, rfl⟩
          obtain ⟨b0, hb0⟩ : ∃ b0, b0 = wr.heap.size := ⟨_, rfl⟩
          have hsz : W2.heap.size = b0 + 1 + 1 := by rw [hW2, hb0]; simp
          have HB2 : Hid (Below w.heap.size w W2) := hid (by rw [hW2]; exact (HB.out.alloc HB.out.size _).alloc (by have := HB.out.size; simp; omega) _)
          have p0 : W2.cell? ⟨b0, 0, none⟩ = some (.int .i64 (px ai)) := by rw [hW2, hb0, World.cell?_alloc_past _ _ _ (by simp), World.cell?_alloc_at _ _ _ _ (by simp)]; rfl
          have p1 : W2.cell? ⟨b0, 1, none⟩ = some (.int .i64 (py ai)) := by rw [hW2, hb0, World.cell?_alloc_past _ _ _ (by simp), World.cell?_alloc_at _ _ _ _ (by simp)]; rfl
          have p2 : W2.cell? ⟨b0 + 1, 0, none⟩ = some (.int .i64 (px bi)) := by rw [hW2, hb0, World.cell?_alloc_at _ _ _ _ (by simp)]; rfl
          have p3 : W2.cell? ⟨b0 + 1, 1, none⟩ = some (.int .i64 (py bi)) := by rw [hW2, hb0, World.cell?_alloc_at _ _ _ _ (by simp)]; rfl
          have p4 : W2.cell? ⟨g, i * 2, none⟩ = some (.int .i64 (px i)) := by rw [hW2]; exact cell_new (cell_new xc)
          have p5 : W2.cell? ⟨g, i * 2 + 1, none⟩ = some (.int .i64 (py i)) := by rw [hW2]; exact cell_new (cell_new yc)
          have gb0 : b0 < W2.heap.size := by omega
          have gb1 : b0 + 1 < W2.heap.size := by omega
          have gg : g < W2.heap.size := by omega
          rw [← hW2, ← hb0]
          clear hW2 hb0 hsz HB ca cb xa ya xb yb xc yc cb' xb' yb' gl gl3
          obtain ⟨ob, hob⟩ : ∃ ob, ob = onB px py hs i k := ⟨_, rfl⟩
          rw [← hob] at HON ⊢
          clear hob
          cases ob with
          | true =>
            have HR : Hid (onB px py hs i (k + 1) = true) := hid (by rw [HON.out]; rfl)
            clear HON
            go_quiet (fail)
            go_wp2_with fail
            go_roundw
            case rel => exact ⟨k + 1, by omega, by go_num, by rw [HR.out], hid (below_drewN HB2.out _)⟩
            case measure => simp [intOf]; omega
          | false =>
            have HR : Hid (onB px py hs i (k + 1) = decide (t = 0)) := hid (by rw [HON.out]; rfl)
            clear HON
            go_region_held3 (fun W => W.cell? ⟨b0, 0, none⟩ = some (.int .i64 (px ai)) ∧ W.cell? ⟨b0, 1, none⟩ = some (.int .i64 (py ai)) ∧ W.cell? ⟨b0 + 1, 0, none⟩ = some (.int .i64 (px bi)) ∧ W.cell? ⟨b0 + 1, 1, none⟩ = some (.int .i64 (py bi)) ∧ W.cell? ⟨g, i * 2, none⟩ = some (.int .i64 (px i)) ∧ W.cell? ⟨g, i * 2 + 1, none⟩ = some (.int .i64 (py i))) (go_keep)
              ((go_at_call 23; refine (K1.out _).mono ?_; rintro e w6 ⟨rfl, hb6⟩; have v0 := (hb6.cell (p := ⟨b0, 0, none⟩) gb0).trans p0; have v1 := (hb6.cell (p := ⟨b0, 1, none⟩) gb0).trans p1; have v2 := (hb6.cell (p := ⟨b0 + 1, 0, none⟩) gb1).trans p2; have v3 := (hb6.cell (p := ⟨b0 + 1, 1, none⟩) gb1).trans p3; have v4 := (hb6.cell (p := ⟨g, i * 2, none⟩) gg).trans p4; have v5 := (hb6.cell (p := ⟨g, i * 2 + 1, none⟩) gg).trans p5; have HB6 := hid hb6; clear hb6))
            clear v0 v1 v2 v3 v4 v5 p0 p1 p2 p3 p4 p5
            have HR9 : Hid (onB px py hs i (k + 1) = (t == 0)) := hid (by rw [HR.out]; exact (Bool.beq_eq_decide_eq t 0).symm)
            generalize (t == 0) = tv at *
            clear HR
            go_wp2_with fail
            go_roundw
            case rel => exact ⟨k + 1, by omega, by go_num, by rw [HR9.out], hid (HB2.out.drew.trans (HB6.out.mono HB2.out.size))⟩
            case measure => simp [intOf]; omega
        · have hkm : k = m := by omega
          subst hkm
          have HN : Hid (rimI px py hs (i + 1) = rimI px py hs i + (if onB px py hs i k then 1 else 0)) := hid (by rw [HM.out]; rfl)
          have bd := HRB.out i
          obtain ⟨ob, hob⟩ : ∃ ob, ob = onB px py hs i k := ⟨_, rfl⟩
          obtain ⟨rv, hrv⟩ : ∃ rv, rv = rimI px py hs i := ⟨_, rfl⟩
          rw [← hob, ← hrv] at HN
          rw [← hrv] at bd
          rw [← hob]
          clear hob
          cases ob with
          | true =>
            have wf : IntKind.i64.wrap (rv + 1) = rv + 1 := by rw [IntKind.wrap_i64]; omega
            have HN1 : Hid (rimI px py hs (i + 1) = rv + 1) := hid (by rw [HN.out]; rfl)
            clear HN
            rw [hrv] at wf HN1
            clear hrv
            go_wp2_with fail
            go_roundw
            case rel => exact ⟨i + 1, by omega, by go_num, by rw [HN1.out], HB⟩
            case measure => simp [intOf]; omega
          | false =>
            have HN1 : Hid (rimI px py hs (i + 1) = rv) := hid (by rw [HN.out]; simp)
            clear HN
            rw [hrv] at HN1
            clear hrv
            go_wp2_with fail
            go_roundw
            case rel => exact ⟨i + 1, by omega, by go_num, by rw [HN1.out], HB⟩
            case measure => simp [intOf]; omega
    · have hkm : i = n := by omega
      subst hkm
      go_wp2_with fail
      go_ret
      exact ⟨rfl, HB.out⟩
end Go.Proofs.YtdbebbbceeopaaaGreat

namespace Go.Proofs.YtdbebbbceeopaaaGreat
open Geo
variable {px py : Nat → Int} {n : Nat}

/-- A point that is not on the line of a side is not on a line along it. -/
theorem off_same {i a b u v : Nat} (_h1 : Lt Lex px py a b) (h2 : Lt Lex px py u v) (e1 : T px py a b u = 0) (e2 : T px py a b v = 0) (hq : T px py a b i ≠ 0) : T px py u v i ≠ 0 := by
  intro h0
  have i1 : T px py u v i * (px b - px a) = T px py a b i * (px v - px u) := by
    unfold T tw at *
    grind
  have i2 : T px py u v i * (py b - py a) = T px py a b i * (py v - py u) := by
    unfold T tw at *
    grind
  rw [h0, Int.zero_mul] at i1 i2
  rcases Int.mul_eq_zero.1 i1.symm with k | k
  · exact hq k
  rcases Int.mul_eq_zero.1 i2.symm with k' | k'
  · exact hq k'
  unfold Lt Lex at h2
  omega

theorem off_back {i a b u v : Nat} (h1 : Lt Back px py a b) (h2 : Lt Back px py u v) (e1 : T px py a b u = 0) (e2 : T px py a b v = 0) (hq : T px py a b i ≠ 0) : T px py u v i ≠ 0 := by
  rw [lt_back] at h1 h2
  have f : ∀ x y z, T px py y x z = - T px py x y z := fun x y z => by unfold T tw; grind
  have := off_same (i := i) h1 h2 (by rw [f a b]; omega) (by rw [f a b]; omega) (by rw [f a b]; omega)
  rw [f u v] at this
  omega

/-- Who lies on the border lies on the line of one of the hull's sides. -/
theorem Ring.on {os : List Nat} {M : Nat → Nat → Option Nat} {R L : Nat} {s1 q1 s2 q2 : List Nat} (h : Ring px py n os M R L s1 q1 s2 q2) (hm : Mesh px py n M) (hj : Inj px py n) (hc : Cor n M) (hn : ∀ p, p ∈ os ↔ p < n) {i : Nat} (hi : i < n) (hb : Bdr px py n i) :
    ∃ k, k < (hullOf (T px py) os).length ∧ T px py ((hullOf (T px py) os).getD k 0) ((hullOf (T px py) os).getD ((k + 1) % (hullOf (T px py) os).length) 0) i = 0 := by
  refine Classical.byContradiction fun hno => ?_
  have hin : ∀ k, k < (hullOf (T px py) os).length → T px py ((hullOf (T px py) os).getD k 0) ((hullOf (T px py) os).getD ((k + 1) % (hullOf (T px py) os).length) 0) i ≠ 0 := fun k hk h0 => hno ⟨k, hk, h0⟩
  unfold hullOf at hin
  have hh := hull_sides h.w1.stk h.w2.stk (by rw [h.w2.stk, h.w2.lastQ]) (by rw [h.w1.stk, h.w1.lastQ]) h.w1.q0 h.w2.q0 (fun a b => T px py a b i ≠ 0) hin
  rw [h.w1.stk, h.w2.stk] at hh
  have c1 := walk_all half_lex h.tri (fun a b => T px py a b i ≠ 0) (fun a b u v => off_same) _ s1 q1 R (Nat.le_refl _) h.w1.gdS h.w1.gdQ h.w1.memS h.w1.memQ (by rw [h.w1.lastS, h.w1.lastQ]) hh.1
  have c2 := walk_all half_back' h.tri2 (fun a b => T px py a b i ≠ 0) (fun a b u v => off_back) _ s2 q2 L (Nat.le_refl _) h.w2.gdS h.w2.gdQ h.w2.memS h.w2.memQ (by rw [h.w2.lastS, h.w2.lastQ]) hh.2
  have z1 : ∀ v, T px py i v i = 0 := fun v => by unfold T tw; grind
  have z2 : ∀ v, T px py v i i = 0 := fun v => by unfold T tw; grind
  have go : ∀ (s : List Nat) (l : Nat), s ≠ [] → i ∈ l :: s → (∀ u v, Ed (l :: s) u v → T px py u v i ≠ 0) → False := by
    intro s l hs hm hc
    rcases List.mem_cons.1 hm with k | k
    · subst k
      obtain ⟨b, e⟩ := head_ed (l := i) hs
      exact hc _ _ e (z2 b)
    · obtain ⟨v, e⟩ := ed_out s l i k
      exact hc _ _ e (z1 v)
  rcases (h.bdr hm hj hc hn hi).1 hb with k | k
  · exact go s1 R (h.w1.s0 half_lex) k c1
  · exact go s2 L (h.w2.s0 half_back') k c2

theorem onB_iff (hs : List Nat) (i : Nat) : ∀ m, onB px py hs i m = true ↔ ∃ k, k < m ∧ T px py (hs.getD k 0) (hs.getD ((k + 1) % hs.length) 0) i = 0
  | 0 => by simp [onB]
  | m + 1 => by
    unfold onB
    rw [Bool.or_eq_true, onB_iff hs i m, decide_eq_true_iff]
    constructor
    · rintro (⟨k, hk, h⟩ | h)
      · exact ⟨k, by omega, h⟩
      · exact ⟨m, by omega, h⟩
    · rintro ⟨k, hk, h⟩
      by_cases e : k = m
      · subst e; exact .inr h
      · exact .inl ⟨k, by omega, h⟩

theorem rimI_sm (hs : List Nat) : ∀ m, rimI px py hs m = sm m fun i => if onB px py hs i hs.length then 1 else 0
  | 0 => rfl
  | m + 1 => by rw [rimI, sm, rimI_sm hs m]

/-- The law's count of the border's points. -/
theorem rim_bdc {M : Nat → Nat → Option Nat} {hs : List Nat} (h : Msh px py n M hs) (h3 : 3 ≤ n) (hr : refI px py n = 0) (hj : Inj px py n) : rimI px py hs n = bdc px py n := by
  obtain ⟨os, ⟨o3, op, om⟩, rfl, hre⟩ := h.ord
  have hw := refI_Wide h3 hr om
  obtain ⟨s1, q1, s2, q2, R⟩ := ring0 o3 op om hw
  have m0 := mesh0_ok o3 op om hw
  rw [rimI_sm, bdc]
  refine sm_congr fun i hi => ?_
  have key : onB px py (hullOf (T px py) os) i (hullOf (T px py) os).length = true ↔ Bdr px py n i := by
    rw [onB_iff]
    constructor
    · rintro ⟨k, hk, e⟩
      have hk1 : (k + 1) % (hullOf (T px py) os).length < (hullOf (T px py) os).length := Nat.mod_lt _ (by omega)
      refine ⟨_, _, h.hull.lt k hk, h.hull.lt _ hk1, fun e2 => ?_, h.hull.side k hk, e⟩
      have := h.hull.turn k hk
      rw [← e2] at this
      have z : ∀ a c, T px py a a c = 0 := fun a c => by unfold T tw; grind
      rw [z] at this
      omega
    · exact fun hb => R.on m0.1 hj m0.2.1 om hi hb
  by_cases q : Bdr px py n i
  · rw [if_pos q, if_pos (key.2 q)]
  · rw [if_neg q, if_neg (fun e => q (key.1 e))]

/-- The hull's corners, of whatever mesh. -/
theorem hs_one {M : Nat → Nat → Option Nat} {hs hs' : List Nat} (h : Msh px py n M hs) (ho : ∃ os : List Nat, (3 ≤ os.length ∧ os.Pairwise (Geo.Lt Geo.Lex px py) ∧ ∀ p, p ∈ os ↔ p < n) ∧ hs' = hullOf (T px py) os) : hs' = hs := by
  obtain ⟨os', ⟨_, op', om'⟩, rfl⟩ := ho
  obtain ⟨os, ⟨_, op, om⟩, rfl, _⟩ := h.ord
  rw [order_one op' op (fun p => by rw [om, om'])]
end Go.Proofs.YtdbebbbceeopaaaGreat

set_option linter.unusedSimpArgs false
namespace Go.Proofs.YtdbebbbceeopaaaGreat
open Go.RowKit

def circI (ax ay bx bya cx cy dx dy : Int) : Int := sqI ax ay dx dy * tw dx dy bx bya cx cy + sqI bx bya dx dy * tw dx dy cx cy ax ay + sqI cx cy dx dy * tw dx dy ax ay bx bya

theorem circ_Wn (px py : Nat → Int) (a b c d : Nat) : circI (px a) (py a) (px b) (py b) (px c) (py c) (px d) (py d) = Geo.Wn px py a b c d := rfl

theorem mul_bd {a b A B : Int} (ha : -A ≤ a) (ha' : a ≤ A) (hb : -B ≤ b) (hb' : b ≤ B) : -(A * B) ≤ a * b ∧ a * b ≤ A * B := by
  have h1 := Int.mul_nonneg (show 0 ≤ A - a by omega) (show 0 ≤ B - b by omega)
  have h2 := Int.mul_nonneg (show 0 ≤ A - a by omega) (show 0 ≤ B + b by omega)
  have h3 := Int.mul_nonneg (show 0 ≤ A + a by omega) (show 0 ≤ B - b by omega)
  have h4 := Int.mul_nonneg (show 0 ≤ A + a by omega) (show 0 ≤ B + b by omega)
  have e1 : (A - a) * (B - b) = A * B - A * b - a * B + a * b := by grind
  have e2 : (A - a) * (B + b) = A * B + A * b - a * B - a * b := by grind
  have e3 : (A + a) * (B - b) = A * B - A * b + a * B - a * b := by grind
  have e4 : (A + a) * (B + b) = A * B + A * b + a * B + a * b := by grind
  omega

theorem sqI_bd {a b c d : Int} (h : Bd4 a b c d) : 0 ≤ sqI a b c d ∧ sqI a b c d ≤ 8000000 := by
  obtain ⟨h1, h2, h3, h4⟩ := h
  have m1 := mul_bd (a := a - c) (b := a - c) (A := 2000) (B := 2000) (by omega) (by omega) (by omega) (by omega)
  have m2 := mul_bd (a := b - d) (b := b - d) (A := 2000) (B := 2000) (by omega) (by omega) (by omega) (by omega)
  have n1 := Geo.sqd_nonneg (a - c) (b - d)
  unfold Geo.sq at n1
  unfold sqI
  omega

theorem tw_bd6 {a b c d e f : Int} (h : Bd6 a b c d e f) : -8000000 ≤ tw a b c d e f ∧ tw a b c d e f ≤ 8000000 := by
  obtain ⟨⟨h1, h2, h3, h4⟩, h5, h6⟩ := h
  have m1 := mul_bd (a := c - a) (b := f - b) (A := 2000) (B := 2000) (by omega) (by omega) (by omega) (by omega)
  have m2 := mul_bd (a := d - b) (b := e - a) (A := 2000) (B := 2000) (by omega) (by omega) (by omega) (by omega)
  unfold tw
  omega

/-- Eight numbers in bounds. -/
def Bd8 (a b c d e f g h : Int) : Prop := Bd4 a b c d ∧ Bd4 e f g h

set_option maxRecDepth 100000 in
set_option maxHeartbeats 2000000 in
theorem circle_any (ax ay bx bya cx cy dx dy : Int) (w : World) (h : Bd8 ax ay bx bya cx cy dx dy) :
    Calls Tryz.prog 32 #[.agg #[.int .i64 ax, .int .i64 ay], .agg #[.int .i64 bx, .int .i64 bya], .agg #[.int .i64 cx, .int .i64 cy], .agg #[.int .i64 dx, .int .i64 dy]] w fun e w' => e = .returned (.int .i64 (circI ax ay bx bya cx cy dx dy)) ∧ Below w.heap.size w w' := by
  obtain ⟨⟨A, A', B, B'⟩, ⟨C, C', D, D'⟩⟩ := h
  have f1 : Bd4 ax ay dx dy := ⟨A, A', D, D'⟩
  have f2 : Bd4 bx bya dx dy := ⟨B, B', D, D'⟩
  have f3 : Bd4 cx cy dx dy := ⟨C, C', D, D'⟩
  have g1 : Bd6 dx dy bx bya cx cy := ⟨⟨D, D', B, B'⟩, C, C'⟩
  have g2 : Bd6 dx dy cx cy ax ay := ⟨⟨D, D', C, C'⟩, A, A'⟩
  have g3 : Bd6 dx dy ax ay bx bya := ⟨⟨D, D', A, A'⟩, B, B'⟩
  clear A A' B B' C C' D D'
  have b1 := sqI_bd f1
  have b2 := sqI_bd f2
  have b3 := sqI_bd f3
  have t1 := tw_bd6 g1
  have t2 := tw_bd6 g2
  have t3 := tw_bd6 g3
  have m1 := mul_bd (a := sqI ax ay dx dy) (b := tw dx dy bx bya cx cy) (A := 8000000) (B := 8000000) (by omega) (by omega) (by omega) (by omega)
  have m2 := mul_bd (a := sqI bx bya dx dy) (b := tw dx dy cx cy ax ay) (A := 8000000) (B := 8000000) (by omega) (by omega) (by omega) (by omega)
  have m3 := mul_bd (a := sqI cx cy dx dy) (b := tw dx dy ax ay bx bya) (A := 8000000) (B := 8000000) (by omega) (by omega) (by omega) (by omega)
  have y1 : IntKind.i64.wrap (sqI ax ay dx dy * tw dx dy bx bya cx cy) = sqI ax ay dx dy * tw dx dy bx bya cx cy := by rw [IntKind.wrap_i64]; omega
  have y2 : IntKind.i64.wrap (sqI bx bya dx dy * tw dx dy cx cy ax ay) = sqI bx bya dx dy * tw dx dy cx cy ax ay := by rw [IntKind.wrap_i64]; omega
  have y3 : IntKind.i64.wrap (sqI cx cy dx dy * tw dx dy ax ay bx bya) = sqI cx cy dx dy * tw dx dy ax ay bx bya := by rw [IntKind.wrap_i64]; omega
  have y4 : IntKind.i64.wrap (sqI ax ay dx dy * tw dx dy bx bya cx cy + sqI bx bya dx dy * tw dx dy cx cy ax ay) = sqI ax ay dx dy * tw dx dy bx bya cx cy + sqI bx bya dx dy * tw dx dy cx cy ax ay := by rw [IntKind.wrap_i64]; omega
  have y5 : IntKind.i64.wrap (sqI ax ay dx dy * tw dx dy bx bya cx cy + sqI bx bya dx dy * tw dx dy cx cy ax ay + sqI cx cy dx dy * tw dx dy ax ay bx bya) = sqI ax ay dx dy * tw dx dy bx bya cx cy + sqI bx bya dx dy * tw dx dy cx cy ax ay + sqI cx cy dx dy * tw dx dy ax ay bx bya := by rw [IntKind.wrap_i64]; omega
  clear b1 b2 b3 t1 t2 t3 m1 m2 m3
  have SQ := hid square_4
  have TN := hid turn_6
  obtain ⟨W1, hW1⟩ : ∃ W1 : World, W1 = (((w.alloc (.cells #[.int .i64 ax, .int .i64 ay] 35)).alloc (.cells #[.int .i64 bx, .int .i64 bya] 35)).alloc (.cells #[.int .i64 cx, .int .i64 cy] 35)).alloc (.cells #[.int .i64 dx, .int .i64 dy] 35) := ⟨_, rfl⟩
  have B1 : Hid (Below w.heap.size w W1) := hid (by rw [hW1]; exact (((((Below.refl _ _).alloc (Nat.le_refl _) _).alloc (by simp) _).alloc (by simp <;> omega) _).alloc (by simp <;> omega) _))
  have hsz : W1.heap.size = w.heap.size + 1 + 1 + 1 + 1 := by rw [hW1]; simp
  have c0 : W1.cell? ⟨w.heap.size, 0, none⟩ = some (.int .i64 ax) ∧ W1.cell? ⟨w.heap.size, 1, none⟩ = some (.int .i64 ay) ∧ W1.cell? ⟨w.heap.size + 1, 0, none⟩ = some (.int .i64 bx) ∧ W1.cell? ⟨w.heap.size + 1, 1, none⟩ = some (.int .i64 bya) ∧ W1.cell? ⟨w.heap.size + 1 + 1, 0, none⟩ = some (.int .i64 cx) ∧ W1.cell? ⟨w.heap.size + 1 + 1, 1, none⟩ = some (.int .i64 cy) ∧ W1.cell? ⟨w.heap.size + 1 + 1 + 1, 0, none⟩ = some (.int .i64 dx) ∧ W1.cell? ⟨w.heap.size + 1 + 1 + 1, 1, none⟩ = some (.int .i64 dy) := by
    rw [hW1]
    refine ⟨?_, ?_, ?_, ?_, ?_, ?_, ?_, ?_⟩
    · rw [World.cell?_alloc_past _ _ _ (by simp <;> omega), World.cell?_alloc_past _ _ _ (by simp <;> omega), World.cell?_alloc_past _ _ _ (by simp), World.cell?_alloc_at _ _ _ _ (by simp)]; rfl
    · rw [World.cell?_alloc_past _ _ _ (by simp <;> omega), World.cell?_alloc_past _ _ _ (by simp <;> omega), World.cell?_alloc_past _ _ _ (by simp), World.cell?_alloc_at _ _ _ _ (by simp)]; rfl
    · rw [World.cell?_alloc_past _ _ _ (by simp <;> omega), World.cell?_alloc_past _ _ _ (by simp), World.cell?_alloc_at _ _ _ _ (by simp)]; rfl
    · rw [World.cell?_alloc_past _ _ _ (by simp <;> omega), World.cell?_alloc_past _ _ _ (by simp), World.cell?_alloc_at _ _ _ _ (by simp)]; rfl
    · rw [World.cell?_alloc_past _ _ _ (by simp), World.cell?_alloc_at _ _ _ _ (by simp)]; rfl
    · rw [World.cell?_alloc_past _ _ _ (by simp), World.cell?_alloc_at _ _ _ _ (by simp)]; rfl
    · rw [World.cell?_alloc_at _ _ _ _ (by simp)]; rfl
    · rw [World.cell?_alloc_at _ _ _ _ (by simp)]; rfl
  have KEEP : Hid (∀ W, Below W1.heap.size W1 W → W.cell? ⟨w.heap.size, 0, none⟩ = some (.int .i64 ax) ∧ W.cell? ⟨w.heap.size, 1, none⟩ = some (.int .i64 ay) ∧ W.cell? ⟨w.heap.size + 1, 0, none⟩ = some (.int .i64 bx) ∧ W.cell? ⟨w.heap.size + 1, 1, none⟩ = some (.int .i64 bya) ∧ W.cell? ⟨w.heap.size + 1 + 1, 0, none⟩ = some (.int .i64 cx) ∧ W.cell? ⟨w.heap.size + 1 + 1, 1, none⟩ = some (.int .i64 cy) ∧ W.cell? ⟨w.heap.size + 1 + 1 + 1, 0, none⟩ = some (.int .i64 dx) ∧ W.cell? ⟨w.heap.size + 1 + 1 + 1, 1, none⟩ = some (.int .i64 dy)) := hid fun W hW => by
    obtain ⟨k0, k1, k2, k3, k4, k5, k6, k7⟩ := c0
    exact ⟨(hW.cell (by show w.heap.size < _; omega)).trans k0, (hW.cell (by show w.heap.size < _; omega)).trans k1, (hW.cell (by show w.heap.size + 1 < _; omega)).trans k2, (hW.cell (by show w.heap.size + 1 < _; omega)).trans k3, (hW.cell (by show w.heap.size + 1 + 1 < _; omega)).trans k4, (hW.cell (by show w.heap.size + 1 + 1 < _; omega)).trans k5, (hW.cell (by show w.heap.size + 1 + 1 + 1 < _; omega)).trans k6, (hW.cell (by show w.heap.size + 1 + 1 + 1 < _; omega)).trans k7⟩
  have START := KEEP.out W1.drew (Below.refl _ _).drew
  clear c0 hsz
  unfold circI
  go_enter Tryz.func32, Tryz.ntmps32
  go_wp2_with fail
  rw [← hW1]
  clear hW1
  go_region_held3 (fun w' => w'.cell? ⟨w.heap.size, 0, none⟩ = some (.int .i64 ax) ∧ w'.cell? ⟨w.heap.size, 1, none⟩ = some (.int .i64 ay) ∧ w'.cell? ⟨w.heap.size + 1, 0, none⟩ = some (.int .i64 bx) ∧ w'.cell? ⟨w.heap.size + 1, 1, none⟩ = some (.int .i64 bya) ∧ w'.cell? ⟨w.heap.size + 1 + 1, 0, none⟩ = some (.int .i64 cx) ∧ w'.cell? ⟨w.heap.size + 1 + 1, 1, none⟩ = some (.int .i64 cy) ∧ w'.cell? ⟨w.heap.size + 1 + 1 + 1, 0, none⟩ = some (.int .i64 dx) ∧ w'.cell? ⟨w.heap.size + 1 + 1 + 1, 1, none⟩ = some (.int .i64 dy)) (assumption)
    (first | (go_at_call 17; refine (SQ.out _ _ _ _ _ (by assumption)).mono ?_; rintro e w2a ⟨rfl, hb6⟩; have HB6 : Hid (Below W1.heap.size W1 w2a) := hid ((Below.refl _ _).drew.trans hb6); have HK := KEEP.out w2a HB6.out; clear hb6) | (go_at_call 23; refine (TN.out _ _ _ _ _ _ _ (by assumption)).mono ?_; rintro e w2 ⟨rfl, hb6⟩; have HB7 : Hid (Below W1.heap.size W1 w2) := hid (HB6.out.trans (hb6.mono HB6.out.size)); have HK2 := KEEP.out w2 HB7.out; clear hb6))
  have START := KEEP.out w2.drew HB7.out.drew
  have HB2 := HB7
  clear HK HK2 HB6 HB7
  go_wp2_with fail
  go_region_held3 (fun w' => w'.cell? ⟨w.heap.size, 0, none⟩ = some (.int .i64 ax) ∧ w'.cell? ⟨w.heap.size, 1, none⟩ = some (.int .i64 ay) ∧ w'.cell? ⟨w.heap.size + 1, 0, none⟩ = some (.int .i64 bx) ∧ w'.cell? ⟨w.heap.size + 1, 1, none⟩ = some (.int .i64 bya) ∧ w'.cell? ⟨w.heap.size + 1 + 1, 0, none⟩ = some (.int .i64 cx) ∧ w'.cell? ⟨w.heap.size + 1 + 1, 1, none⟩ = some (.int .i64 cy) ∧ w'.cell? ⟨w.heap.size + 1 + 1 + 1, 0, none⟩ = some (.int .i64 dx) ∧ w'.cell? ⟨w.heap.size + 1 + 1 + 1, 1, none⟩ = some (.int .i64 dy)) (assumption)
    (first | (go_at_call 17; refine (SQ.out _ _ _ _ _ (by assumption)).mono ?_; rintro e w3a ⟨rfl, hb6⟩; have HB6 : Hid (Below W1.heap.size W1 w3a) := hid (HB2.out.drew.trans (hb6.mono HB2.out.size)); have HK := KEEP.out w3a HB6.out; clear hb6) | (go_at_call 23; refine (TN.out _ _ _ _ _ _ _ (by assumption)).mono ?_; rintro e w3 ⟨rfl, hb6⟩; have HB7 : Hid (Below W1.heap.size W1 w3) := hid (HB6.out.trans (hb6.mono HB6.out.size)); have HK2 := KEEP.out w3 HB7.out; clear hb6))
  have START := KEEP.out w3.drew HB7.out.drew
  have HB3 := HB7
  clear HK HK2 HB6 HB7 HB2
  go_wp2_with fail
  go_region_held3 (fun w' => w'.cell? ⟨w.heap.size, 0, none⟩ = some (.int .i64 ax) ∧ w'.cell? ⟨w.heap.size, 1, none⟩ = some (.int .i64 ay) ∧ w'.cell? ⟨w.heap.size + 1, 0, none⟩ = some (.int .i64 bx) ∧ w'.cell? ⟨w.heap.size + 1, 1, none⟩ = some (.int .i64 bya) ∧ w'.cell? ⟨w.heap.size + 1 + 1, 0, none⟩ = some (.int .i64 cx) ∧ w'.cell? ⟨w.heap.size + 1 + 1, 1, none⟩ = some (.int .i64 cy) ∧ w'.cell? ⟨w.heap.size + 1 + 1 + 1, 0, none⟩ = some (.int .i64 dx) ∧ w'.cell? ⟨w.heap.size + 1 + 1 + 1, 1, none⟩ = some (.int .i64 dy)) (assumption)
    (first | (go_at_call 17; refine (SQ.out _ _ _ _ _ (by assumption)).mono ?_; rintro e w4a ⟨rfl, hb6⟩; have HB6 : Hid (Below W1.heap.size W1 w4a) := hid (HB3.out.drew.trans (hb6.mono HB3.out.size)); have HK := KEEP.out w4a HB6.out; clear hb6) | (go_at_call 23; refine (TN.out _ _ _ _ _ _ _ (by assumption)).mono ?_; rintro e w4 ⟨rfl, hb6⟩; have HB7 : Hid (Below W1.heap.size W1 w4) := hid (HB6.out.trans (hb6.mono HB6.out.size)); have HK2 := KEEP.out w4 HB7.out; clear hb6))
  clear HK HK2 START
  go_wp2_with fail
  go_ret
  exact ⟨rfl, B1.out.trans (HB7.out.mono B1.out.size)⟩

/-- All fours whose least three are these, as far as the fourth goes. -/
def Fr (px py : Nat → Int) (i j k m : Nat) : Prop := ∀ r, r < m → Geo.Wn px py i j k r ≠ 0

set_option maxRecDepth 100000 in
set_option maxHeartbeats 4000000 in
theorem unique_any (px py : Nat → Int) (n g cap : Nat) (w : World) (hp : Pts w g 0 n px py) (hn : n ≤ 40) (hbd : Bds n px py) :
    Calls Tryz.prog 20 #[.slice (some ⟨g, 0, none⟩) n cap] w fun e w' => (∃ b : Bool, e = .returned (.bool b) ∧ (b = true → Geo.Free px py n)) ∧ Below w.heap.size w w' := by
  have HP := hid hp
  have HBD := hid hbd
  have CI := hid circle_any
  clear hp hbd
  go_enter Tryz.func20, Tryz.ntmps20
  go_wp2
  go_loopw [3] (fun i wr => ∃ k : Nat, k ≤ n ∧ i = .int .i64 k ∧ Hid (∀ i j k' m, i < k → j < i → k' < j → m < k' → Geo.Wn px py i j k' m ≠ 0) ∧ Hid (Below w.heap.size w wr)) (fun i _ => n - (intOf i).toNat)
  case atStart => exact ⟨0, Nat.zero_le _, rfl, hid (fun i j k m h => by omega), hid (Below.refl _ _)⟩
  case round =>
    obtain ⟨i, hi, rfl, F1, HB⟩ := hrel
    by_cases hin : i < n
    · have hin' : (i : Int) < n := by omega
      obtain ⟨W0, rfl⟩ : ∃ W0, W0 = wr := ⟨wr, rfl⟩
      go_wp2
      go_loopw [4] (fun j wr => ∃ k : Nat, k ≤ i ∧ j = .int .i64 k ∧ Hid (∀ j k' m, j < k → k' < j → m < k' → Geo.Wn px py i j k' m ≠ 0) ∧ Hid (Below w.heap.size w wr)) (fun j _ => i - (intOf j).toNat)
      case atStart => exact ⟨0, Nat.zero_le _, rfl, hid (fun j k m h => by omega), HB⟩
      case round =>
        clear HB
        obtain ⟨j, hj, rfl, F2, HB⟩ := hrel
        by_cases hji : j < i
        · have hji' : (j : Int) < i := by omega
          obtain ⟨W0, rfl⟩ : ∃ W0, W0 = wr := ⟨wr, rfl⟩
          go_wp2
          go_loopw [5] (fun k wr => ∃ k' : Nat, k' ≤ j ∧ k = .int .i64 k' ∧ Hid (∀ k m, k < k' → m < k → Geo.Wn px py i j k m ≠ 0) ∧ Hid (Below w.heap.size w wr)) (fun k _ => j - (intOf k).toNat)
          case atStart => exact ⟨0, Nat.zero_le _, rfl, hid (fun k m h => by omega), HB⟩
          case round =>
            clear HB
            obtain ⟨k, hk, rfl, F3, HB⟩ := hrel
            by_cases hkj : k < j
            · have hkj' : (k : Int) < j := by omega
              obtain ⟨W0, rfl⟩ : ∃ W0, W0 = wr := ⟨wr, rfl⟩
              go_wp2
              go_loopw [6] (fun m wr => ∃ m' : Nat, m' ≤ k ∧ m = .int .i64 m' ∧ Hid (Fr px py i j k m') ∧ Hid (Below w.heap.size w wr)) (fun m _ => k - (intOf m).toNat)
              case atStart => exact ⟨0, Nat.zero_le _, rfl, hid (fun r h => by omega), HB⟩
              case round =>
                clear HB
                obtain ⟨m, hm, rfl, F4, HB⟩ := hrel
                by_cases hmk : m < k
                · have hmk' : (m : Int) < k := by omega
                  have hjn : j < n := by omega
                  have hkn : k < n := by omega
                  have hmn : m < n := by omega
                  have hjn' : (j : Int) < n := by omega
                  have hkn' : (k : Int) < n := by omega
                  have hmn' : (m : Int) < n := by omega
                  have hpw := HP.out.below HB.out HP.out.lt
                  have cx : ∀ j, j < n → wr.cell? ⟨g, j * 2, none⟩ = some (.int .i64 (px j)) := fun j hj => by have := hpw.x j hj; rwa [Nat.zero_add] at this
                  have cy : ∀ j, j < n → wr.cell? ⟨g, j * 2 + 1, none⟩ = some (.int .i64 (py j)) := fun j hj => by have := hpw.y j hj; rwa [Nat.zero_add] at this
                  have gl := hpw.lt
                  have B8 : Bd8 (px i) (py i) (px j) (py j) (px k) (py k) (px m) (py m) := ⟨bd4 HBD.out hin hjn, bd4 HBD.out hkn hmn⟩
                  have KEEP : Hid (∀ W, Below wr.heap.size wr W → W.cell? ⟨g, i * 2, none⟩ = some (.int .i64 (px i)) ∧ W.cell? ⟨g, i * 2 + 1, none⟩ = some (.int .i64 (py i)) ∧ W.cell? ⟨g, j * 2, none⟩ = some (.int .i64 (px j)) ∧ W.cell? ⟨g, j * 2 + 1, none⟩ = some (.int .i64 (py j)) ∧ W.cell? ⟨g, k * 2, none⟩ = some (.int .i64 (px k)) ∧ W.cell? ⟨g, k * 2 + 1, none⟩ = some (.int .i64 (py k)) ∧ W.cell? ⟨g, m * 2, none⟩ = some (.int .i64 (px m)) ∧ W.cell? ⟨g, m * 2 + 1, none⟩ = some (.int .i64 (py m))) := hid fun W hW => ⟨(hW.cell (by exact gl)).trans (cx i hin), (hW.cell (by exact gl)).trans (cy i hin), (hW.cell (by exact gl)).trans (cx j hjn), (hW.cell (by exact gl)).trans (cy j hjn), (hW.cell (by exact gl)).trans (cx k hkn), (hW.cell (by exact gl)).trans (cy k hkn), (hW.cell (by exact gl)).trans (cx m hmn), (hW.cell (by exact gl)).trans (cy m hmn)⟩
                  have START := KEEP.out wr.drew (Below.refl _ _).drew
                  have q1 : (0 : Int) ≤ (i : Int) := by omega
                  have q2 : (0 : Int) ≤ (j : Int) := by omega
                  have q3 : (0 : Int) ≤ (k : Int) := by omega
                  have q4 : (0 : Int) ≤ (m : Int) := by omega
                  clear cx cy hpw
                  go_wp2_with fail
                  go_region_held3 (fun W => W.cell? ⟨g, i * 2, none⟩ = some (.int .i64 (px i)) ∧ W.cell? ⟨g, i * 2 + 1, none⟩ = some (.int .i64 (py i)) ∧ W.cell? ⟨g, j * 2, none⟩ = some (.int .i64 (px j)) ∧ W.cell? ⟨g, j * 2 + 1, none⟩ = some (.int .i64 (py j)) ∧ W.cell? ⟨g, k * 2, none⟩ = some (.int .i64 (px k)) ∧ W.cell? ⟨g, k * 2 + 1, none⟩ = some (.int .i64 (py k)) ∧ W.cell? ⟨g, m * 2, none⟩ = some (.int .i64 (px m)) ∧ W.cell? ⟨g, m * 2 + 1, none⟩ = some (.int .i64 (py m))) (assumption)
                    ((go_at_call 32; refine (CI.out _ _ _ _ _ _ _ _ _ (by assumption)).mono ?_; rintro e w6 ⟨rfl, hb6⟩; have HB6 : Hid (Below wr.heap.size wr w6) := hid ((Below.refl _ _).drew.trans hb6); have HK := KEEP.out w6 HB6.out; clear hb6))
                  clear HK START
                  have HBF := hid (HB.out.trans (HB6.out.mono HB.out.size))
                  have HW : Hid (circI (px i) (py i) (px j) (py j) (px k) (py k) (px m) (py m) = Geo.Wn px py i j k m) := hid (circ_Wn px py i j k m)
                  obtain ⟨cv, hcv⟩ : ∃ cv, cv = circI (px i) (py i) (px j) (py j) (px k) (py k) (px m) (py m) := ⟨_, rfl⟩
                  rw [← hcv] at HW ⊢
                  clear hcv HB6 KEEP HB
                  by_cases hz : cv = 0
                  · have dz : (cv == 0) = true := by simpa using hz
                    clear hz
                    go_wp2_with fail
                    go_ret
                    exact ⟨⟨false, rfl, fun h => by cases h⟩, HBF.out⟩
                  · have dz : (cv == 0) = false := by simpa using hz
                    have FF : Hid (Fr px py i j k (m + 1)) := hid fun r hr => by
                      rcases Nat.lt_or_ge r m with q | q
                      · exact F4.out r q
                      · have : r = m := by omega
                        subst this
                        rw [← HW.out]; exact hz
                    clear hz
                    go_wp2_with fail
                    go_roundw
                    case rel => exact ⟨m + 1, by omega, by go_num, FF, HBF⟩
                    case measure => simp [intOf]; omega
                · have hmm : m = k := by omega
                  subst hmm
                  go_wp2_with fail
                  go_roundw
                  case rel =>
                    refine ⟨m + 1, by omega, by go_num, hid (fun k m' h1 h2 => ?_), HB⟩
                    rcases Nat.lt_or_ge k m with q | q
                    · exact F3.out k m' q h2
                    · have : k = m := by omega
                      subst this; exact F4.out m' h2
                  case measure => simp [intOf]; omega
            · have hkk : k = j := by omega
              subst hkk
              go_wp2_with fail
              go_roundw
              case rel =>
                refine ⟨k + 1, by omega, by go_num, hid (fun j k' m h1 h2 h3 => ?_), HB⟩
                rcases Nat.lt_or_ge j k with q | q
                · exact F2.out j k' m q h2 h3
                · have : j = k := by omega
                  subst this; exact F3.out k' m h2 h3
              case measure => simp [intOf]; omega
        · have hjj : j = i := by omega
          subst hjj
          go_wp2_with fail
          go_roundw
          case rel =>
            refine ⟨j + 1, by omega, by go_num, hid (fun i' j' k m h1 h2 h3 h4 => ?_), HB⟩
            rcases Nat.lt_or_ge i' j with q | q
            · exact F1.out i' j' k m q h2 h3 h4
            · have : i' = j := by omega
              subst this; exact F2.out j' k m h2 h3 h4
          case measure => simp [intOf]; omega
    · have hii : i = n := by omega
      subst hii
      go_wp2_with fail
      go_ret
      exact ⟨⟨true, rfl, fun _ => Geo.free_of F1.out⟩, HB.out⟩
end Go.Proofs.YtdbebbbceeopaaaGreat

set_option linter.unusedSimpArgs false
namespace Go.Proofs.YtdbebbbceeopaaaGreat
open Go.RowKit
open Geo (rv rv_rv rv_lt)

theorem refI_mk {px py : Nat → Int} {n : Nat} (hb : Bds n px py) (hne : Geo.Inj px py n) (hw : ∃ i, i < n ∧ T px py 0 1 i ≠ 0) : refI px py n = 0 := by
  have hA : allB px py n = true := by
    rw [allB_iff]
    intro i hi
    rw [near_iff, near_iff]
    exact hb i hi
  have hT : twB px py n = false := by
    cases hc : twB px py n with
    | false => rfl
    | true =>
      obtain ⟨i, hi, hc⟩ := (twB_iff _ _ _).1 hc
      obtain ⟨j, hj, e⟩ := (twiceAt_iff _ _ _).1 hc
      have := hne i j hi (by omega) (by first | exact e.1 | exact e.1.symm) (by first | exact e.2 | exact e.2.symm)
      omega
  have hF : flatB px py (n - 2) = false := by
    obtain ⟨i, hi, h⟩ := hw
    have i0 : i ≠ 0 := by rintro rfl; exact h (Geo.T_one _ _)
    have i1 : i ≠ 1 := by rintro rfl; exact h (Geo.T_two _ _)
    obtain ⟨k, rfl⟩ : ∃ k, i = k + 2 := ⟨i - 2, by omega⟩
    exact flatB_false _ _ _ k (by omega) h
  simp [refI, hA, hT, hF]

/-- What Moved knows of its points. -/
structure Few (n : Nat) (px py : Nat → Int) : Prop where
  len : 3 ≤ n
  len' : n ≤ 12
  bd : ∀ i, i < n → (0 ≤ px i ∧ px i ≤ 407) ∧ (0 ≤ py i ∧ py i ≤ 407)
  inj : Geo.Inj px py n
  wide : T px py 0 1 2 ≠ 0

theorem Sett.few {n m : Nat} {px py : Nat → Int} (h : Sett n px py) (h3 : 3 ≤ m) (h12 : m ≤ 12) (hm : m ≤ n) : Few m px py :=
  ⟨h3, h12, fun i hi => h.bd i (by omega), fun i j hi hj e1 e2 => Classical.byContradiction fun k => h.ne i j (by omega) (by omega) k ⟨e1, e2⟩, h.wide⟩

theorem Few.bds {n : Nat} {px py : Nat → Int} (h : Few n px py) : Bds n px py := fun i hi => by have := h.bd i hi; omega
theorem Few.ref {n : Nat} {px py : Nat → Int} (h : Few n px py) : refI px py n = 0 := refI_mk h.bds h.inj ⟨2, by have := h.len; omega, h.wide⟩

theorem Few.bds_far {n : Nat} {px py : Nat → Int} (h : Few n px py) {x y : Int} (hx : -250 ≤ x ∧ x ≤ 249) (hy : -250 ≤ y ∧ y ≤ 249) : Bds n (fun i => px i + x) (fun i => py i + y) := fun i hi => by
  have := h.bd i hi
  dsimp only
  omega

theorem Few.ref_far {n : Nat} {px py : Nat → Int} (h : Few n px py) {x y : Int} (hx : -250 ≤ x ∧ x ≤ 249) (hy : -250 ≤ y ∧ y ≤ 249) : refI (fun i => px i + x) (fun i => py i + y) n = 0 :=
  refI_mk (h.bds_far hx hy) (fun i j hi hj e1 e2 => h.inj i j hi hj (by have : px i + x = px j + x := e1; omega) (by have : py i + y = py j + y := e2; omega)) ⟨2, by have := h.len; omega, by rw [Geo.T_shift]; exact h.wide⟩

theorem Few.bds_back {n : Nat} {px py : Nat → Int} (h : Few n px py) : Bds n (fun i => px (rv n i)) (fun i => py (rv n i)) := fun i hi => h.bds (rv n i) (rv_lt hi)

theorem Few.ref_back {n : Nat} {px py : Nat → Int} (h : Few n px py) : refI (fun i => px (rv n i)) (fun i => py (rv n i)) n = 0 := by
  have h3 := h.len
  refine refI_mk h.bds_back (fun i j hi hj e1 e2 => ?_) ?_
  · have := h.inj (rv n i) (rv n j) (rv_lt hi) (rv_lt hj) e1 e2
    rw [← rv_rv hi, this, rv_rv hj]
  · rcases Classical.em (∃ i, i < n ∧ T (fun i => px (rv n i)) (fun i => py (rv n i)) 0 1 i ≠ 0) with k | k
    · exact k
    · exfalso
      refine Geo.line_flat (px := px) (py := py) (all := List.range n) (b := rv n 0) (R := rv n 1) ?_ (fun p hp => ?_) ⟨0, by simp; omega, 1, by simp; omega, 2, by simp; omega, h.wide⟩
      · rintro ⟨e1, e2⟩
        have := h.inj (rv n 1) (rv n 0) (rv_lt (by omega)) (rv_lt (by omega)) (by omega) (by omega)
        unfold rv at this
        omega
      · rcases Classical.em (T px py (rv n 0) (rv n 1) p = 0) with q | q
        · exact q
        · exfalso
          have hpn : p < n := List.mem_range.1 hp
          refine k ⟨rv n p, rv_lt hpn, ?_⟩
          unfold T at q ⊢
          simp only [rv_rv hpn]
          exact q

/-- Points in their order, as pairs. -/
def prs (px py : Nat → Int) (k : Nat) : List (Int × Int) := (List.range k).map fun j => (px j, py j)

theorem prs_len (px py : Nat → Int) (k : Nat) : (prs px py k).length = k := by simp [prs]
theorem prs_snoc (px py : Nat → Int) (k : Nat) : prs px py (k + 1) = prs px py k ++ [(px k, py k)] := by simp [prs, List.range_succ]

theorem prs_pts {w : World} {b : Nat} {v : Value} {px py : Nat → Int} {k : Nat} (h : w.ownsRow b 35 2 v k (cellsP (prs px py k))) (hk : 0 < k) : ∃ g cp, v = .slice (some ⟨g, 0, none⟩) k cp ∧ k ≤ cp ∧ Pts w g 0 k px py := by
  have h' : w.ownsRow b 35 2 v (prs px py k).length (cellsP (prs px py k)) := by rw [prs_len]; exact h
  obtain ⟨g, cp, e, hgb, hgl, hcp, hc⟩ := shape33 h' (by rw [prs_len]; exact hk)
  rw [prs_len] at e hcp
  refine ⟨g, cp, e, hcp, hgl, fun i hi => ?_, fun i hi => ?_⟩
  · have := (hc i (by rw [prs_len]; exact hi)).1
    rw [Nat.zero_add, this]
    simp [prs]
  · have := (hc i (by rw [prs_len]; exact hi)).2
    rw [Nat.zero_add, this]
    simp [prs]

theorem sideB_true {A B C : Nat → Nat} {a b : Nat} : ∀ {m : Nat}, sideB A B C a b m = true → ∃ i, i < m ∧ hasB A B C i a b = true
  | 0, h => by cases h
  | m + 1, h => by
    unfold sideB at h
    rcases Bool.or_eq_true_iff.1 h with k | k
    · obtain ⟨i, hi, q⟩ := sideB_true k
      exact ⟨i, by omega, q⟩
    · exact ⟨m, by omega, k⟩

/-- Two points are corners of one triangle, if they are joined. -/
theorem side_joined {px py : Nat → Int} {n : Nat} {M : Nat → Nat → Option Nat} {d : Array T3} (hm : Geo.Mesh px py n M) (hT : Tris M d) {i k : Nat} (hne : i ≠ k) : sideB (dA d) (dB d) (dC d) i k d.size = true ↔ Joined M i k := by
  constructor
  · intro h
    obtain ⟨j, hj, q⟩ := sideB_true h
    have e := (hT.lists.tri j hj).1
    have e2 := hm.cyc _ _ _ e
    have e3 := hm.cyc _ _ _ e2
    unfold hasB at q
    simp only [Bool.and_eq_true, Bool.or_eq_true, beq_iff_eq] at q
    unfold Joined
    obtain ⟨q1, q2⟩ := q
    rcases q1 with (q1 | q1) | q1 <;> rcases q2 with (q2 | q2) | q2 <;> first
      | exact absurd (q1.symm.trans q2) hne
      | (left; rw [← q1, ← q2]; first | (rw [e]; simp; done) | (rw [e2]; simp; done) | (rw [e3]; simp; done))
      | (right; rw [← q1, ← q2]; first | (rw [e]; simp; done) | (rw [e2]; simp; done) | (rw [e3]; simp; done))
  · have key : ∀ a c, M a c ≠ none → ((a = i ∧ c = k) ∨ (a = k ∧ c = i)) → sideB (dA d) (dB d) (dC d) i k d.size = true := by
      intro a c hn hac
      cases e : M a c with
      | none => exact absurd e hn
      | some z =>
        obtain ⟨j, hj, q⟩ := hT.lists.has hm e
        refine sideB_of hj ?_
        unfold hasB
        rcases hac with ⟨rfl, rfl⟩ | ⟨rfl, rfl⟩ <;> rcases q with ⟨q1, q2, q3⟩ | ⟨q1, q2, q3⟩ | ⟨q1, q2, q3⟩ <;> simp [q1, q2, q3]
    rintro (h | h)
    · exact key i k h (.inl ⟨rfl, rfl⟩)
    · exact key k i h (.inr ⟨rfl, rfl⟩)

theorem bool_iff {a b : Bool} (h : a = true ↔ b = true) : a = b := by
  cases a <;> cases b <;> simp_all

end Go.Proofs.YtdbebbbceeopaaaGreat

set_option linter.unusedSimpArgs false
namespace Go.Proofs.YtdbebbbceeopaaaGreat
open Go.RowKit
open Geo (rv rv_rv rv_lt)

theorem own_in {w : World} {B e size n : Nat} {v : Value} {xs : List Value} (h : w.ownsRow B e size v n xs) : ∀ q, v.ownBlock = some q → B ≤ q ∧ q < w.heap.size := by
  intro q hq
  rcases h.2 with ⟨rfl, _⟩ | ⟨g, cap, cur, rfl, hb, hh, _⟩
  · cases hq
  · cases hq
    exact ⟨hb, (Array.getElem?_eq_some_iff.1 hh).1⟩

theorem new_two (w : World) (a b : Value) : ∀ (j : Nat) (u : Value), [a, b][j]? = some u → (w.alloc (.cells #[a, b] 35)).cell? ((⟨w.heap.size, 0, none⟩ : Addr).add j) = some u := by
  intro j u hu
  match j, hu with
  | 0, hu => simp at hu; subst hu; exact World.cell?_alloc_at _ _ _ _ rfl
  | 1, hu => simp at hu; subst hu; exact World.cell?_alloc_at _ _ _ _ rfl
  | j + 2, hu => simp at hu

theorem one_two (a b : Int) : ∀ u ∈ [Value.int .i64 a, Value.int .i64 b], u.oneCell' = true := by
  intro u hu
  simp at hu
  rcases hu with rfl | rfl <;> rfl

/-- append, as one of a list of operations, and where what it gives lies. -/
theorem wpList_append_pts {P : Program} (w : World) {ops : Array Oper} {rest : List Oper} {o : Oper} {a : Act} {Q : Exit → Act → World → Prop} (hgd : o.guard = none) (s x : Operand) (t : TypeId)
    (ho : o.op = .call { callee := .builtin .append, args := #[s, x], argTypes := #[t, t] })
    (base : Nat) (e : TypeId) (i : TypeInfo) (z : Value) (size bytes : Nat) (ht : P.underlying t = some (.slice e)) (hi : P.info? e = some i) (hz : i.zero = some z)
    (hsize : i.size = size) (hby : i.bytes = bytes) (hzs : z.cells.size = size) (hsz : 0 < size)
    (v : Value) (n : Nat) (xs : List Value) (hs : a.eval s = v) (hown : w.ownsRow base e size v n xs)
    (ad : Addr) (m c : Nat) (news : List Value) (hx : a.eval x = .slice (some ad) m c) (hl : news.length = m * size) (hnews : ∀ j u, news[j]? = some u → w.cell? (ad.add j) = some u) (h1 : ∀ u ∈ news, u.oneCell' = true)
    (hm : 0 < m) (h63 : n + m ≤ maxLen) (hbytes : (n + m) * bytes ≤ 140737488355328) (hbase : base ≤ w.heap.size) (H : Nat) (hH : w.heap.size = H)
    (h : ∀ g cap w', w'.ownsRow base e size (.slice (some ⟨g, 0, none⟩) (n + m) cap) (n + m) (xs ++ news) → w.grownBy w' v.ownBlock → (v.ownBlock = some g ∨ g = H) → g < w'.heap.size → wpList P ops Q rest (a.put o.dst (.slice (some ⟨g, 0, none⟩) (n + m) cap)) w') : wpList P ops Q (o :: rest) a w :=
  wpList_plain hgd fun _ hK => wp_append_lies w s x t ho base e i z size bytes ht hi hz hsize hby hzs hsz v n xs hs hown ad m c news hx hl hnews h1 hm h63 hbytes hbase H hH fun g cap w' h2 h3 h4 h5 => hK _ _ (h g cap w' h2 h3 h4 h5)

/-- A list of points that is made longer, another beside it, and all that is older. -/
theorem far_step {w1 W0 w9 : World} {fv bv : Value} {i k g gi ci : Nat} {xs ys : List Value} (HO : W0.ownsRow w1.heap.size 35 2 fv i xs) (HU : W0.ownsRow w1.heap.size 35 2 bv k ys) (HD : ∀ q, fv.ownBlock = some q → bv.ownBlock ≠ some q) (HB : Below w1.heap.size w1 W0) (hg : g < w1.heap.size) (x y : Int)
    (hown : w9.ownsRow w1.heap.size 35 2 (.slice (some ⟨gi, 0, none⟩) (i + 1) ci) (i + 1) (xs ++ [.int .i64 x, .int .i64 y]))
    (hgrow : W0.grownBy w9 fv.ownBlock) (hat : fv.ownBlock = some gi ∨ gi = W0.heap.size) :
    w9.ownsRow w1.heap.size 35 2 (.slice (some ⟨gi, 0, none⟩) (i + 1) ci) (i + 1) (xs ++ [.int .i64 x, .int .i64 y]) ∧ w9.ownsRow w1.heap.size 35 2 bv k ys ∧ (∀ q, Value.ownBlock (.slice (some ⟨gi, 0, none⟩) (i + 1) ci) = some q → bv.ownBlock ≠ some q) ∧
      (∀ {o : Nat} (v : Value), W0.cell? ⟨g, o, none⟩ = some v → w9.cell? ⟨g, o, none⟩ = some v) ∧ Below w1.heap.size w1 w9 := by
  have f1 := own_in HO
  have f2 := own_in HU
  refine ⟨hown, ?_, ?_, ?_, ?_⟩
  · refine HU.kept hgrow ?_
    cases hb : bv.ownBlock with
    | none => exact .inl rfl
    | some q => exact .inr (fun e => HD q e.symm hb)
  · intro q hq hb
    have e : gi = q := Option.some.inj hq
    subst e
    rcases hat with h | h
    · exact HD _ h hb
    · have := (f2 _ hb).2
      omega
  · intro o v hv
    refine hgrow.cell (a := ⟨g, o, none⟩) hv (fun e => ?_)
    have := (f1 g e.symm).1
    omega
  · exact HB.grown hgrow HB.size (fun q hq => (f1 q hq).1)


theorem tri_few {n : Nat} {px py : Nat → Int} (h3 : 3 ≤ n) (h40 : n ≤ 40) (hr : refI px py n = 0) (g cp : Nat) (w : World) (hp : Pts w g 0 n px py) (hcp : n ≤ cp) :
    Calls Tryz.prog 15 #[.slice (some ⟨g, 0, none⟩) n cp] w fun e w' => Below w.heap.size w w' ∧ ∃ (g2 cp2 : Nat) (d : Array T3) (M : Nat → Nat → Option Nat) (hs : List Nat), e = .returned (.tuple #[.slice (some ⟨g2, 0, none⟩) d.size cp2, .int .i64 0]) ∧ d.size ≤ 1600 ∧ 0 < d.size ∧ Trs w' g2 0 d.size (dz d) ∧ Tris M d ∧ Msh px py n M hs ∧ Geo.Loc px py M := by
  have hz : NeZero n := ⟨by omega⟩
  refine (triangles_ok px py n g 0 cp w hp h3 h40 hcp hr).mono ?_
  rintro e w' ⟨hb, g2, cp2, d, M, hs, rfl, hg2, hd, hown, hT, hM, hL⟩
  refine ⟨hb, g2, cp2, d, M, hs, rfl, hd, ?_, trs_own hown, hT, hM, hL⟩
  obtain ⟨a, b, c, e, h1, h2⟩ := one_tri hM.mesh hM.cor (by omega)
  have := List.length_pos_of_mem (hT.all a b c e h1 h2)
  simpa using this

theorem sane_few {n : Nat} {px py : Nat → Int} {M : Nat → Nat → Option Nat} {hs : List Nat} {d : Array T3} (hbd : Bds n px py) (hT : Tris M d) (hM : Msh px py n M hs) (g cp g2 cp2 : Nat) (w : World) (hp : Pts w g 0 n px py) (ht : Trs w g2 0 d.size (dz d)) (hd : d.size ≤ 1600) :
    Calls Tryz.prog 16 #[.slice (some ⟨g, 0, none⟩) n cp, .slice (some ⟨g2, 0, none⟩) d.size cp2] w fun e w' => e = .returned (.bool true) ∧ Below w.heap.size w w' :=
  sane_any px py n g 0 cp d.size cp2 (some ⟨g2, 0, none⟩) (dz d) (dA d) (dB d) (dC d) w hp (fun _ => ⟨g2, 0, rfl, ht⟩) (by omega) hbd (hT.row3 hM.mesh) (fun i hi => (hT.lists.tri i hi).2) (fun i hi => hM.mesh.pos _ _ _ (hT.lists.tri i hi).1)

/-- As many triangles, wherever the points are moved and whichever way their list goes. -/
theorem moved_len {n : Nat} {px py : Nat → Int} {x y : Int} (h : Few n px py) (hx : -250 ≤ x ∧ x ≤ 249) (hy : -250 ≤ y ∧ y ≤ 249) {M M3 M4 : Nat → Nat → Option Nat} {hs hs3 hs4 : List Nat} {d d3 d4 : Array T3} (hM : Msh px py n M hs) (hT : Tris M d)
    (hM3 : Msh (fun i => px i + x) (fun i => py i + y) n M3 hs3) (hT3 : Tris M3 d3) (hM4 : Msh (fun i => px (rv n i)) (fun i => py (rv n i)) n M4 hs4) (hT4 : Tris M4 d4) : d3.size = d.size ∧ d4.size = d.size := by
  have c := hM.count h.len h.ref h.inj hT.lists
  have c3 := hM3.count h.len (h.ref_far hx hy) (refI_inj (h.ref_far hx hy)) hT3.lists
  have c4 := hM4.count h.len h.ref_back (refI_inj h.ref_back) hT4.lists
  rw [bdc_shift] at c3
  rw [bdc_rev] at c4
  omega

theorem moved_eq {n : Nat} {px py : Nat → Int} {x y : Int} (h : Few n px py) (hf : Geo.Free px py n) {M M3 M4 : Nat → Nat → Option Nat} {hs hs3 hs4 : List Nat} {d d3 d4 : Array T3} (hM : Msh px py n M hs) (hT : Tris M d) (hL : Geo.Loc px py M)
    (hM3 : Msh (fun i => px i + x) (fun i => py i + y) n M3 hs3) (hT3 : Tris M3 d3) (hL3 : Geo.Loc (fun i => px i + x) (fun i => py i + y) M3) (hM4 : Msh (fun i => px (rv n i)) (fun i => py (rv n i)) n M4 hs4) (hT4 : Tris M4 d4) (hL4 : Geo.Loc (fun i => px (rv n i)) (fun i => py (rv n i)) M4)
    {i k : Nat} (hi : i < n) (hk : k < i) : sideB (dA d3) (dB d3) (dC d3) i k d3.size = sideB (dA d) (dB d) (dC d) i k d.size ∧ sideB (dA d4) (dB d4) (dC d4) (rv n i) (rv n k) d4.size = sideB (dA d) (dB d) (dC d) i k d.size := by
  have hkn : k < n := by omega
  have hne : i ≠ k := by omega
  have hne' : rv n i ≠ rv n k := by unfold rv; omega
  refine ⟨bool_iff ?_, bool_iff ?_⟩
  · rw [side_joined hM3.mesh hT3 hne, side_joined hM.mesh hT hne]
    exact (joined_same hM.mesh h.inj hM.cor hL hM3.mesh.unshift hM3.cor hL3.unshift hf i k).symm
  · rw [side_joined hM4.mesh hT4 hne', side_joined hM.mesh hT hne, ← joined_rev hi hkn]
    exact (joined_same hM.mesh h.inj hM.cor hL hM4.mesh.unrev (hM4.cor.unrev hM4.mesh) (hL4.unrev hM4.mesh) hf i k).symm

set_option maxRecDepth 100000 in
set_option maxHeartbeats 8000000 in
theorem moved_any (a : Option Addr) (len cap : Nat) (sz x0 y0 : Int) (w : World) (wx : -9223372036854775808 ≤ x0 ∧ x0 ≤ 9223372036854775807) (wy : -9223372036854775808 ≤ y0 ∧ y0 ≤ 9223372036854775807)
    (hpts : Calls Tryz.prog 14 #[.slice a len cap, .int .i64 sz] w fun e w' => ∃ v N ps, e = .returned v ∧ Below w.heap.size w w' ∧ Sq N ps ∧ w'.ownsRow w.heap.size 35 2 v ps.length (cellsP ps)) :
    Calls Tryz.prog 6 #[.slice a len cap, .int .i64 sz, .int .i64 x0, .int .i64 y0] w fun e w' => e = .returned (.bool true) ∧ Below w.heap.size w w' := by
  obtain ⟨i0, hi0, hz0, hz1, hz2⟩ := info_parts Tryz.info35
  have C1 := hid (points_set hpts)
  clear hpts
  have K2 := hid (fun W => pick_any x0 500 wx (by omega) (by omega) W)
  have K3 := hid (fun W => pick_any y0 500 wy (by omega) (by omega) W)
  have p2 := pickI_bd x0 500 (by omega)
  have p3 := pickI_bd y0 500 (by omega)
  obtain ⟨x1, hx1⟩ : ∃ x1, x1 = pickI x0 500 := ⟨_, rfl⟩
  obtain ⟨y1, hy1⟩ : ∃ y1, y1 = pickI y0 500 := ⟨_, rfl⟩
  rw [← hx1] at K2 p2
  rw [← hy1] at K3 p3
  clear hx1 hy1 wx wy
  go_enter Tryz.func6, Tryz.ntmps6
  go_wp2_with fail
  refine C1.out.mono ?_
  rintro e w1 ⟨g, n0, cp, px, py, rfl, hb1, hcp, hS, hP⟩
  have HB1 := hid hb1
  have HS := hid hS
  have HP0 := hid hP
  have hn3 := hS.len
  have hn30 := hS.len'
  clear C1 hb1 hS hP
  by_cases h12 : 12 < n0
  case' pos =>
    have h12' : (12 : Int) < n0 := by omega
    have h12c : (12 : Int) ≤ cp := by omega
    go_wp2_with fail
    obtain ⟨n, hn⟩ : ∃ n : Nat, n = 12 := ⟨_, rfl⟩
    rw [show Value.slice (some ⟨g, 0, none⟩) 12 cp = Value.slice (some ⟨g, 0, none⟩) n cp by rw [hn], show Value.int IntKind.i64 12 = Value.int IntKind.i64 (n : Nat) by rw [hn]; rfl]
    have hle : n ≤ n0 := by omega
  case' neg =>
    have h12' : ¬ (12 : Int) < n0 := by omega
    go_wp2_with fail
    obtain ⟨n, hn⟩ : ∃ n : Nat, n = n0 := ⟨_, rfl⟩
    rw [← hn]
    have hle : n ≤ n0 := by omega
  all_goals
    have n3 : 3 ≤ n := by omega
    have n12 : n ≤ 12 := by omega
    have HF := hid (HS.out.few n3 n12 hle)
    have HP : Hid (Pts w1 g 0 n px py) := hid ⟨HP0.out.lt, fun i hi => HP0.out.x i (by omega), fun i hi => HP0.out.y i (by omega)⟩
    have hcn : n ≤ cp := by omega
    clear HP0 HS h12 h12' hn3 hn30 hcp hle hn
  all_goals
    -- the tail
    go_loopw [11, 12, 13] (fun fv bv j wr => ∃ i : Nat, i ≤ n ∧ j = .int .i64 i ∧ Hid (wr.ownsRow w1.heap.size 35 2 fv i (cellsP (prs (fun i => px i + (x1 - 250)) (fun i => py i + (y1 - 250)) i))) ∧ Hid (wr.ownsRow w1.heap.size 35 2 bv i (cellsP (prs (fun i => px (rv n i)) (fun i => py (rv n i)) i))) ∧ Hid (∀ q, fv.ownBlock = some q → bv.ownBlock ≠ some q) ∧ Hid (Below w1.heap.size w1 wr)) (fun _ _ j _ => n - (intOf j).toNat)
    case atStart => exact ⟨0, Nat.zero_le _, rfl, hid (World.ownsRow_nil _ _ _ _), hid (World.ownsRow_nil _ _ _ _), hid (fun q h => by cases h), hid (Below.refl _ _)⟩
    case round =>
      obtain ⟨i, hi, rfl, HO, HU, HD, HB⟩ := hrel
      by_cases hin : i < n
      · have hin' : (i : Int) < n := by omega
        have hpw := HP.out.below HB.out HP.out.lt
        have xi : wr.drew.cell? ⟨g, i * 2, none⟩ = some (.int .i64 (px i)) := by have := hpw.x i hin; rwa [Nat.zero_add] at this
        have yi : wr.drew.cell? ⟨g, i * 2 + 1, none⟩ = some (.int .i64 (py i)) := by have := hpw.y i hin; rwa [Nat.zero_add] at this
        have START := And.intro xi yi
        have q1 : (0 : Int) ≤ (i : Int) := by omega
        have bd := HF.out.bd i hin
        have c1 : IntKind.i64.wrap (px i + x1) = px i + x1 := by rw [IntKind.wrap_i64]; omega
        have c2 : IntKind.i64.wrap (px i + x1 - 250) = px i + x1 - 250 := by rw [IntKind.wrap_i64]; omega
        have c3 : IntKind.i64.wrap (py i + y1) = py i + y1 := by rw [IntKind.wrap_i64]; omega
        have c4 : IntKind.i64.wrap (py i + y1 - 250) = py i + y1 - 250 := by rw [IntKind.wrap_i64]; omega
        obtain ⟨r, hr⟩ : ∃ r, r = rv n i := ⟨_, rfl⟩
        have hrn : r < n := by rw [hr]; exact rv_lt hin
        have e5 : (n : Int) - 1 - (i : Int) = (r : Nat) := by rw [hr]; unfold rv; omega
        have xr : wr.drew.cell? ⟨g, r * 2, none⟩ = some (.int .i64 (px r)) := by have := hpw.x r hrn; rwa [Nat.zero_add] at this
        have yr : wr.drew.cell? ⟨g, r * 2 + 1, none⟩ = some (.int .i64 (py r)) := by have := hpw.y r hrn; rwa [Nat.zero_add] at this
        have hrn' : (r : Int) < n := by omega
        have q2 : (0 : Int) ≤ (r : Int) := by omega
        have HRV := hid hr
        have c5 : IntKind.i64.wrap ((n : Int) - 1) = n - 1 := by rw [IntKind.wrap_i64]; omega
        have c6 : IntKind.i64.wrap ((n : Int) - 1 - (i : Int)) = (r : Nat) := by rw [IntKind.wrap_i64]; omega
        clear hpw xi yi hr
        go_wp2_with fail
        refine wp_region_held_drew (S := (fun W => W.cell? ⟨g, i * 2, none⟩ = some (.int .i64 (px i)) ∧ W.cell? ⟨g, i * 2 + 1, none⟩ = some (.int .i64 (py i)))) (by kernel_rfl) START (fun hHeld => ?_)
        clear hHeld
        refine wpAnyH_take (i := 0) (v := u11) rfl (by kernel_rfl) (by kernel_rfl) (by kernel_rfl) (fun _ _ _ h => h) (Or.inl ⟨by kernel_rfl, ?_⟩) (by assumption) ?_
        · intro W hSw
          try dsimp only at hSw
          go_simp
        try simp only [Act.put, List.setIfInBounds_toArray, List.set_cons_zero, List.set_cons_succ]
        refine wpAnyH_take (i := 1) (v := .slice (some ⟨g, 0, none⟩) n cp) rfl (by kernel_rfl) (by kernel_rfl) (by kernel_rfl) (fun _ _ _ h => h) (Or.inl ⟨by kernel_rfl, ?_⟩) (by assumption) ?_
        · intro W hSw
          try dsimp only at hSw
          go_simp
        try simp only [Act.put, List.setIfInBounds_toArray, List.set_cons_zero, List.set_cons_succ]
        refine wpAnyH_take (i := 2) (v := .int .i64 (i : Nat)) rfl (by kernel_rfl) (by kernel_rfl) (by kernel_rfl) (fun _ _ _ h => h) (Or.inl ⟨by kernel_rfl, ?_⟩) (by assumption) ?_
        · intro W hSw
          try dsimp only at hSw
          go_simp
        try simp only [Act.put, List.setIfInBounds_toArray, List.set_cons_zero, List.set_cons_succ]
        refine wpAnyH_take (i := 3) (v := .pointer (some ⟨g, i * 2, none⟩)) rfl (by kernel_rfl) (by kernel_rfl) (by kernel_rfl) (fun _ _ _ h => h) (Or.inl ⟨by kernel_rfl, ?_⟩) (by assumption) ?_
        · intro W hSw
          try dsimp only at hSw
          go_simp
        try simp only [Act.put, List.setIfInBounds_toArray, List.set_cons_zero, List.set_cons_succ]
        refine wpAnyH_take (i := 4) (v := .pointer (some ⟨g, i * 2, none⟩)) rfl (by kernel_rfl) (by kernel_rfl) (by kernel_rfl) (fun _ _ _ h => h) (Or.inl ⟨by kernel_rfl, ?_⟩) (by assumption) ?_
        · intro W hSw
          try dsimp only at hSw
          go_simp
        try simp only [Act.put, List.setIfInBounds_toArray, List.set_cons_zero, List.set_cons_succ]
        refine wpAnyH_take (i := 5) (v := .int .i64 (px i)) rfl (by kernel_rfl) (by kernel_rfl) (by kernel_rfl) (fun _ _ _ h => h) (Or.inl ⟨by kernel_rfl, ?_⟩) (by assumption) ?_
        · intro W hSw
          try dsimp only at hSw
          go_simp
        try simp only [Act.put, List.setIfInBounds_toArray, List.set_cons_zero, List.set_cons_succ]
        refine wpAnyH_take (i := 6) (v := .int .i64 x0) rfl (by kernel_rfl) (by kernel_rfl) (by kernel_rfl) (fun _ _ _ h => h) (Or.inl ⟨by kernel_rfl, ?_⟩) (by assumption) ?_
        · intro W hSw
          try dsimp only at hSw
          go_simp
        try simp only [Act.put, List.setIfInBounds_toArray, List.set_cons_zero, List.set_cons_succ]
        refine wpAnyH_take (i := 10) (v := .slice (some ⟨g, 0, none⟩) n cp) rfl (by kernel_rfl) (by kernel_rfl) (by kernel_rfl) (fun _ _ _ h => h) (Or.inl ⟨by kernel_rfl, ?_⟩) (by assumption) ?_
        · intro W hSw
          try dsimp only at hSw
          go_simp
        try simp only [Act.put, List.setIfInBounds_toArray, List.set_cons_zero, List.set_cons_succ]
        refine wpAnyH_take (i := 11) (v := .int .i64 (i : Nat)) rfl (by kernel_rfl) (by kernel_rfl) (by kernel_rfl) (fun _ _ _ h => h) (Or.inl ⟨by kernel_rfl, ?_⟩) (by assumption) ?_
        · intro W hSw
          try dsimp only at hSw
          go_simp
        try simp only [Act.put, List.setIfInBounds_toArray, List.set_cons_zero, List.set_cons_succ]
        refine wpAnyH_take (i := 12) (v := .pointer (some ⟨g, i * 2, none⟩)) rfl (by kernel_rfl) (by kernel_rfl) (by kernel_rfl) (fun _ _ _ h => h) (Or.inl ⟨by kernel_rfl, ?_⟩) (by assumption) ?_
        · intro W hSw
          try dsimp only at hSw
          go_simp
        try simp only [Act.put, List.setIfInBounds_toArray, List.set_cons_zero, List.set_cons_succ]
        refine wpAnyH_take (i := 13) (v := .pointer (some ⟨g, i * 2 + 1, none⟩)) rfl (by kernel_rfl) (by kernel_rfl) (by kernel_rfl) (fun _ _ _ h => h) (Or.inl ⟨by kernel_rfl, ?_⟩) (by assumption) ?_
        · intro W hSw
          try dsimp only at hSw
          go_simp
        try simp only [Act.put, List.setIfInBounds_toArray, List.set_cons_zero, List.set_cons_succ]
        refine wpAnyH_take (i := 14) (v := .int .i64 (py i)) rfl (by kernel_rfl) (by kernel_rfl) (by kernel_rfl) (fun _ _ _ h => h) (Or.inl ⟨by kernel_rfl, ?_⟩) (by assumption) ?_
        · intro W hSw
          try dsimp only at hSw
          go_simp
        try simp only [Act.put, List.setIfInBounds_toArray, List.set_cons_zero, List.set_cons_succ]
        refine wpAnyH_take (i := 15) (v := .int .i64 y0) rfl (by kernel_rfl) (by kernel_rfl) (by kernel_rfl) (fun _ _ _ h => h) (Or.inl ⟨by kernel_rfl, ?_⟩) (by assumption) ?_
        · intro W hSw
          try dsimp only at hSw
          go_simp
        try simp only [Act.put, List.setIfInBounds_toArray, List.set_cons_zero, List.set_cons_succ]
        refine wpAnyH_ready (rs := [7]) (by kernel_rfl) (by simp) ?_
        refine AllReadyH.cons rfl (fun K hK => ?_) AllReadyH.nil
        go_simp
        refine (K2.out _).mono ?_
        rintro e w6 ⟨rfl, he6⟩
        subst he6
        refine hK.out _ _ (by assumption) (fun hHeld => ?_)
        clear hK K hHeld
        try simp only [Act.put, List.setIfInBounds_toArray, List.set_cons_zero, List.set_cons_succ]
        refine wpAnyH_take (i := 8) (v := .int .i64 (px i + x1)) rfl (by kernel_rfl) (by kernel_rfl) (by kernel_rfl) (fun _ _ _ h => h) (Or.inl ⟨by kernel_rfl, ?_⟩) (by assumption) ?_
        · intro W hSw
          try dsimp only at hSw
          go_simp
        try simp only [Act.put, List.setIfInBounds_toArray, List.set_cons_zero, List.set_cons_succ]
        refine wpAnyH_take (i := 9) (v := .int .i64 (px i + x1 - 250)) rfl (by kernel_rfl) (by kernel_rfl) (by kernel_rfl) (fun _ _ _ h => h) (Or.inl ⟨by kernel_rfl, ?_⟩) (by assumption) ?_
        · intro W hSw
          try dsimp only at hSw
          go_simp
        try simp only [Act.put, List.setIfInBounds_toArray, List.set_cons_zero, List.set_cons_succ]
        refine wpAnyH_ready (rs := [16]) (by kernel_rfl) (by simp) ?_
        refine AllReadyH.cons rfl (fun K hK => ?_) AllReadyH.nil
        go_simp
        refine (K3.out _).mono ?_
        rintro e w6 ⟨rfl, he6⟩
        subst he6
        refine hK.out _ _ (by assumption) (fun hHeld => ?_)
        clear hK K hHeld
        try simp only [Act.put, List.setIfInBounds_toArray, List.set_cons_zero, List.set_cons_succ]
        refine wpAnyH_take (i := 17) (v := .int .i64 (py i + y1)) rfl (by kernel_rfl) (by kernel_rfl) (by kernel_rfl) (fun _ _ _ h => h) (Or.inl ⟨by kernel_rfl, ?_⟩) (by assumption) ?_
        · intro W hSw
          try dsimp only at hSw
          go_simp
        try simp only [Act.put, List.setIfInBounds_toArray, List.set_cons_zero, List.set_cons_succ]
        refine wpAnyH_take (i := 18) (v := .int .i64 (py i + y1 - 250)) rfl (by kernel_rfl) (by kernel_rfl) (by kernel_rfl) (fun _ _ _ h => h) (Or.inl ⟨by kernel_rfl, ?_⟩) (by assumption) ?_
        · intro W hSw
          try dsimp only at hSw
          go_simp
        try simp only [Act.put, List.setIfInBounds_toArray, List.set_cons_zero, List.set_cons_succ]
        refine wpAnyH_take (i := 19) (v := .agg #[.int .i64 (px i + x1 - 250), .int .i64 (py i + y1 - 250)]) rfl (by kernel_rfl) (by kernel_rfl) (by kernel_rfl) (fun _ _ _ h => h) (Or.inl ⟨by kernel_rfl, ?_⟩) (by assumption) ?_
        · intro W hSw
          try dsimp only at hSw
          go_simp
        try simp only [Act.put, List.setIfInBounds_toArray, List.set_cons_zero, List.set_cons_succ]
        have S2 := And.intro (cell_new (o := (.cells #[.int .i64 (px i + x1 - 250), .int .i64 (py i + y1 - 250)] 35)) START.1) (cell_new (o := (.cells #[.int .i64 (px i + x1 - 250), .int .i64 (py i + y1 - 250)] 35)) START.2)
        refine wpAnyH_ready (rs := [20]) (by kernel_rfl) (by simp) ?_
        refine AllReadyH.cons rfl (fun K hK => ?_) AllReadyH.nil
        go_simp
        refine hK.out _ _ (by assumption) (fun hHeld => ?_)
        clear hK K hHeld
        refine wpAnyH_ready (rs := [21]) (by kernel_rfl) (by simp) ?_
        refine AllReadyH.cons rfl (fun K hK => ?_) AllReadyH.nil
        refine step_append_lies _ (by rfl) (.tmp 42) (.tmp 62) 26 (by rfl) w1.heap.size 35 i0 (.agg #[.int .i64 0, .int .i64 0]) 2 16 Tryz.underlying26 hi0 hz0 hz1 hz2 (by rfl) (by decide) u11 i _ (by rfl) (HO.out.alloc _) ⟨wr.heap.size, 0, none⟩ 1 1 [.int .i64 (px i + x1 - 250), .int .i64 (py i + y1 - 250)] (by rfl) (by rfl) (new_two wr.drew _ _) (one_two _ _) (by decide) (by unfold maxLen; omega) (by omega) (by have := HB.out.size; show _ ≤ (wr.alloc _).heap.size; simp; omega) (wr.heap.size + 1) (by show (wr.alloc _).heap.size = _; simp) ?_
        intro gi ci w9 hown9 hgrow9 hat hlt9
        have F1 := hid (far_step (W0 := wr.drew.alloc (.cells #[.int .i64 (px i + x1 - 250), .int .i64 (py i + y1 - 250)] 35)) (HO.out.alloc _) (HU.out.alloc _) HD.out (HB.out.drew.alloc HB.out.size _) HP.out.lt (px i + x1 - 250) (py i + y1 - 250) hown9 hgrow9 (by rw [show (wr.drew.alloc (.cells #[.int .i64 (px i + x1 - 250), .int .i64 (py i + y1 - 250)] 35)).heap.size = wr.heap.size + 1 by show (wr.alloc _).heap.size = _; simp]; exact hat))
        have S9 := And.intro (F1.out.2.2.2.1 _ S2.1) (F1.out.2.2.2.1 _ S2.2)
        have xr9 := F1.out.2.2.2.1 _ (cell_new xr)
        have yr9 := F1.out.2.2.2.1 _ (cell_new yr)
        refine hK.out _ _ S9 (fun hHeld => ?_)
        clear hK K hHeld hown9 hgrow9 hat hlt9 S2 START xr yr
        try simp only [Act.put, List.setIfInBounds_toArray, List.set_cons_zero, List.set_cons_succ]
        refine wpAnyH_ready (rs := [22]) (by kernel_rfl) (by simp) ?_
        refine AllReadyH.cons rfl (fun K hK => ?_) AllReadyH.nil
        go_simp
        refine hK.out _ _ (by assumption) (fun hHeld => ?_)
        clear hK K hHeld
        refine wpAnyH_done (by kernel_rfl) ?_ _
        clear S9
        go_wp2_with (at_builtin; go_must (refine wpList_append_pts _ rfl _ _ 26 rfl w1.heap.size 35 i0 (.agg #[.int .i64 0, .int .i64 0]) 2 16 Tryz.underlying26 hi0 hz0 hz1 hz2 rfl (by decide) u12 i _ rfl (F1.out.2.1.alloc _) ⟨w9.heap.size, 0, none⟩ 1 1 [.int .i64 (px r), .int .i64 (py r)] rfl rfl (new_two w9 _ _) (one_two _ _) (by decide) (by unfold maxLen; omega) (by omega) (by have := F1.out.2.2.2.2.size; simp; omega) (w9.heap.size + 1) (by simp) ?_))
        intro gj cj w10 hown10 hgrow10 hat10 hlt10
        have F2 := hid (far_step (F1.out.2.1.alloc _) (F1.out.1.alloc _) (fun q h h' => F1.out.2.2.1 q h' h) (F1.out.2.2.2.2.alloc F1.out.2.2.2.2.size _) HP.out.lt (px r) (py r) hown10 hgrow10 (by simpa using hat10))
        clear hown10 hgrow10 hat10 hlt10 xr9 yr9
        have FIN : Hid (w10.ownsRow w1.heap.size 35 2 (.slice (some ⟨gi, 0, none⟩) (i + 1) ci) (i + 1) (cellsP (prs (fun i => px i + (x1 - 250)) (fun i => py i + (y1 - 250)) (i + 1))) ∧ w10.ownsRow w1.heap.size 35 2 (.slice (some ⟨gj, 0, none⟩) (i + 1) cj) (i + 1) (cellsP (prs (fun i => px (rv n i)) (fun i => py (rv n i)) (i + 1)))) := hid ⟨by
            rw [prs_snoc, cellsP_snoc]
            have := F2.out.2.1
            rw [show px i + x1 - 250 = px i + (x1 - 250) by omega, show py i + y1 - 250 = py i + (y1 - 250) by omega] at this
            exact this, by
            rw [prs_snoc, cellsP_snoc, ← HRV.out]
            exact F2.out.1⟩
        go_wp2_with fail
        go_roundw
        case rel => exact ⟨i + 1, by omega, by go_num, hid FIN.out.1, hid FIN.out.2, hid (fun q h h' => F2.out.2.2.1 q h' h), hid F2.out.2.2.2.2⟩
        case measure => simp [intOf]; omega
      · have hii : n = i := by omega
        subst hii
        obtain ⟨gf, cf, e1, hcf, PF⟩ := prs_pts HO.out (by omega)
        obtain ⟨gk, ck, e2, hck, PK⟩ := prs_pts HU.out (by omega)
        subst e1 e2
        have HPF := hid PF
        have HPK := hid PK
        have HPL := hid (HP.out.below HB.out HP.out.lt)
        have X : -250 ≤ x1 - 250 ∧ x1 - 250 ≤ 249 := by omega
        have Y : -250 ≤ y1 - 250 ∧ y1 - 250 ≤ 249 := by omega
        clear PF PK HO HU HD K2 K3
        have C2 := hid (tri_few n3 (by omega) HF.out.ref g cp wr HPL.out hcn)
        go_wp2_with fail
        refine C2.out.mono ?_
        rintro e w2 ⟨hb2, g2, cp2, d2, M2, hs2, rfl, hd2, hp2, hTr2, hT2, hM2, hL2⟩
        have HB2 := hid hb2
        have HTR2 := hid hTr2
        have HT2 := hid hT2
        have HM2 := hid hM2
        have HL2 := hid hL2
        clear C2 hb2 hTr2 hT2 hM2 hL2
        have C3 := hid (tri_few n3 (by omega) (HF.out.ref_far X Y) gf cf w2 (HPF.out.below HB2.out HPF.out.lt) hcf)
        go_wp2_with fail
        refine C3.out.mono ?_
        rintro e w3 ⟨hb3, g3, cp3, d3, M3, hs3, rfl, hd3, hp3, hTr3, hT3, hM3, hL3⟩
        have HB3 := hid (HB2.out.trans (hb3.mono HB2.out.size))
        have HTR23 := hid (HTR2.out.below hb3)
        have HTR3 := hid hTr3
        have HT3 := hid hT3
        have HM3 := hid hM3
        have HL3 := hid hL3
        clear C3 hb3 hTr3 hT3 hM3 hL3 HTR2 HB2
        have C4 := hid (tri_few n3 (by omega) HF.out.ref_back gk ck w3 (HPK.out.below HB3.out HPK.out.lt) hck)
        go_wp2_with fail
        refine C4.out.mono ?_
        rintro e w4 ⟨hb4, g4, cp4, d4, M4, hs4, rfl, hd4, hp4, hTr4, hT4, hM4, hL4⟩
        have HB4 := hid (HB3.out.trans (hb4.mono HB3.out.size))
        have HTR24 := hid (HTR23.out.below hb4)
        have HTR34 := hid (HTR3.out.below hb4)
        have HTR4 := hid hTr4
        have HT4 := hid hT4
        have HM4 := hid hM4
        have HL4 := hid hL4
        clear C4 hb4 hTr4 hT4 hM4 hL4 HTR23 HTR3 HB3
        have LEN := moved_len HF.out X Y HM2.out HT2.out HM3.out HT3.out HM4.out HT4.out
        have S2 := hid (fun W (hW : Below w4.heap.size w4 W) => sane_few HF.out.bds HT2.out HM2.out g cp g2 cp2 W (HPL.out.below (HB4.out.trans (hW.mono HB4.out.size)) HPL.out.lt) (HTR24.out.below hW) hd2)
        have S3 := hid (fun W (hW : Below w4.heap.size w4 W) => sane_few (HF.out.bds_far X Y) HT3.out HM3.out gf cf g3 cp3 W (HPF.out.below (HB4.out.trans (hW.mono HB4.out.size)) HPF.out.lt) (HTR34.out.below hW) hd3)
        have S4 := hid (fun W (hW : Below w4.heap.size w4 W) => sane_few HF.out.bds_back HT4.out HM4.out gk ck g4 cp4 W (HPK.out.below (HB4.out.trans (hW.mono HB4.out.size)) HPK.out.lt) (HTR4.out.below hW) hd4)
        have Z2 := hid (fun a b W (hW : Below w4.heap.size w4 W) => side_any n g2 0 d2.size cp2 (dz d2) (dA d2) (dB d2) (dC d2) a b W (HTR24.out.below hW) (by omega) (HT2.out.row3 HM2.out.mesh))
        have Z3 := hid (fun a b W (hW : Below w4.heap.size w4 W) => side_any n g3 0 d3.size cp3 (dz d3) (dA d3) (dB d3) (dC d3) a b W (HTR34.out.below hW) (by omega) (HT3.out.row3 HM3.out.mesh))
        have Z4 := hid (fun a b W (hW : Below w4.heap.size w4 W) => side_any n g4 0 d4.size cp4 (dz d4) (dA d4) (dB d4) (dC d4) a b W (HTR4.out.below hW) (by omega) (HT4.out.row3 HM4.out.mesh))
        have UQ := hid (fun W (hW : Below w4.heap.size w4 W) => unique_any px py n g cp W (HPL.out.below (HB4.out.trans (hW.mono HB4.out.size)) HPL.out.lt) (by omega) HF.out.bds)
        have EQ := hid (fun (hf : Geo.Free px py n) a b (ha : a < n) (hb : b < a) => moved_eq HF.out hf HM2.out HT2.out HL2.out HM3.out HT3.out HL3.out HM4.out HT4.out HL4.out ha hb)
        rw [LEN.1] at S3 Z3 EQ ⊢
        rw [LEN.2] at S4 Z4 EQ ⊢
        have FB := hid (HB1.out.trans ((HB.out.trans (HB4.out.mono HB.out.size)).mono HB1.out.size))
        clear LEN HTR24 HTR34 HTR4 HT2 HT3 HT4 HM2 HM3 HM4 HL2 HL3 HL4 HPF HPK HPL hd3 hd4 hp3 hp4 X Y HB4 HB HB1
        obtain ⟨m, hm⟩ : ∃ m, m = d2.size := ⟨_, rfl⟩
        rw [← hm] at S2 S3 S4 Z2 Z3 Z4 EQ hd2 hp2 ⊢
        clear hm
        have dm : ((m : Int) == 0) = false := by simp; omega
        have dmm : ((m : Int) != (m : Int)) = false := by simp
        go_wp2_with fail
        refine (S2.out w4 (Below.refl _ _)).mono ?_
        rintro e w5 ⟨rfl, hb5⟩
        have HB5 := hid hb5
        clear hb5 S2
        go_wp2_with fail
        refine (S3.out w5 HB5.out).mono ?_
        rintro e w6 ⟨rfl, hb6⟩
        have HB6 := hid (HB5.out.trans (hb6.mono HB5.out.size))
        clear hb6 S3 HB5
        go_wp2_with fail
        refine (S4.out w6 HB6.out).mono ?_
        rintro e w7 ⟨rfl, hb7⟩
        have HB7 := hid (HB6.out.trans (hb7.mono HB6.out.size))
        clear hb7 S4 HB6
        go_wp2_with fail
        refine (UQ.out w7 HB7.out).mono ?_
        rintro e w8 ⟨⟨b, rfl, hfree⟩, hb8⟩
        have HB8 := hid (HB7.out.trans (hb8.mono HB7.out.size))
        have HFR := hid hfree
        clear hb8 UQ HB7 hfree
        have fin : Hid (∀ W, Below w4.heap.size w4 W → Below w.heap.size w W) := hid (fun W hW => FB.out.trans (hW.mono FB.out.size))
        cases b with
        | false =>
          go_wp2_with fail
          go_loopw [22] (fun i wr => i = .int .i64 0 ∧ Hid (Below w4.heap.size w4 wr)) (fun _ _ => 0)
          case atStart => exact ⟨rfl, HB8⟩
          case round =>
            obtain ⟨rfl, HB⟩ := hrel
            go_wp2_with fail
            go_ret
            exact ⟨rfl, fin.out _ HB.out⟩
        | true =>
          have HQ := hid (EQ.out (HFR.out rfl))
          clear EQ HFR
          go_wp2_with fail
          go_loopw [22] (fun i wr => ∃ i' : Nat, i' ≤ n ∧ i = .int .i64 i' ∧ Hid (Below w4.heap.size w4 wr)) (fun i _ => n - (intOf i).toNat)
          case atStart => exact ⟨0, Nat.zero_le _, rfl, HB8⟩
          case round =>
            obtain ⟨i, hi, rfl, HB⟩ := hrel
            by_cases hin : i < n
            · have hin' : (i : Int) < n := by omega
              obtain ⟨W0, rfl⟩ : ∃ W0, W0 = wr := ⟨wr, rfl⟩
              go_wp2_with fail
              go_loopw [23] (fun k wr => ∃ k' : Nat, k' ≤ i ∧ k = .int .i64 k' ∧ Hid (Below w4.heap.size w4 wr)) (fun k _ => i - (intOf k).toNat)
              case atStart => exact ⟨0, Nat.zero_le _, rfl, HB⟩
              case round =>
                clear HB
                obtain ⟨k, hk, rfl, HB⟩ := hrel
                by_cases hki : k < i
                · have hki' : (k : Int) < i := by omega
                  have Q := HQ.out i k hin hki
                  obtain ⟨sv, hsv⟩ : ∃ sv, sv = sideB (dA d2) (dB d2) (dC d2) i k m := ⟨_, rfl⟩
                  have z2 := Z2.out i k
                  have z3 := Z3.out i k
                  have z4 := Z4.out (rv n i) (rv n k)
                  rw [Q.1] at z3
                  rw [Q.2] at z4
                  rw [← hsv] at z2 z3 z4
                  clear hsv Q
                  obtain ⟨r, hr⟩ : ∃ r, r = rv n i := ⟨_, rfl⟩
                  obtain ⟨q, hq⟩ : ∃ q, q = rv n k := ⟨_, rfl⟩
                  rw [← hr, ← hq] at z4
                  have er : (n : Int) - 1 - (i : Int) = (r : Nat) := by rw [hr]; unfold rv; omega
                  have eq : (n : Int) - 1 - (k : Int) = (q : Nat) := by rw [hq]; unfold rv; omega
                  have c5 : IntKind.i64.wrap ((n : Int) - 1) = n - 1 := by rw [IntKind.wrap_i64]; omega
                  have c6 : IntKind.i64.wrap ((n : Int) - 1 - (i : Int)) = (r : Nat) := by rw [IntKind.wrap_i64]; omega
                  have c7 : IntKind.i64.wrap ((n : Int) - 1 - (k : Int)) = (q : Nat) := by rw [IntKind.wrap_i64]; omega
                  have ZZ2 := hid z2
                  have ZZ3 := hid z3
                  have ZZ4 := hid z4
                  clear z2 z3 z4 hr hq
                  go_wp2_with fail
                  refine (ZZ2.out _ HB.out).mono ?_
                  rintro e w9 ⟨rfl, hb9⟩
                  have HB9 := hid (HB.out.trans (hb9.mono HB.out.size))
                  clear hb9
                  go_wp2_with fail
                  refine (ZZ3.out _ HB9.out).mono ?_
                  rintro e w10 ⟨rfl, hb10⟩
                  have HB10 := hid (HB9.out.trans (hb10.mono HB9.out.size))
                  clear hb10
                  go_wp2_with fail
                  refine (ZZ4.out _ HB10.out).mono ?_
                  rintro e w11 ⟨rfl, hb11⟩
                  have HB11 := hid (HB10.out.trans (hb11.mono HB10.out.size))
                  clear hb11
                  have dsv : (sv != sv) = false := by simp
                  go_wp2_with fail
                  go_roundw
                  case rel => exact ⟨k + 1, by omega, by go_num, HB11⟩
                  case measure => simp [intOf]; omega
                · have hkk : i = k := by omega
                  subst hkk
                  go_wp2_with fail
                  go_roundw
                  case rel => exact ⟨i + 1, by omega, by go_num, HB⟩
                  case measure => simp [intOf]; omega
            · have hii : n = i := by omega
              subst hii
              go_wp2_with fail
              go_ret
              exact ⟨rfl, fin.out _ HB.out⟩
end Go.Proofs.YtdbebbbceeopaaaGreat

set_option linter.unusedSimpArgs false
namespace Go.Proofs.YtdbebbbceeopaaaGreat
open Go.RowKit

/-- Lines from one point to others. -/
def Fan (n : Nat) (a : Int) (xs : List (Int × Int)) : Prop := ∀ p ∈ xs, p.1 = a ∧ 0 ≤ p.2 ∧ p.2 < n ∧ p.2 ≠ a

theorem Fan.snoc {n : Nat} {a b : Int} {xs : List (Int × Int)} (h : Fan n a xs) (h0 : 0 ≤ b) (h1 : b < n) (h2 : b ≠ a) : Fan n a (xs ++ [(a, b)]) := by
  intro p hp
  rcases List.mem_append.1 hp with k | k
  · exact h p k
  · simp at k
    subst k
    exact ⟨rfl, h0, h1, h2⟩

/-- A list of lines from one point to others, which lies behind what was. -/
def FanR (n base : Nat) (w' : World) (v : Value) : Prop := ∃ (a : Int) (xs : List (Int × Int)), xs.length ≤ 7 ∧ 0 ≤ a ∧ a < n ∧ Fan n a xs ∧ w'.ownsRow base 54 2 v xs.length (cellsP xs)

theorem new_two' (t : TypeId) (w : World) (a b : Value) : ∀ (j : Nat) (u : Value), [a, b][j]? = some u → (w.alloc (.cells #[a, b] t)).cell? ((⟨w.heap.size, 0, none⟩ : Addr).add j) = some u := by
  intro j u hu
  match j, hu with
  | 0, hu => simp at hu; subst hu; exact World.cell?_alloc_at _ _ _ _ rfl
  | 1, hu => simp at hu; subst hu; exact World.cell?_alloc_at _ _ _ _ rfl
  | j + 2, hu => simp at hu

set_option maxRecDepth 100000 in
set_option maxHeartbeats 2000000 in
theorem fan_nil (x : Option Addr) (n cap : Nat) (w : World) : Calls Tryz.prog 26 #[.int .i64 n, .slice x 0 cap] w fun e w' => e = .returned (.slice none 0 0) ∧ Below w.heap.size w w' := by
  go_enter Tryz.func26, Tryz.ntmps26
  go_wp2_with fail
  go_ret
  exact ⟨rfl, Below.refl _ _⟩

set_option maxRecDepth 100000 in
set_option maxHeartbeats 2000000 in
theorem fan_some (x : Addr) (n len cap : Nat) (zs : List Int) (w : World) (h3 : 3 ≤ n) (hn : n ≤ 40) (h0 : 0 < len) (hcm : len ≤ 17592186043904) (hzl : len ≤ zs.length) (hz : ∀ i, i < zs.length → w.cell? (x.add i) = some (.int .i64 (zs.getD i 0)))
    (hxb : x.block < w.heap.size) (hwz : ∀ n ∈ zs, (Lit.int .i64 n).wf = true) :
    Calls Tryz.prog 26 #[.int .i64 n, .slice (some x) len cap] w fun e w' => ∃ v : Value, e = .returned v ∧ Below w.heap.size w w' ∧ FanR n w.heap.size w' v := by
  obtain ⟨i0, hi, hz0, hz1, hz2⟩ := info_parts Tryz.info54
  have HZ := hid hz
  have HWZ := hid hwz
  have e0 : x.add 0 = x := by cases x with | mk b o t => cases t <;> simp [Addr.add]
  have hc0 := hz 0 (by omega)
  rw [e0] at hc0
  clear e0
  have c1 := hid (pick_any (zs.getD 0 0) n (wf_bd (hwz _ (getD_memI (by omega)))) (by omega) (by omega))
  have pk := pickI_bd (zs.getD 0 0) n (by omega)
  generalize pickI (zs.getD 0 0) n = a at *
  generalize zs.getD 0 0 = z0 at *
  have dl : ((len : Int) == 0) = false := by simp; omega
  have hl0 : (0 : Int) < len := by omega
  clear hz hwz
  go_enter Tryz.func26, Tryz.ntmps26
  go_wp2_with fail
  refine (c1.out _).mono ?_
  rintro e w1 ⟨rfl, rfl⟩
  clear c1 hc0
  go_wp2_with fail
  have H0 := hid (World.ownsRow_nil w1 w1.heap.size 54 2)
  go_loopw [5, 7] (fun l i wr => ∃ (k : Nat) (xs : List (Int × Int)), i = .int .i64 k ∧ 1 ≤ k ∧ k ≤ len ∧ xs.length + 1 ≤ k ∧ k ≤ 8 ∧ Hid (Fan n a xs) ∧ Hid (wr.ownsRow w1.heap.size 54 2 l xs.length (cellsP xs)) ∧ Hid (Below w1.heap.size w1 wr)) (fun _ i _ => len - (intOf i).toNat)
  case atStart => exact ⟨1, [], rfl, Nat.le_refl _, h0, Nat.le_refl _, by omega, hid (fun p hp => by cases hp), H0, hid (Below.refl _ _)⟩
  case round =>
    obtain ⟨k, xs, rfl, hk1, hkl, hkx, hk8, HF, HO, HB⟩ := hrel
    clear H0
    by_cases hlt : k < len
    · by_cases h8 : k < 8
      · have hlt' : (k : Int) < len := by omega
        have h8' : (k : Int) < 8 := by omega
        have hc : wr.cell? (x.add k) = some (.int .i64 (zs.getD k 0)) := by
          rw [HB.out.cell (by rw [addr_block]; exact hxb)]; exact HZ.out k (by omega)
        have c1 := hid (pick_any (zs.getD k 0) n (wf_bd (HWZ.out _ (getD_memI (by omega)))) (by omega) (by omega))
        have pb := pickI_bd (zs.getD k 0) n (by omega)
        generalize pickI (zs.getD k 0) n = b at *
        generalize zs.getD k 0 = zk at *
        go_wp2_with fail
        refine (c1.out _).mono ?_
        rintro e w2 ⟨rfl, rfl⟩
        clear c1
        by_cases hab : b = a
        · have d : (b != a) = false := by simpa using hab
          go_wp2_with fail
          go_roundw
          case rel => exact ⟨k + 1, xs, by go_num, by omega, by omega, by omega, by omega, HF, HO, HB⟩
          case measure => simp [intOf]; omega
        · have d : (b != a) = true := by simpa using hab
          go_wp2_with (at_builtin; go_must (refine wpList_append_own _ rfl _ _ 48 rfl w1.heap.size 54 i0 (.agg #[.int .i64 0, .int .i64 0]) 2 16 Tryz.underlying48 hi hz0 hz1 hz2 rfl (by decide) _ _ _ rfl (HO.out.alloc _) ⟨w2.heap.size, 0, none⟩ 1 1 [.int .i64 a, .int .i64 b] rfl rfl (new_two' 54 w2 _ _) (one_two _ _) ?c3 ?c4 ?c5 ?_))
          case c3 => unfold maxLen; omega
          case c4 => omega
          case c5 => have := HB.out.size; simp; omega
          intro v' w3 hown' hgrow _
          have hb3 : Below w1.heap.size w1 w3 := (HB.out.alloc HB.out.size _).grown hgrow (by have := HB.out.size; simp; omega) (fun q hq => (own_in HO.out q hq).1)
          have HO3 : Hid (w3.ownsRow w1.heap.size 54 2 v' (xs ++ [(a, b)]).length (cellsP (xs ++ [(a, b)]))) := hid (by rw [cellsP_snoc, List.length_append]; exact hown')
          have HB3 := hid hb3
          have HF3 := hid (HF.out.snoc (b := b) (by omega) (by omega) hab)
          clear hown' hgrow hb3
          go_wp2_with fail
          go_roundw
          case rel => exact ⟨k + 1, xs ++ [(a, b)], by go_num, by omega, by omega, by rw [List.length_append, List.length_singleton]; omega, by omega, HF3, HO3, HB3⟩
          case measure => simp [intOf]; omega
      · have h8' : ¬ (k : Int) < 8 := by omega
        have hlt' : (k : Int) < len := by omega
        go_wp2_with fail
        go_ret
        exact ⟨_, rfl, HB.out, a, xs, by omega, by omega, by omega, HF.out, HO.out⟩
    · have hlt' : ¬ (k : Int) < len := by omega
      go_wp2_with fail
      go_ret
      exact ⟨_, rfl, HB.out, a, xs, by omega, by omega, by omega, HF.out, HO.out⟩
end Go.Proofs.YtdbebbbceeopaaaGreat

set_option linter.unusedSimpArgs false
namespace Go.Proofs.YtdbebbbceeopaaaGreat
open Go.RowKit

/-- A list of lines that a call has made. -/
theorem fan_shape {n base : Nat} {w : World} {v : Value} (h : FanR n base w v) : ∃ (la : Option Addr) (lcap : Nat) (a : Int) (xs : List (Int × Int)), v = .slice la xs.length lcap ∧ xs.length ≤ lcap ∧ xs.length ≤ 7 ∧ 0 ≤ a ∧ a < n ∧ Fan n a xs ∧ LnI w la xs := by
  obtain ⟨a, xs, h7, h0, h1, hf, ho⟩ := h
  have ho' := ho
  rcases ho.2 with ⟨rfl, e⟩ | ⟨g, cap, cur, rfl, hb, hh, hc, hr⟩
  · have : xs = [] := List.length_eq_zero_iff.1 e
    subst this
    exact ⟨none, 0, a, [], rfl, Nat.le_refl _, by simp, h0, h1, hf, .inl rfl⟩
  · refine ⟨some ⟨g, 0, none⟩, cap, a, xs, rfl, ?_, h7, h0, h1, hf, .inr ⟨g, 0, rfl, heap_lt hh, fun i hi => ?_⟩⟩
    · omega
    · have c := cellsP_get xs i hi
      refine ⟨?_, ?_⟩
      · rw [Nat.zero_add, ho'.cellAt (i * 2) (by omega)]; exact c.1
      · rw [Nat.zero_add, ho'.cellAt (i * 2 + 1) (by omega)]; exact c.2

theorem fan_line {px py : Nat → Int} {n : Nat} {a : Int} {xs : List (Int × Int)} (h7 : xs.length ≤ 7) (h0 : 0 ≤ a) (h1 : a < n) (hf : Fan n a xs) : (∀ x ∈ xs, Jn n x) ∧ (lineI px py n xs = 0 ∨ lineI px py n xs = 6) := by
  have j : ∀ x ∈ xs, Jn n x := by
    intro x hx
    have := hf x hx
    unfold Jn
    omega
  refine ⟨j, ?_⟩
  unfold lineI
  rw [if_neg (by omega), if_neg (fun k => k j)]
  split
  · exact .inr rfl
  · exact .inl rfl

/-- Bound, of lines from one point to others. -/
theorem bound_fan (px py : Nat → Int) (n g cap lcap : Nat) (la : Option Addr) (xs : List (Int × Int)) (a : Int) (w : World) (hp : Pts w g 0 n px py) (h3 : 3 ≤ n) (hn : n ≤ 40) (hcap : n ≤ cap) (hr : refI px py n = 0) (hl : LnI w la xs) (hlc : xs.length ≤ lcap) (h7 : xs.length ≤ 7) (h0 : 0 ≤ a) (h1 : a < n) (hf : Fan n a xs) :
    Calls Tryz.prog 25 #[.slice (some ⟨g, 0, none⟩) n cap, .slice la xs.length lcap] w fun e w' => ∃ (u : Value) (r : Int), e = .returned (.tuple #[u, .int .i64 r]) ∧ Below w.heap.size w w' ∧
      ((r = 0 ∧ lineI px py n xs = 0 ∧ ∃ (g2 cp2 : Nat) (d : Array T3) (M : Nat → Nat → Option Nat) (hs : List Nat), u = .slice (some ⟨g2, 0, none⟩) d.size cp2 ∧ d.size ≤ 1600 ∧ Trs w' g2 0 d.size (dz d) ∧ Tris M d ∧ Msh px py n M hs ∧ Lnd px py M (toN xs)) ∨ (r = 6 ∧ lineI px py n xs = 6 ∧ u = .slice none 0 0)) := by
  have hz : NeZero n := ⟨by omega⟩
  rcases (fan_line (px := px) (py := py) h7 h0 h1 hf).2 with e0 | e6
  · refine (bound_lines px py n g 0 cap lcap la xs w hp h3 hn hcap hr hl hlc e0).mono ?_
    rintro e w2 ⟨hb, g2, cp, d, M, hs, rfl, _, hd, hown, hT, hM, hL⟩
    exact ⟨_, 0, rfl, hb, .inl ⟨rfl, e0, g2, cp, d, M, hs, rfl, hd, trs_own hown, hT, hM, hL⟩⟩
  · have rf := refusal_any px py n g 0 cap w hp h3 hn hcap
    rw [hr] at rf
    refine (bound_err2 (x := 6) (by omega) rf fun W hW => ?_).mono ?_
    · have := lineRef_any px py n g 0 cap lcap la xs W (hp.below hW hp.lt) hn (refI_bds hr) (hl.below hW) (by omega) hlc
      rw [e6] at this
      exact this
    · rintro e w2 ⟨rfl, hb⟩
      exact ⟨_, 6, rfl, hb, .inr ⟨rfl, e6, rfl⟩⟩
end Go.Proofs.YtdbebbbceeopaaaGreat

set_option linter.unusedSimpArgs false
namespace Go.Proofs.YtdbebbbceeopaaaGreat
open Go.RowKit

set_option maxRecDepth 100000 in
set_option maxHeartbeats 4000000 in
theorem counted_any (a : Option Addr) (len cap : Nat) (sz : Int) (lv : Value) (w : World)
    (hpts : Calls Tryz.prog 14 #[.slice a len cap, .int .i64 sz] w fun e w' => ∃ v N ps, e = .returned v ∧ Below w.heap.size w w' ∧ Sq N ps ∧ w'.ownsRow w.heap.size 35 2 v ps.length (cellsP ps))
    (hfan : ∀ (n : Nat) (W : World), 3 ≤ n → n ≤ 40 → Below w.heap.size w W → Calls Tryz.prog 26 #[.int .i64 n, lv] W fun e w' => ∃ v : Value, e = .returned v ∧ Below W.heap.size W w' ∧ FanR n W.heap.size w' v) :
    Calls Tryz.prog 10 #[.slice a len cap, .int .i64 sz, lv] w fun e w' => e = .returned (.bool true) ∧ Below w.heap.size w w' := by
  have C1 := hid (points_set2 hpts)
  have HFAN := hid hfan
  clear hpts hfan
  go_enter Tryz.func10, Tryz.ntmps10
  go_wp2_with fail
  refine C1.out.mono ?_
  rintro e w1 ⟨g, n, cp, px, py, N, rfl, hb1, hcp, hS, hC, hP⟩
  have HB1 := hid hb1
  have HS := hid hS
  have HP := hid hP
  have hn3 := hS.len
  have hn30 := hS.len'
  clear C1 hb1 hS hP hC
  have C3 := hid (hull_set2 HS.out g cp w1 HP.out hcp)
  go_wp2_with fail
  refine C3.out.mono ?_
  rintro e w2 ⟨g3, cp3, hs', rfl, hb2, hlen, hg3, hCn, hOs, hcell⟩
  have HB2 := hid (HB1.out.trans (hb2.mono HB1.out.size))
  have HP2 := hid (HP.out.below hb2 HP.out.lt)
  have HCN := hid hCn
  have HOS := hid hOs
  have HCL := hid hcell
  have BDS := hid (refI_bds HS.out.ref)
  have hm3 := hCn.len
  have HG3 := hid hg3
  have C5 := hid (known_any g3 hs'.length cp3 n (fun i => hs'.getD i 0) w2 hm3 hlen (fun j hj => HCL.out j hj) HCN.out.lt HCN.out.inj)
  clear C3 hb2 hCn hOs hcell HB1 HP
  obtain ⟨m, hm⟩ : ∃ m, m = hs'.length := ⟨_, rfl⟩
  have HMM := hid hm
  rw [← hm] at hm3 hlen C5 ⊢
  clear hm hg3
  go_wp2_with fail
  refine C5.out.mono ?_
  rintro e w3 ⟨rfl, q, rfl⟩
  clear C5
  have HB3 := hid (below_drewN HB2.out q)
  have HP3 : Hid (Pts (w2.drewN q) g 0 n px py) := hid (HP2.out.below (below_drewN (Below.refl w2.heap.size w2) q) HP2.out.lt)
  have HCL3 : Hid (∀ j, j < hs'.length → (w2.drewN q).cell? ⟨g3, j, none⟩ = some (.int .i64 (hs'.getD j 0 : Nat))) := hid (fun j hj => HCL.out j hj)
  have HG3' : Hid (g3 < (w2.drewN q).heap.size) := hid HG3.out
  obtain ⟨w3, hw3⟩ : ∃ w3, w3 = w2.drewN q := ⟨_, rfl⟩
  rw [← hw3] at HB3 HP3 HCL3 HG3' ⊢
  clear hw3 HB2 HP2 HCL HG3
  have C2 := hid (tri_set HS.out g cp w3 HP3.out hcp)
  go_wp2_with fail
  refine C2.out.mono ?_
  rintro e w4 ⟨hb4, g2, cp2, d, M, hs, rfl, hd, hd0, hTr, hT, hM, hL⟩
  have HB4 := hid (HB3.out.trans (hb4.mono HB3.out.size))
  have HP4 := hid (HP3.out.below hb4 HP3.out.lt)
  have HTR := hid hTr
  have HT := hid hT
  have HM := hid hM
  have HCL4 : Hid (∀ j, j < hs'.length → w4.cell? ⟨g3, j, none⟩ = some (.int .i64 (hs'.getD j 0 : Nat))) := hid (fun j hj => (hb4.cell (by exact HG3'.out)).trans (HCL3.out j hj))
  have HG4 := hid (Nat.lt_of_lt_of_le HG3'.out hb4.size)
  clear C2 hb4 hTr hT hM hL HCL3 HG3' HP3 HB3
  have C6 := hid (HFAN.out n w4 hn3 (by omega) HB4.out)
  obtain ⟨k, hk⟩ : ∃ k, k = d.size := ⟨_, rfl⟩
  have HKK := hid hk
  rw [← hk] at hd hd0 ⊢
  clear hk
  go_wp2_with fail
  refine C6.out.mono ?_
  rintro e w5 ⟨v, rfl, hb5, hFR⟩
  obtain ⟨la, lcap, fa, xs, rfl, hlc, h7, f0, f1, hF, hLn⟩ := fan_shape hFR
  have HP5 := hid (HP4.out.below hb5 HP4.out.lt)
  have C7 := hid (bound_fan px py n g cp lcap la xs fa w5 HP5.out hn3 (by omega) hcp HS.out.ref hLn hlc h7 f0 f1 hF)
  have HB5 := hid (HB4.out.trans (hb5.mono HB4.out.size))
  have HTR5 := hid (HTR.out.below hb5)
  have HCL5 : Hid (∀ j, j < hs'.length → w5.cell? ⟨g3, j, none⟩ = some (.int .i64 (hs'.getD j 0 : Nat))) := hid (fun j hj => (hb5.cell (by exact HG4.out)).trans (HCL4.out j hj))
  have HG5 := hid (Nat.lt_of_lt_of_le HG4.out hb5.size)
  clear C6 hb5 hFR hLn hF f0 f1 HP4 HB4 HTR HCL4 HG4
  obtain ⟨lk, hlk⟩ : ∃ lk, lk = xs.length := ⟨_, rfl⟩
  rw [← hlk] at C7 h7 hlc ⊢
  clear hlk
  go_wp2_with fail
  refine C7.out.mono ?_
  rintro e w6 ⟨u, r, rfl, hb6, hU⟩
  have HU := hid hU
  have HB6 := hid (HB5.out.trans (hb6.mono HB5.out.size))
  have HP6 := hid (HP5.out.below hb6 HP5.out.lt)
  have HTR6 := hid (HTR5.out.below hb6)
  have HCL6 : Hid (∀ j, j < hs'.length → w6.cell? ⟨g3, j, none⟩ = some (.int .i64 (hs'.getD j 0 : Nat))) := hid (fun j hj => (hb6.cell (by exact HG5.out)).trans (HCL5.out j hj))
  have HG6 := hid (Nat.lt_of_lt_of_le HG5.out hb6.size)
  clear C7 hb6 hU HP5 HB5 HTR5 HCL5 HG5
  have EHS : Hid (hs' = hs) := hid (hs_one HM.out HOS.out)
  have C8 := hid (rim_any px py n g cp g3 cp3 hs' w6 (by omega) HP6.out BDS.out (by rw [← HMM.out]; exact hm3) (by rw [← HMM.out]; exact hlen) HG6.out HCL6.out HCN.out.lt)
  have rb := rimI_bd px py hs' n
  have CNT : Hid ((k : Int) = 2 * n - rimI px py hs' n - 2) := hid (by
    rw [EHS.out, rim_bdc HM.out hn3 HS.out.ref (fun i j hi hj e1 e2 => Classical.byContradiction fun q => HS.out.ne i j hi hj q ⟨e1, e2⟩), HKK.out]
    exact HM.out.count hn3 HS.out.ref (fun i j hi hj e1 e2 => Classical.byContradiction fun q => HS.out.ne i j hi hj q ⟨e1, e2⟩) HT.out.lists)
  obtain ⟨rv, hrv⟩ : ∃ rv, rv = rimI px py hs' n := ⟨_, rfl⟩
  have HRV := hid hrv
  rw [← HMM.out] at C8
  rw [← hrv] at C8 rb CNT
  clear hrv
  have y1 : IntKind.i64.wrap (2 * (n : Int)) = 2 * n := by rw [IntKind.wrap_i64]; omega
  have y2 : IntKind.i64.wrap (2 * (n : Int) - rv) = 2 * n - rv := by rw [IntKind.wrap_i64]; omega
  have y3 : IntKind.i64.wrap (2 * (n : Int) - rv - 2) = (k : Int) := by have := CNT.out; rw [IntKind.wrap_i64]; omega
  go_wp2_with fail
  refine C8.out.mono ?_
  rintro e w7 ⟨rfl, hb7⟩
  have HB7 := hid (HB6.out.trans (hb7.mono HB6.out.size))
  have HP7 := hid (HP6.out.below hb7 HP6.out.lt)
  have HTR7 := hid (HTR6.out.below hb7)
  have HCL7 : Hid (∀ j, j < hs'.length → w7.cell? ⟨g3, j, none⟩ = some (.int .i64 (hs'.getD j 0 : Nat))) := hid (fun j hj => (hb7.cell (by exact HG6.out)).trans (HCL6.out j hj))
  have HG7 := hid (Nat.lt_of_lt_of_le HG6.out hb7.size)
  have H67 := hid hb7
  clear C8 hb7 HP6 HB6 HTR6 HCL6 HG6
  go_wp2_with fail
  clear y1 y2 y3 rb
  obtain ⟨m', hm'⟩ : ∃ m', m = m' + 2 := ⟨m - 2, by omega⟩
  have HF := hid (fun t ht => fan_bd BDS.out (h := hs') (fun y hy => by obtain ⟨i, hi, rfl⟩ := getD_mem hy; exact HCN.out.lt i hi) t ht)
  have HL : Hid (∀ j, j < hs'.length → hs'.getD j 0 < n) := hid HCN.out.lt
  rw [← HMM.out] at HCL7 HL HF
  subst hm'
  go_loopw [16, 17] (fun s i wr => ∃ t j : Nat, t ≤ m' ∧ j = t + 1 ∧ i = .int .i64 j ∧ s = .int .i64 (fanI px py hs' t) ∧ Hid (Below w7.heap.size w7 wr)) (fun _ i _ => m' + 1 - (intOf i).toNat)
  case atStart => exact ⟨0, 1, Nat.zero_le _, rfl, rfl, rfl, hid (Below.refl _ _)⟩
  case round =>
    obtain ⟨t, j, ht, hj, rfl, rfl, HB⟩ := hrel
    have w1' : IntKind.i64.wrap ((j : Int) + 1) = (j : Int) + 1 := by rw [IntKind.wrap_i64]; omega
    by_cases hlt : t < m'
    · have hlt' : (j : Int) + 1 < (m' : Int) + 2 := by omega
      have d0 : wr.cell? ⟨g3, 0, none⟩ = some (.int .i64 (hs'.getD 0 0 : Nat)) := (HB.out.cell HG7.out).trans (HCL7.out 0 (by omega))
      have d1 : wr.cell? ⟨g3, j, none⟩ = some (.int .i64 (hs'.getD (t + 1) 0 : Nat)) := by rw [hj]; exact (HB.out.cell HG7.out).trans (HCL7.out (t + 1) (by omega))
      have d2 : wr.cell? ⟨g3, j + 1, none⟩ = some (.int .i64 (hs'.getD (t + 2) 0 : Nat)) := by rw [hj]; exact (HB.out.cell HG7.out).trans (HCL7.out (t + 2) (by omega))
      have l0 := HL.out 0 (by omega)
      have l1 := HL.out (t + 1) (by omega)
      have l2 := HL.out (t + 2) (by omega)
      have bd := HF.out t (by omega)
      have FN : Hid (fanI px py hs' (t + 1) = fanI px py hs' t + T px py (hs'.getD 0 0) (hs'.getD (t + 1) 0) (hs'.getD (t + 2) 0)) := hid rfl
      obtain ⟨ai, hai⟩ : ∃ x, x = hs'.getD 0 0 := ⟨_, rfl⟩
      obtain ⟨bi, hbi⟩ : ∃ x, x = hs'.getD (t + 1) 0 := ⟨_, rfl⟩
      obtain ⟨ci, hci⟩ : ∃ x, x = hs'.getD (t + 2) 0 := ⟨_, rfl⟩
      rw [← hai] at d0 l0 FN
      rw [← hbi] at d1 l1 FN
      rw [← hci] at d2 l2 FN
      clear hai hbi hci
      have hpw := HP7.out.below HB.out HP7.out.lt
      have xa := hpw.x ai l0
      have ya := hpw.y ai l0
      have xb := hpw.x bi l1
      have yb := hpw.y bi l1
      have xc := hpw.x ci l2
      have yc := hpw.y ci l2
      rw [Nat.zero_add] at xa ya xb yb xc yc
      have gl := hpw.lt
      have gt : g3 < wr.heap.size := Nat.lt_of_lt_of_le HG7.out HB.out.size
      have tb := T_bd BDS.out l0 l1 l2
      have B6 : Bd6 (px ai) (py ai) (px bi) (py bi) (px ci) (py ci) := ⟨bd4 BDS.out l0 l1, (BDS.out ci l2).1, (BDS.out ci l2).2⟩
      have K1 := hid (fun W => turn_6 (px ai) (py ai) (px bi) (py bi) (px ci) (py ci) W B6)
      have et : tw (px ai) (py ai) (px bi) (py bi) (px ci) (py ci) = T px py ai bi ci := rfl
      rw [et] at K1
      clear et B6
      obtain ⟨tv, htv⟩ : ∃ x, x = T px py ai bi ci := ⟨_, rfl⟩
      obtain ⟨fv, hfv⟩ : ∃ x, x = fanI px py hs' t := ⟨_, rfl⟩
      rw [← htv] at tb K1 FN
      rw [← hfv] at bd FN ⊢
      clear htv hfv
      have a' : (ai : Int) < n := by omega
      have b' : (bi : Int) < n := by omega
      have c' : (ci : Int) < n := by omega
      have z0 : (0 : Int) ≤ (ai : Int) := by omega
      have z1 : (0 : Int) ≤ (bi : Int) := by omega
      have z2 : (0 : Int) ≤ (ci : Int) := by omega
      have z3 : (0 : Int) ≤ (j : Int) := by omega
      have z4 : (0 : Int) ≤ (j : Int) + 1 := by omega
      have z5 : (j : Int) < (m' : Int) + 2 := by omega
      have z6 : (0 : Int) < (m' : Int) + 2 := by omega
      have z7 : 0 < m' + 2 := by omega
      have wf : IntKind.i64.wrap (fv + tv) = fv + tv := by rw [IntKind.wrap_i64]; omega
      have HJ := hid hj
      have hjm : j < m' + 1 := by omega
      clear hpw hj
      go_wp2
      go_region_held3 (fun w' => w'.cell? ⟨g3, 0, none⟩ = some (.int .i64 ai) ∧ w'.cell? ⟨g3, j, none⟩ = some (.int .i64 bi) ∧ w'.cell? ⟨g3, j + 1, none⟩ = some (.int .i64 ci) ∧ w'.cell? ⟨g, ai * 2, none⟩ = some (.int .i64 (px ai)) ∧ w'.cell? ⟨g, ai * 2 + 1, none⟩ = some (.int .i64 (py ai)) ∧ w'.cell? ⟨g, bi * 2, none⟩ = some (.int .i64 (px bi)) ∧ w'.cell? ⟨g, bi * 2 + 1, none⟩ = some (.int .i64 (py bi)) ∧ w'.cell? ⟨g, ci * 2, none⟩ = some (.int .i64 (px ci)) ∧ w'.cell? ⟨g, ci * 2 + 1, none⟩ = some (.int .i64 (py ci))) (go_keep)
        ((go_at_call 23; refine (K1.out _).mono ?_; rintro e w6' ⟨rfl, hb6⟩; have u1 := (hb6.cell (p := ⟨g, ai * 2, none⟩) gl).trans xa; have u2 := (hb6.cell (p := ⟨g, ai * 2 + 1, none⟩) gl).trans ya; have u3 := (hb6.cell (p := ⟨g, bi * 2, none⟩) gl).trans xb; have u4 := (hb6.cell (p := ⟨g, bi * 2 + 1, none⟩) gl).trans yb; have u5 := (hb6.cell (p := ⟨g, ci * 2, none⟩) gl).trans xc; have u6 := (hb6.cell (p := ⟨g, ci * 2 + 1, none⟩) gl).trans yc; have v0 := (hb6.cell (p := ⟨g3, 0, none⟩) gt).trans d0; have v1 := (hb6.cell (p := ⟨g3, j, none⟩) gt).trans d1; have v2 := (hb6.cell (p := ⟨g3, j + 1, none⟩) gt).trans d2; have HB6' := hid hb6; clear hb6))
      clear u1 u2 u3 u4 u5 u6 v0 v1 v2 xa ya xb yb xc yc d0 d1 d2
      go_wp2
      go_roundw
      case rel => exact ⟨t + 1, j + 1, by omega, by rw [HJ.out], by go_num, by rw [FN.out], hid (HB.out.drew.trans (HB6'.out.mono HB.out.size))⟩
      case measure => simp [intOf]; omega
    · have htm : t = m' := by omega
      subst htm
      have HB8 := hid (HB7.out.trans (HB.out.mono HB7.out.size))
      have BLW : Hid (∀ W, Below wr.heap.size wr W → Below w7.heap.size w7 W) := hid (fun W hW => HB.out.trans (hW.mono HB.out.size))
      have FO := hid (HT.out.lists.fill HM.out.mesh HM.out.cor (HT.out.row3 HM.out.mesh) _ HM.out.sum)
      have ESU : Hid (su px py (dA d) (dB d) (dC d) k = fanI px py hs' t) := hid (by rw [HKK.out, FO.out.sum, ← EHS.out, ← HMM.out]; rfl)
      have S1 : Hid (∀ W, Below wr.heap.size wr W → Calls Tryz.prog 16 #[.slice (some ⟨g, 0, none⟩) n cp, .slice (some ⟨g2, 0, none⟩) k cp2] W fun e w' => e = .returned (.bool true) ∧ Below W.heap.size W w') := hid (fun W hW => by
        rw [HKK.out]
        exact sane_any px py n g 0 cp d.size cp2 (some ⟨g2, 0, none⟩) (dz d) (dA d) (dB d) (dC d) W (HP7.out.below (BLW.out W hW) HP7.out.lt) (fun _ => ⟨g2, 0, rfl, HTR7.out.below (BLW.out W hW)⟩) (by rw [← HKK.out]; omega) BDS.out (HT.out.row3 HM.out.mesh) (fun i hi => (HT.out.lists.tri i hi).2) (fun i hi => HM.out.mesh.pos _ _ _ (HT.out.lists.tri i hi).1))
      have A1 : Hid (∀ W, Below wr.heap.size wr W → Calls Tryz.prog 28 #[.slice (some ⟨g, 0, none⟩) n cp, .slice (some ⟨g2, 0, none⟩) k cp2] W fun e w' => e = .returned (.int .i64 (fanI px py hs' t)) ∧ Below W.heap.size W w') := hid (fun W hW => by
        rw [← ESU.out]
        have := karea_any px py n g cp g2 d.size cp2 (dz d) (dA d) (dB d) (dC d) W (HP7.out.below (BLW.out W hW) HP7.out.lt) (HTR7.out.below (BLW.out W hW)) (by rw [← HKK.out]; exact hd) BDS.out (HT.out.row3 HM.out.mesh)
        rw [← HKK.out] at this
        exact this)
      rcases HU.out with ⟨rfl, _, g4, cp4, d4, M4, hs4, rfl, hd4, ht4, hT4, hM4, _⟩ | ⟨rfl, _, rfl⟩
      · have INJ : Geo.Inj px py n := fun i j hi hj e1 e2 => Classical.byContradiction fun q => HS.out.ne i j hi hj q ⟨e1, e2⟩
        have EK : d4.size = k := by
          have c1 := HM.out.count hn3 HS.out.ref INJ HT.out.lists
          have c2 := hM4.count hn3 HS.out.ref INJ hT4.lists
          have := HKK.out
          omega
        have HT4 := hid (ht4.below H67.out)
        have FO4 := hid (hT4.lists.fill hM4.mesh hM4.cor (hT4.row3 hM4.mesh) _ hM4.sum)
        have EH4 : Hid (hs' = hs4) := hid (hs_one hM4 HOS.out)
        have ES4 : Hid (su px py (dA d4) (dB d4) (dC d4) d4.size = fanI px py hs' t) := hid (by rw [FO4.out.sum, ← EH4.out, ← HMM.out]; rfl)
        have S2 : Hid (∀ W, Below wr.heap.size wr W → Calls Tryz.prog 16 #[.slice (some ⟨g, 0, none⟩) n cp, .slice (some ⟨g4, 0, none⟩) d4.size cp4] W fun e w' => e = .returned (.bool true) ∧ Below W.heap.size W w') := hid (fun W hW =>
          sane_any px py n g 0 cp d4.size cp4 (some ⟨g4, 0, none⟩) (dz d4) (dA d4) (dB d4) (dC d4) W (HP7.out.below (BLW.out W hW) HP7.out.lt) (fun _ => ⟨g4, 0, rfl, HT4.out.below (BLW.out W hW)⟩) (by omega) BDS.out (hT4.row3 hM4.mesh) (fun i hi => (hT4.lists.tri i hi).2) (fun i hi => hM4.mesh.pos _ _ _ (hT4.lists.tri i hi).1))
        have A2 : Hid (∀ W, Below wr.heap.size wr W → Calls Tryz.prog 28 #[.slice (some ⟨g, 0, none⟩) n cp, .slice (some ⟨g4, 0, none⟩) d4.size cp4] W fun e w' => e = .returned (.int .i64 (fanI px py hs' t)) ∧ Below W.heap.size W w') := hid (fun W hW => by
          rw [← ES4.out]
          exact karea_any px py n g cp g4 d4.size cp4 (dz d4) (dA d4) (dB d4) (dC d4) W (HP7.out.below (BLW.out W hW) HP7.out.lt) (HT4.out.below (BLW.out W hW)) hd4 BDS.out (hT4.row3 hM4.mesh))
        rw [EK] at S2 A2 ⊢
        obtain ⟨fv, hfv⟩ : ∃ x, x = fanI px py hs' t := ⟨_, rfl⟩
        rw [← hfv] at A1 A2 ⊢
        clear HU hfv ht4 hT4 hM4 hd4 EK INJ FO4 EH4 ES4
        go_wp2_with fail
        refine (S1.out wr (Below.refl _ _)).mono ?_
        rintro e w8 ⟨rfl, hb8⟩
        have B8 := hid hb8
        clear hb8
        go_wp2_with fail
        refine (S2.out w8 B8.out).mono ?_
        rintro e w9 ⟨rfl, hb9⟩
        have B9 := hid (B8.out.trans (hb9.mono B8.out.size))
        clear hb9
        go_wp2_with fail
        refine (A1.out w9 B9.out).mono ?_
        rintro e w10 ⟨rfl, hb10⟩
        have B10 := hid (B9.out.trans (hb10.mono B9.out.size))
        clear hb10
        go_wp2_with fail
        refine (A2.out w10 B10.out).mono ?_
        rintro e w11 ⟨rfl, hb11⟩
        have B11 := hid (B10.out.trans (hb11.mono B10.out.size))
        clear hb11
        go_wp2_with fail
        go_ret
        exact ⟨rfl, HB8.out.trans (B11.out.mono HB8.out.size)⟩
      · have S2 : Hid (∀ W, Below wr.heap.size wr W → Calls Tryz.prog 16 #[.slice (some ⟨g, 0, none⟩) n cp, .slice none 0 0] W fun e w' => e = .returned (.bool true) ∧ Below W.heap.size W w') := hid (fun W hW =>
          sane_any px py n g 0 cp 0 0 none [] (fun _ => 0) (fun _ => 0) (fun _ => 0) W (HP7.out.below (BLW.out W hW) HP7.out.lt) (fun h => by omega) (by omega) BDS.out ⟨fun i hi => by omega, fun i hi => by omega⟩ (fun i hi => by omega) (fun i hi => by omega))
        obtain ⟨fv, hfv⟩ : ∃ x, x = fanI px py hs' t := ⟨_, rfl⟩
        rw [← hfv] at A1 ⊢
        clear HU hfv
        go_wp2_with fail
        refine (S1.out wr (Below.refl _ _)).mono ?_
        rintro e w8 ⟨rfl, hb8⟩
        have B8 := hid hb8
        clear hb8
        go_wp2_with fail
        refine (S2.out w8 B8.out).mono ?_
        rintro e w9 ⟨rfl, hb9⟩
        have B9 := hid (B8.out.trans (hb9.mono B8.out.size))
        clear hb9
        go_wp2_with fail
        refine (A1.out w9 B9.out).mono ?_
        rintro e w10 ⟨rfl, hb10⟩
        have B10 := hid (B9.out.trans (hb10.mono B9.out.size))
        clear hb10
        go_wp2_with fail
        go_ret
        exact ⟨rfl, HB8.out.trans (B10.out.mono HB8.out.size)⟩
end Go.Proofs.YtdbebbbceeopaaaGreat
