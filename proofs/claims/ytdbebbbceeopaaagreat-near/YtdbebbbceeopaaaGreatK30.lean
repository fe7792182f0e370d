import Derived.Test.YtdbebbbceeopaaaGreatK29
import Derived.Test.YtdbebbbceeopaaaGreatK26
import Derived.Test.YtdbebbbceeopaaaGreatK27
set_option linter.unusedSimpArgs false
namespace Go.Proofs.YtdbebbbceeopaaaGreat
open Go.RowKit Go.Maps
open Go.Sort (SortedIn)
open Geo (up bad lift Mesh Cor Quad flipM Inj Sd)

/-- Of a mesh with lines: each is a side, and every other is as round as can be. -/
structure Lnd (px py : Nat → Int) (M : Nat → Nat → Option Nat) (ys : List (Nat × Nat)) : Prop where
  jo : ∀ y ∈ ys, Joined M y.1 y.2
  rd : ∀ u v c d, M u v = some c → M v u = some d → (¬ ∃ y ∈ ys, (y.1 = u ∧ y.2 = v) ∨ (y.1 = v ∧ y.2 = u)) → Geo.Wn px py u v c d ≤ 0

theorem up_eq {a b u v : Nat} (h : up a b = up u v) : (a = u ∧ b = v) ∨ (a = v ∧ b = u) := by
  rcases up_is a b with h1 | h1 <;> rcases up_is u v with h2 | h2 <;> rw [h1, h2] at h <;> simp only [Prod.mk.injEq] at h <;> omega

theorem lnd_of {px py : Nat → Int} {M : Nat → Nat → Option Nat} {ys ls : List (Nat × Nat)} (hbad : ∀ u v, bad px py (okL ls) (lift px py) M u v = false) (hj : ∀ x ∈ ls, Joined M x.1 x.2) (h1 : ∀ y ∈ ys, up y.1 y.2 ∈ ls) (h2 : ∀ x ∈ ls, ∃ y ∈ ys, x = up y.1 y.2) : Lnd px py M ys := by
  refine ⟨fun y hy => ?_, fun u v c d e1 e2 hn => ?_⟩
  · have := hj _ (h1 y hy)
    rcases up_is y.1 y.2 with h | h <;> rw [h] at this
    · exact this
    · exact this.symm
  · have ok : okL ls u v = true := by
      unfold okL
      rw [Bool.not_eq_true', ← Bool.not_eq_true]
      intro hc
      have hm : up u v ∈ ls := by simpa using hc
      obtain ⟨y, hy, e⟩ := h2 _ hm
      exact hn ⟨y, hy, up_eq e.symm⟩
    have := hbad u v
    rw [bad_some e1 e2, ok, Geo.Wg_lift] at this
    have k : ¬ 0 < Geo.Wn px py u v c d := by
      intro k
      rw [decide_eq_true k] at this
      cases this
    exact Int.not_lt.1 k

set_option maxRecDepth 100000 in
set_option maxHeartbeats 2000000 in
theorem bound_lines (px py : Nat → Int) (n : Nat) [NeZero n] (qb qo cap lcap : Nat) (la : Option Addr) (xs : List (Int × Int)) (w : World) (hp : Pts w qb qo n px py) (h3 : 3 ≤ n) (hn : n ≤ 40) (hcap : n ≤ cap) (hr : refI px py n = 0) (hl : LnI w la xs) (hlc : xs.length ≤ lcap) (hlr : lineI px py n xs = 0) :
    Calls Tryz.prog 25 #[.slice (some ⟨qb, qo, none⟩) n cap, .slice la xs.length lcap] w fun e w' => Below w.heap.size w w' ∧ ∃ (g cp : Nat) (d : Array T3) (M : Nat → Nat → Option Nat) (hs : List Nat), e = .returned (.tuple #[.slice (some ⟨g, 0, none⟩) d.size cp, .int .i64 0]) ∧ w.heap.size ≤ g ∧ d.size ≤ 1600 ∧ w'.ownsRow w.heap.size 46 3 (.slice (some ⟨g, 0, none⟩) d.size cp) d.size (flat3 d.toList) ∧ Tris M d ∧ Msh px py n M hs ∧ Lnd px py M (toN xs) := by
  have c1 := refusal_any px py n qb qo cap w hp h3 hn hcap
  rw [hr] at c1
  have C1 := hid c1
  have HP := hid hp
  have LO := lineI_ok hlr
  have HLO := hid LO
  have HL := hid hl
  have hx20 := LO.1
  have hA : allB px py n = true := by
    cases h : allB px py n with
    | true => rfl
    | false => simp [refI, h] at hr
  have hbd : ∀ i, i < n → (-1000 ≤ px i ∧ px i ≤ 1000) ∧ (-1000 ≤ py i ∧ py i ≤ 1000) := by
    intro i hi
    have := (allB_iff px py n).1 hA i hi
    exact ⟨(near_iff _).1 this.1, (near_iff _).1 this.2⟩
  have HBD := hid hbd
  have HRR := hid hr
  have HLR := hid hlr
  obtain ⟨k, hk⟩ : ∃ k, k = xs.length := ⟨_, rfl⟩
  have HK := hid hk
  rw [← hk] at hx20 hlc ⊢
  clear hp c1 hr hA hbd LO hl hlr hk
  go_enter Tryz.func25, Tryz.ntmps25
  go_wp2_with fail
  refine C1.out.mono ?_
  rintro e w1 ⟨rfl, hb1⟩
  have c2 := lineRef_any px py n qb qo cap lcap la xs w1 (HP.out.below hb1 HP.out.lt) hn HBD.out (HL.out.below hb1) (by rw [← HK.out]; omega) (by rw [← HK.out]; exact hlc)
  rw [HLR.out, ← HK.out] at c2
  have C2 := hid c2
  have HB1 := hid hb1
  clear C1 hb1 c2
  go_wp2_with fail
  refine C2.out.mono ?_
  rintro e w2 ⟨rfl, hb2⟩
  have HB2 := hid (HB1.out.trans (hb2.mono HB1.out.size))
  have c3 := hid (places_any px py n qb qo cap w2 (HP.out.below HB2.out HP.out.lt) hn HBD.out)
  clear C2 hb2 HB1
  go_wp2_with fail
  refine c3.out.mono ?_
  rintro e w3 ⟨rfl, hb3, hp3⟩
  have HB3 := hid (HB2.out.trans (hb3.mono HB2.out.size))
  have PL3 := hid hp3.lt
  have c4 := hid (new_any px py n w2.heap.size 0 n w3 hp3 hn)
  clear c3 hb3 hp3
  go_wp2_with fail
  refine c4.out.mono ?_
  rintro e w4 ⟨mb, bm, rfl, hmb, hbm, hb4, dd, hdd, hperm, hsort, hM4⟩
  have HB4 := hid (HB3.out.trans (hb4.mono HB3.out.size))
  have MS := hid (msh0 h3 hn HRR.out hdd hperm hsort)
  have OD := hid (ord0 h3 HRR.out hdd hperm hsort)
  have HMB := hid (And.intro hmb hbm)
  have c5 := drawAll_any mb bm w2.heap.size 0 n n lcap px py _ la (toN xs) w4 hn (hM4.tight MS.out.mesh hn) MS.out.mesh MS.out.cor (refI_inj HRR.out) (by have := PL3.out; omega) ((HL.out.below HB4.out).toN HLO.out.2.1) (by rw [toN_len, ← HK.out]; omega) HLO.out.2.2
  rw [toN_len, ← HK.out] at c5
  have C5 := hid c5
  clear c4 hb4 hM4 hperm hsort hdd hmb hbm c5
  go_wp2_with fail
  refine C5.out.mono ?_
  rintro e w5 ⟨rfl, M5, lv, ls, hM5, hd5, hm5, hc5, hr5, hls5, hj5, hu5, hv5⟩
  have HB5 : Hid (Below w.heap.size w w5) := hid (HB4.out.trans ⟨hd5.os, hd5.tape, hd5.output, hd5.size, fun k hk => hd5.block k (by have := HB4.out.size; omega) (by have := HMB.out.1; have := HB3.out.size; omega) (by have := HMB.out.2; have := HB3.out.size; omega) (fun e => by cases e)⟩)
  have HJ := hid (And.intro hu5 hv5)
  have sum5 : Sd n M5 (fun u v _ => Geo.c2 px py u v) = fanI px py (hullOf (T px py) (nums dd)) ((hullOf (T px py) (nums dd)).length - 2) := by
    have key : ∀ M, Geo.Reach px py n (mesh0 px py (nums dd)) M → Sd n M (fun u v _ => Geo.c2 px py u v) = Sd n (mesh0 px py (nums dd)) (fun u v _ => Geo.c2 px py u v) := by
      exact fun M h => h (fun M => Sd n M (fun u v _ => Geo.c2 px py u v) = Sd n (mesh0 px py (nums dd)) (fun u v _ => Geo.c2 px py u v)) rfl fun M a b c d ih hm q => by rw [sum_flip hm q, ih]
    rw [key M5 hr5]
    exact MS.out.sum
  have c6 := hid (round_any mb bm w2.heap.size 0 n n px py M5 lv ls (fun M => (Sd n M (fun u v _ => Geo.c2 px py u v) = fanI px py (hullOf (T px py) (nums dd)) ((hullOf (T px py) (nums dd)).length - 2) ∧ Geo.Reach px py n (mesh0 px py (nums dd)) M) ∧ ∀ x ∈ ls, Joined M x.1 x.2) w5 hn hM5 (by omega) hm5 hc5 ⟨⟨sum5, hr5⟩, hj5⟩ (fun M a b c d hm q hok hk => ⟨⟨by rw [sum_flip hm q]; exact hk.1.1, .flip hk.1.2 hm q⟩, fun x hx => by
    have nup : up a b ∉ ls := by
      intro h
      unfold okL at hok
      rw [Bool.not_eq_true', ← Bool.not_eq_true] at hok
      exact hok (by simpa using h)
    obtain ⟨y, _, ey⟩ := hv5 x hx
    have ux : up x.1 x.2 = x := by
      rw [ey]
      unfold up
      ext <;> dsimp only <;> omega
    refine joined_flip (hk.2 x hx) (fun e => nup ?_) (fun e => nup ?_)
    · rw [← e.1, ← e.2, ux]; exact hx
    · have : up a b = up x.1 x.2 := by rw [e.1, e.2]; unfold up; rw [Nat.min_comm, Nat.max_comm]
      rw [this, ux]; exact hx⟩))
  clear C5 hM5 hd5 hm5 hc5 hr5 hls5 hj5 hu5 hv5 sum5
  go_wp2_with fail
  refine c6.out.mono ?_
  rintro e w6 ⟨rfl, hg6, M, hM6, hm6, hc6, hk6, hbad⟩
  have HB6 := hid (HB5.out.grown hg6 HB5.out.size (fun k e => by have := Option.some.inj e; have := HMB.out.2; have := HB3.out.size; omega))
  have c7 := hid (trianglesM_any mb bm 1600 w2.heap.size 0 n n px py M lv ls w6 hM6 (Nat.le_refl _) (fun a b c e => ⟨(hm6.lts e).1, (hm6.lts e).2.1⟩) hn (one_tri hm6 hc6 (by omega)))
  have MS6 : Hid (Msh px py n M (hullOf (T px py) (nums dd))) := hid ⟨hm6, hc6, hk6.1.1, MS.out.hull, MS.out.hl, MS.out.hlen, MS.out.h3, ⟨nums dd, OD.out, rfl, hk6.1.2⟩⟩
  have LC := hid (lnd_of hbad hk6.2 HJ.out.1 HJ.out.2)
  clear c6 hg6 hM6 hm6 hc6 hk6 hbad
  go_wp2_with fail
  refine c7.out.mono ?_
  rintro e w7 ⟨hb7, g, cp, d, rfl, hg7, hd7, ho7, ht7⟩
  have HB7 := hid (HB6.out.trans (hb7.mono HB6.out.size))
  have HO7 : Hid (w7.ownsRow w.heap.size 46 3 (.slice (some ⟨g, 0, none⟩) d.size cp) d.size (flat3 d.toList)) := hid ⟨ho7.1, by
    rcases ho7.2 with h2 | ⟨g', cap', cur, k1, k2, k3⟩
    · exact .inl h2
    · exact .inr ⟨g', cap', cur, k1, Nat.le_trans HB6.out.size k2, k3⟩⟩
  have HG7 := hid (Nat.le_trans HB6.out.size hg7)
  have HT7 := hid ht7
  have HD7 := hid hd7
  clear c7 hb7 hg7 hd7 ho7 ht7
  go_wp2_with fail
  go_ret2
  exact ⟨HB7.out, g, cp, d, M, _, rfl, HG7.out, HD7.out, HO7.out, HT7.out, MS6.out, LC.out⟩
end Go.Proofs.YtdbebbbceeopaaaGreat

set_option linter.unusedSimpArgs false
namespace Go.Proofs.YtdbebbbceeopaaaGreat
open Go.RowKit

set_option maxRecDepth 100000 in
set_option maxHeartbeats 2000000 in
theorem karea_any (px py : Nat → Int) (n g cap g2 m cp2 : Nat) (z : List Int) (A B C : Nat → Nat) (w : World) (hp : Pts w g 0 n px py) (ht : Trs w g2 0 m z) (hm : m ≤ 1600) (hbd : Bds n px py) (hr : Row3 n m z A B C) :
    Calls Tryz.prog 28 #[.slice (some ⟨g, 0, none⟩) n cap, .slice (some ⟨g2, 0, none⟩) m cp2] w fun e w' => e = .returned (.int .i64 (su px py A B C m)) ∧ Below w.heap.size w w' := by
  have HP := hid hp
  have HT := hid ht
  have HBD := hid hbd
  have HR := hid hr
  have HF := hid (su_bd hbd (m := m) hr.a)
  clear hp ht hbd hr
  go_enter Tryz.func28, Tryz.ntmps28
  go_wp2_with fail
  go_loopw [5, 6] (fun s i wr => ∃ k : Nat, k ≤ m ∧ i = .int .i64 k ∧ s = .int .i64 (su px py A B C k) ∧ Hid (Below w.heap.size w wr)) (fun _ i _ => m - (intOf i).toNat)
  case atStart => exact ⟨0, Nat.zero_le _, rfl, rfl, hid (Below.refl _ _)⟩
  case round =>
    obtain ⟨k, hk, rfl, rfl, HB⟩ := hrel
    by_cases hlt : k < m
    · have hlt' : (k : Int) < m := by omega
      obtain ⟨d0, d1, d2⟩ := (HT.out.below HB.out).2 k hlt
      obtain ⟨y0, y1, y2⟩ := HR.out.z k hlt
      rw [y0, Nat.zero_add] at d0
      rw [y1, Nat.zero_add] at d1
      rw [y2, Nat.zero_add] at d2
      obtain ⟨l0, l1, l2⟩ := HR.out.a k hlt
      have bd := HF.out k (by omega)
      have FN : Hid (su px py A B C (k + 1) = su px py A B C k + T px py (A k) (B k) (C k)) := hid rfl
      generalize A k = a at *
      generalize B k = b at *
      generalize C k = c at *
      have hpw := HP.out.below HB.out HP.out.lt
      have xa := hpw.x a l0
      have ya := hpw.y a l0
      have xb := hpw.x b l1
      have yb := hpw.y b l1
      have xc := hpw.x c l2
      have yc := hpw.y c l2
      rw [Nat.zero_add] at xa ya xb yb xc yc
      have gl := hpw.lt
      have gt : g2 < wr.heap.size := (HT.out.below HB.out).1
      have tb := T_bd HBD.out l0 l1 l2
      have B6 : Bd6 (px a) (py a) (px b) (py b) (px c) (py c) := ⟨bd4 HBD.out l0 l1, (HBD.out c l2).1, (HBD.out c l2).2⟩
      have K1 := hid (fun W => turn_6 (px a) (py a) (px b) (py b) (px c) (py c) W B6)
      have et : tw (px a) (py a) (px b) (py b) (px c) (py c) = T px py a b c := rfl
      rw [et] at K1
      clear et B6
      generalize T px py a b c = t at *
      generalize su px py A B C k = f at *
      have a' : (a : Int) < n := by omega
      have b' : (b : Int) < n := by omega
      have c' : (c : Int) < n := by omega
      have z0 : (0 : Int) ≤ (a : Int) := by omega
      have z1 : (0 : Int) ≤ (b : Int) := by omega
      have z2 : (0 : Int) ≤ (c : Int) := by omega
      have z3 : (0 : Int) ≤ (k : Int) := by omega
      have wf : IntKind.i64.wrap (f + t) = f + t := by rw [IntKind.wrap_i64]; omega
      clear hpw y0 y1 y2
      go_wp2_with fail
      go_region_held3 (fun w' => w'.cell? ⟨g2, k * 3, none⟩ = some (.int .i64 a) ∧ w'.cell? ⟨g2, k * 3 + 1, none⟩ = some (.int .i64 b) ∧ w'.cell? ⟨g2, k * 3 + 2, none⟩ = some (.int .i64 c) ∧ w'.cell? ⟨g, a * 2, none⟩ = some (.int .i64 (px a)) ∧ w'.cell? ⟨g, a * 2 + 1, none⟩ = some (.int .i64 (py a)) ∧ w'.cell? ⟨g, b * 2, none⟩ = some (.int .i64 (px b)) ∧ w'.cell? ⟨g, b * 2 + 1, none⟩ = some (.int .i64 (py b)) ∧ w'.cell? ⟨g, c * 2, none⟩ = some (.int .i64 (px c)) ∧ w'.cell? ⟨g, c * 2 + 1, none⟩ = some (.int .i64 (py c))) (go_keep)
        ((go_at_call 23; refine (K1.out _).mono ?_; rintro e w6 ⟨rfl, hb6⟩; have u1 := (hb6.cell (p := ⟨g, a * 2, none⟩) gl).trans xa; have u2 := (hb6.cell (p := ⟨g, a * 2 + 1, none⟩) gl).trans ya; have u3 := (hb6.cell (p := ⟨g, b * 2, none⟩) gl).trans xb; have u4 := (hb6.cell (p := ⟨g, b * 2 + 1, none⟩) gl).trans yb; have u5 := (hb6.cell (p := ⟨g, c * 2, none⟩) gl).trans xc; have u6 := (hb6.cell (p := ⟨g, c * 2 + 1, none⟩) gl).trans yc; have v0 := (hb6.cell (p := ⟨g2, k * 3, none⟩) gt).trans d0; have v1 := (hb6.cell (p := ⟨g2, k * 3 + 1, none⟩) gt).trans d1; have v2 := (hb6.cell (p := ⟨g2, k * 3 + 2, none⟩) gt).trans d2; have HB6 := hid hb6; clear hb6))
      clear u1 u2 u3 u4 u5 u6 v0 v1 v2 xa ya xb yb xc yc d0 d1 d2
      go_wp2_with fail
      go_roundw
      case rel => exact ⟨k + 1, by omega, by go_num, by rw [FN.out], hid (HB.out.drew.trans (HB6.out.mono HB.out.size))⟩
      case measure => simp [intOf]; omega
    · have hkm : k = m := by omega
      subst hkm
      go_wp2_with fail
      go_ret
      exact ⟨rfl, HB.out⟩
end Go.Proofs.YtdbebbbceeopaaaGreat

set_option linter.unusedSimpArgs false
namespace Go.Proofs.YtdbebbbceeopaaaGreat
open Go.RowKit

/-- Does the point lie on a line through one of the first k sides of the hull? -/
def onB (px py : Nat → Int) (hs : List Nat) (i : Nat) : Nat → Bool
  | 0 => false
  | k + 1 => onB px py hs i k || decide (T px py (hs.getD k 0) (hs.getD ((k + 1) % hs.length) 0) i = 0)

/-- How many of the first points do? -/
def rimI (px py : Nat → Int) (hs : List Nat) : Nat → Int
  | 0 => 0
  | i + 1 => rimI px py hs i + (if onB px py hs i hs.length then 1 else 0)

theorem rimI_bd (px py : Nat → Int) (hs : List Nat) : ∀ k : Nat, 0 ≤ rimI px py hs k ∧ rimI px py hs k ≤ k
  | 0 => by simp [rimI]
  | k + 1 => by
    have := rimI_bd px py hs k
    unfold rimI
    split <;> push_cast <;> omega

set_option maxRecDepth 100000 in
set_option maxHeartbeats 2000000 in
theorem rim_any (px py : Nat → Int) (n g cap g3 cp3 : Nat) (hs : List Nat) (w : World) (hn : n ≤ 40) (hp : Pts w g 0 n px py) (hbd : Bds n px py) (h3 : 3 ≤ hs.length) (hlen : hs.length ≤ 100) (hg : g3 < w.heap.size) (hc : ∀ j, j < hs.length → w.cell? ⟨g3, j, none⟩ = some (.int .i64 (hs.getD j 0 : Nat))) (hl : ∀ j, j < hs.length → hs.getD j 0 < n) :
    Calls Tryz.prog 27 #[.slice (some ⟨g, 0, none⟩) n cap, .slice (some ⟨g3, 0, none⟩) hs.length cp3] w fun e w' => e = .returned (.int .i64 (rimI px py hs n)) ∧ Below w.heap.size w w' := by
  have HP := hid hp
  have HBD := hid hbd
  have HC := hid hc
  have HL := hid hl
  have HRB := hid (rimI_bd px py hs)
  obtain ⟨m, hm⟩ : ∃ m, m = hs.length := ⟨_, rfl⟩
  have HM := hid hm
  rw [← hm] at HC HL h3 hlen ⊢
  clear hp hbd hc hl hm
  go_enter Tryz.func27, Tryz.ntmps27
  go_wp2_with fail
  go_loopw [5, 6] (fun s i wr => ∃ k : Nat, k ≤ n ∧ i = .int .i64 k ∧ s = .int .i64 (rimI px py hs k) ∧ Hid (Below w.heap.size w wr)) (fun _ i _ => n - (intOf i).toNat)
  case atStart => exact ⟨0, Nat.zero_le _, rfl, rfl, hid (Below.refl _ _)⟩
  case round =>
    obtain ⟨i, hi, rfl, rfl, HB⟩ := hrel
    by_cases hlt : i < n
    · have hlt' : (i : Int) < n := by omega
      obtain ⟨wr0, hwr0⟩ : ∃ wr0, wr0 = wr := ⟨_, rfl⟩
      have HB0 : Hid (Below w.heap.size w wr0) := by rw [hwr0]; exact HB
      rw [← hwr0]
      clear HB hwr0
      go_wp2_with fail
      go_loopw [7, 8] (fun s j wr => ∃ k : Nat, k ≤ m ∧ j = .int .i64 k ∧ s = .bool (onB px py hs i k) ∧ Hid (Below w.heap.size w wr)) (fun _ j _ => m - (intOf j).toNat)
      case atStart => exact ⟨0, Nat.zero_le _, rfl, rfl, HB0⟩
      case round =>
        obtain ⟨k, hk, rfl, rfl, HB⟩ := hrel
        by_cases hkm : k < m
        · have hkm' : (k : Int) < m := by omega
          obtain ⟨i1, hi1⟩ : ∃ i1, i1 = (k + 1) % m := ⟨_, rfl⟩
          have li1 : i1 < m := by rw [hi1]; exact Nat.mod_lt _ (by omega)
          have m1 : ((k : Int) + 1) % (m : Int) = (i1 : Int) := by rw [hi1]; push_cast; rfl
          have HON : Hid (onB px py hs i (k + 1) = (onB px py hs i k || decide (T px py (hs.getD k 0) (hs.getD i1 0) i = 0))) := hid (by rw [hi1, HM.out]; rfl)
          have na := HL.out k hkm
          have nb := HL.out i1 li1
          have ca := (HB.out.cell (p := ⟨g3, k, none⟩) hg).trans (HC.out k hkm)
          have cb := (HB.out.cell (p := ⟨g3, i1, none⟩) hg).trans (HC.out i1 li1)
          clear hi1
          obtain ⟨ai, hai⟩ : ∃ ai, ai = hs.getD k 0 := ⟨_, rfl⟩
          obtain ⟨bi, hbi⟩ : ∃ bi, bi = hs.getD i1 0 := ⟨_, rfl⟩
          rw [← hai] at na ca HON
          rw [← hbi] at nb cb HON
          clear hai hbi
          have hpw := HP.out.below HB.out HP.out.lt
          have xa := hpw.x ai na
          have ya := hpw.y ai na
          have xb := hpw.x bi nb
          have yb := hpw.y bi nb
          have xc := hpw.x i hlt
          have yc := hpw.y i hlt
          rw [Nat.zero_add] at xa ya xb yb xc yc
          have gl := hpw.lt
          have gl3 : g3 < wr.heap.size := Nat.lt_of_lt_of_le hg HB.out.size
          have B6 : Bd6 (px ai) (py ai) (px bi) (py bi) (px i) (py i) := ⟨bd4 HBD.out na nb, (HBD.out i hlt).1, (HBD.out i hlt).2⟩
          have K1 := hid (fun W => turn_6 (px ai) (py ai) (px bi) (py bi) (px i) (py i) W B6)
          have et : tw (px ai) (py ai) (px bi) (py bi) (px i) (py i) = T px py ai bi i := rfl
          rw [et] at K1
          clear et B6
          generalize T px py ai bi i = t at *
          have a' : (ai : Int) < n := by omega
          have b' : (bi : Int) < n := by omega
          have l1' : (i1 : Int) < m := by omega
          have q1 : (0 : Int) ≤ (k : Int) := by omega
          have q2 : (0 : Int) ≤ (i1 : Int) := by omega
          have q3 : (0 : Int) ≤ (ai : Int) := by omega
          have q4 : (0 : Int) ≤ (bi : Int) := by omega
          have y2 : IntKind.i64.wrap ((k : Int) + 1) = k + 1 := by rw [IntKind.wrap_i64]; omega
          have hm0 : ¬ (m : Int) = 0 := by omega
          have hm0' : ¬ m = 0 := by omega
          have dm : ((m : Int) == 0) = false := by simp; omega
          have tm : Int.tmod ((k : Int) + 1) (m : Int) = (i1 : Int) := by rw [Int.tmod_eq_emod_of_nonneg (by omega)]; exact m1
          have cb' : ∀ o, (wr.alloc o).cell? ⟨g3, i1, none⟩ = some (.int .i64 (bi : Nat)) := fun o => cell_new cb
          have xb' : ∀ o, (wr.alloc o).cell? ⟨g, bi * 2, none⟩ = some (.int .i64 (px bi)) := fun o => cell_new xb
          have yb' : ∀ o, (wr.alloc o).cell? ⟨g, bi * 2 + 1, none⟩ = some (.int .i64 (py bi)) := fun o => cell_new yb
          clear hpw
          go_wp2_with fail
          obtain ⟨W2, hW2⟩ : ∃ W2 : World, W2 = (wr.alloc (.cells #[.int .i64 (px ai), .int .i64 (py ai)] 35)).alloc (.cells #[.int .i64 (px bi), .int .i64 (py bi)] 35) := ⟨_, rfl⟩
          obtain ⟨b0, hb0⟩ : ∃ b0, b0 = wr.heap.size := ⟨_, rfl⟩
          have hsz : W2.heap.size = b0 + 1 + 1 := by rw [hW2, hb0]; simp
          have HB2 : Hid (Below w.heap.size w W2) := hid (by rw [hW2]; exact (HB.out.alloc HB.out.size _).alloc (by have := HB.out.size; simp; omega) _)
          have p0 : W2.cell? ⟨b0, 0, none⟩ = some (.int .i64 (px ai)) := by rw [hW2, hb0, World.cell?_alloc_past _ _ _ (by simp), World.cell?_alloc_at _ _ _ _ (by simp)]; rfl
          have p1 : W2.cell? ⟨b0, 1, none⟩ = some (.int .i64 (py ai)) := by rw [hW2, hb0, World.cell?_alloc_past _ _ _ (by simp), World.cell?_alloc_at _ _ _ _ (by simp)]; rfl
          have p2 : W2.cell? ⟨b0 + 1, 0, none⟩ = some (.int .i64 (px bi)) := by rw [hW2, hb0, World.cell?_alloc_at _ _ _ _ (by simp)]; rfl
          have p3 : W2.cell? ⟨b0 + 1, 1, none⟩ = some (.int .i64 (py bi)) := by rw [hW2, hb0, World.cell?_alloc_at _ _ _ _ (by simp)]; rfl
          have p4 : W2.cell? ⟨g, i * 2, none⟩ = some (.int .i64 (px i)) := by rw [hW2]; exact cell_new (cell_new xc)
          have p5 : W2.cell? ⟨g, i * 2 + 1, none⟩ = some (.int .i64 (py i)) := by rw [hW2]; exact cell_new (cell_new yc)
          have gb0 : b0 < W2.heap.size := by omega
          have gb1 : b0 + 1 < W2.heap.size := by omega
          have gg : g < W2.heap.size := by omega
          rw [← hW2, ← hb0]
          clear hW2 hb0 hsz HB ca cb xa ya xb yb xc yc cb' xb' yb' gl gl3
          obtain ⟨ob, hob⟩ : ∃ ob, ob = onB px py hs i k := ⟨_, rfl⟩
          rw [← hob] at HON ⊢
          clear hob
          cases ob with
          | true =>
            have HR : Hid (onB px py hs i (k + 1) = true) := hid (by rw [HON.out]; rfl)
            clear HON
            go_quiet (fail)
            go_wp2_with fail
            go_roundw
            case rel => exact ⟨k + 1, by omega, by go_num, by rw [HR.out], hid (below_drewN HB2.out _)⟩
            case measure => simp [intOf]; omega
          | false =>
            have HR : Hid (onB px py hs i (k + 1) = decide (t = 0)) := hid (by rw [HON.out]; rfl)
            clear HON
            go_region_held3 (fun W => W.cell? ⟨b0, 0, none⟩ = some (.int .i64 (px ai)) ∧ W.cell? ⟨b0, 1, none⟩ = some (.int .i64 (py ai)) ∧ W.cell? ⟨b0 + 1, 0, none⟩ = some (.int .i64 (px bi)) ∧ W.cell? ⟨b0 + 1, 1, none⟩ = some (.int .i64 (py bi)) ∧ W.cell? ⟨g, i * 2, none⟩ = some (.int .i64 (px i)) ∧ W.cell? ⟨g, i * 2 + 1, none⟩ = some (.int .i64 (py i))) (go_keep)
              ((go_at_call 23; refine (K1.out _).mono ?_; rintro e w6 ⟨rfl, hb6⟩; have v0 := (hb6.cell (p := ⟨b0, 0, none⟩) gb0).trans p0; have v1 := (hb6.cell (p := ⟨b0, 1, none⟩) gb0).trans p1; have v2 := (hb6.cell (p := ⟨b0 + 1, 0, none⟩) gb1).trans p2; have v3 := (hb6.cell (p := ⟨b0 + 1, 1, none⟩) gb1).trans p3; have v4 := (hb6.cell (p := ⟨g, i * 2, none⟩) gg).trans p4; have v5 := (hb6.cell (p := ⟨g, i * 2 + 1, none⟩) gg).trans p5; have HB6 := hid hb6; clear hb6))
            clear v0 v1 v2 v3 v4 v5 p0 p1 p2 p3 p4 p5
            have HR9 : Hid (onB px py hs i (k + 1) = (t == 0)) := hid (by rw [HR.out]; exact (Bool.beq_eq_decide_eq t 0).symm)
            generalize (t == 0) = tv at *
            clear HR
            go_wp2_with fail
            go_roundw
            case rel => exact ⟨k + 1, by omega, by go_num, by rw [HR9.out], hid (HB2.out.drew.trans (HB6.out.mono HB2.out.size))⟩
            case measure => simp [intOf]; omega
        · have hkm : k = m := by omega
          subst hkm
          have HN : Hid (rimI px py hs (i + 1) = rimI px py hs i + (if onB px py hs i k then 1 else 0)) := hid (by rw [HM.out]; rfl)
          have bd := HRB.out i
          obtain ⟨ob, hob⟩ : ∃ ob, ob = onB px py hs i k := ⟨_, rfl⟩
          obtain ⟨rv, hrv⟩ : ∃ rv, rv = rimI px py hs i := ⟨_, rfl⟩
          rw [← hob, ← hrv] at HN
          rw [← hrv] at bd
          rw [← hob]
          clear hob
          cases ob with
          | true =>
            have wf : IntKind.i64.wrap (rv + 1) = rv + 1 := by rw [IntKind.wrap_i64]; omega
            have HN1 : Hid (rimI px py hs (i + 1) = rv + 1) := hid (by rw [HN.out]; rfl)
            clear HN
            rw [hrv] at wf HN1
            clear hrv
            go_wp2_with fail
            go_roundw
            case rel => exact ⟨i + 1, by omega, by go_num, by rw [HN1.out], HB⟩
            case measure => simp [intOf]; omega
          | false =>
            have HN1 : Hid (rimI px py hs (i + 1) = rv) := hid (by rw [HN.out]; simp)
            clear HN
            rw [hrv] at HN1
            clear hrv
            go_wp2_with fail
            go_roundw
            case rel => exact ⟨i + 1, by omega, by go_num, by rw [HN1.out], HB⟩
            case measure => simp [intOf]; omega
    · have hkm : i = n := by omega
      subst hkm
      go_wp2_with fail
      go_ret
      exact ⟨rfl, HB.out⟩
end Go.Proofs.YtdbebbbceeopaaaGreat

namespace Go.Proofs.YtdbebbbceeopaaaGreat
open Geo
variable {px py : Nat → Int} {n : Nat}

/-- A point that is not on the line of a side is not on a line along it. -/
theorem off_same {i a b u v : Nat} (_h1 : Lt Lex px py a b) (h2 : Lt Lex px py u v) (e1 : T px py a b u = 0) (e2 : T px py a b v = 0) (hq : T px py a b i ≠ 0) : T px py u v i ≠ 0 := by
  intro h0
  have i1 : T px py u v i * (px b - px a) = T px py a b i * (px v - px u) := by
    unfold T tw at *
    grind
  have i2 : T px py u v i * (py b - py a) = T px py a b i * (py v - py u) := by
    unfold T tw at *
    grind
  rw [h0, Int.zero_mul] at i1 i2
  rcases Int.mul_eq_zero.1 i1.symm with k | k
  · exact hq k
  rcases Int.mul_eq_zero.1 i2.symm with k' | k'
  · exact hq k'
  unfold Lt Lex at h2
  omega

theorem off_back {i a b u v : Nat} (h1 : Lt Back px py a b) (h2 : Lt Back px py u v) (e1 : T px py a b u = 0) (e2 : T px py a b v = 0) (hq : T px py a b i ≠ 0) : T px py u v i ≠ 0 := by
  rw [lt_back] at h1 h2
  have f : ∀ x y z, T px py y x z = - T px py x y z := fun x y z => by unfold T tw; grind
  have := off_same (i := i) h1 h2 (by rw [f a b]; omega) (by rw [f a b]; omega) (by rw [f a b]; omega)
  rw [f u v] at this
  omega

/-- Who lies on the border lies on the line of one of the hull's sides. -/
theorem Ring.on {os : List Nat} {M : Nat → Nat → Option Nat} {R L : Nat} {s1 q1 s2 q2 : List Nat} (h : Ring px py n os M R L s1 q1 s2 q2) (hm : Mesh px py n M) (hj : Inj px py n) (hc : Cor n M) (hn : ∀ p, p ∈ os ↔ p < n) {i : Nat} (hi : i < n) (hb : Bdr px py n i) :
    ∃ k, k < (hullOf (T px py) os).length ∧ T px py ((hullOf (T px py) os).getD k 0) ((hullOf (T px py) os).getD ((k + 1) % (hullOf (T px py) os).length) 0) i = 0 := by
  refine Classical.byContradiction fun hno => ?_
  have hin : ∀ k, k < (hullOf (T px py) os).length → T px py ((hullOf (T px py) os).getD k 0) ((hullOf (T px py) os).getD ((k + 1) % (hullOf (T px py) os).length) 0) i ≠ 0 := fun k hk h0 => hno ⟨k, hk, h0⟩
  unfold hullOf at hin
  have hh := hull_sides h.w1.stk h.w2.stk (by rw [h.w2.stk, h.w2.lastQ]) (by rw [h.w1.stk, h.w1.lastQ]) h.w1.q0 h.w2.q0 (fun a b => T px py a b i ≠ 0) hin
  rw [h.w1.stk, h.w2.stk] at hh
  have c1 := walk_all half_lex h.tri (fun a b => T px py a b i ≠ 0) (fun a b u v => off_same) _ s1 q1 R (Nat.le_refl _) h.w1.gdS h.w1.gdQ h.w1.memS h.w1.memQ (by rw [h.w1.lastS, h.w1.lastQ]) hh.1
  have c2 := walk_all half_back' h.tri2 (fun a b => T px py a b i ≠ 0) (fun a b u v => off_back) _ s2 q2 L (Nat.le_refl _) h.w2.gdS h.w2.gdQ h.w2.memS h.w2.memQ (by rw [h.w2.lastS, h.w2.lastQ]) hh.2
  have z1 : ∀ v, T px py i v i = 0 := fun v => by unfold T tw; grind
  have z2 : ∀ v, T px py v i i = 0 := fun v => by unfold T tw; grind
  have go : ∀ (s : List Nat) (l : Nat), s ≠ [] → i ∈ l :: s → (∀ u v, Ed (l :: s) u v → T px py u v i ≠ 0) → False := by
    intro s l hs hm hc
    rcases List.mem_cons.1 hm with k | k
    · subst k
      obtain ⟨b, e⟩ := head_ed (l := i) hs
      exact hc _ _ e (z2 b)
    · obtain ⟨v, e⟩ := ed_out s l i k
      exact hc _ _ e (z1 v)
  rcases (h.bdr hm hj hc hn hi).1 hb with k | k
  · exact go s1 R (h.w1.s0 half_lex) k c1
  · exact go s2 L (h.w2.s0 half_back') k c2

theorem onB_iff (hs : List Nat) (i : Nat) : ∀ m, onB px py hs i m = true ↔ ∃ k, k < m ∧ T px py (hs.getD k 0) (hs.getD ((k + 1) % hs.length) 0) i = 0
  | 0 => by simp [onB]
  | m + 1 => by
    unfold onB
    rw [Bool.or_eq_true, onB_iff hs i m, decide_eq_true_iff]
    constructor
    · rintro (⟨k, hk, h⟩ | h)
      · exact ⟨k, by omega, h⟩
      · exact ⟨m, by omega, h⟩
    · rintro ⟨k, hk, h⟩
      by_cases e : k = m
      · subst e; exact .inr h
      · exact .inl ⟨k, by omega, h⟩

theorem rimI_sm (hs : List Nat) : ∀ m, rimI px py hs m = sm m fun i => if onB px py hs i hs.length then 1 else 0
  | 0 => rfl
  | m + 1 => by rw [rimI, sm, rimI_sm hs m]

/-- The law's count of the border's points. -/
theorem rim_bdc {M : Nat → Nat → Option Nat} {hs : List Nat} (h : Msh px py n M hs) (h3 : 3 ≤ n) (hr : refI px py n = 0) (hj : Inj px py n) : rimI px py hs n = bdc px py n := by
  obtain ⟨os, ⟨o3, op, om⟩, rfl, hre⟩ := h.ord
  have hw := refI_Wide h3 hr om
  obtain ⟨s1, q1, s2, q2, R⟩ := ring0 o3 op om hw
  have m0 := mesh0_ok o3 op om hw
  rw [rimI_sm, bdc_eq]
  refine sm_congr fun i hi => ?_
  have key : onB px py (hullOf (T px py) os) i (hullOf (T px py) os).length = true ↔ Bdr px py n i := by
    rw [onB_iff]
    constructor
    · rintro ⟨k, hk, e⟩
      have hk1 : (k + 1) % (hullOf (T px py) os).length < (hullOf (T px py) os).length := Nat.mod_lt _ (by omega)
      refine ⟨_, _, h.hull.lt k hk, h.hull.lt _ hk1, fun e2 => ?_, h.hull.side k hk, e⟩
      have := h.hull.turn k hk
      rw [← e2] at this
      have z : ∀ a c, T px py a a c = 0 := fun a c => by unfold T tw; grind
      rw [z] at this
      omega
    · exact fun hb => R.on m0.1 hj m0.2.1 om hi hb
  by_cases q : Bdr px py n i
  · rw [if_pos q, if_pos (key.2 q)]
  · rw [if_neg q, if_neg (fun e => q (key.1 e))]

/-- The hull's corners, of whatever mesh. -/
theorem hs_one {M : Nat → Nat → Option Nat} {hs hs' : List Nat} (h : Msh px py n M hs) (ho : ∃ os : List Nat, (3 ≤ os.length ∧ os.Pairwise (Geo.Lt Geo.Lex px py) ∧ ∀ p, p ∈ os ↔ p < n) ∧ hs' = hullOf (T px py) os) : hs' = hs := by
  obtain ⟨os', ⟨_, op', om'⟩, rfl⟩ := ho
  obtain ⟨os, ⟨_, op, om⟩, rfl, _⟩ := h.ord
  rw [order_one op' op (fun p => by rw [om, om'])]
end Go.Proofs.YtdbebbbceeopaaaGreat

set_option linter.unusedSimpArgs false
namespace Go.Proofs.YtdbebbbceeopaaaGreat
open Go.RowKit

/-- Lines from one point to others. -/
def Fan (n : Nat) (a : Int) (xs : List (Int × Int)) : Prop := ∀ p ∈ xs, p.1 = a ∧ 0 ≤ p.2 ∧ p.2 < n ∧ p.2 ≠ a

theorem Fan.snoc {n : Nat} {a b : Int} {xs : List (Int × Int)} (h : Fan n a xs) (h0 : 0 ≤ b) (h1 : b < n) (h2 : b ≠ a) : Fan n a (xs ++ [(a, b)]) := by
  intro p hp
  rcases List.mem_append.1 hp with k | k
  · exact h p k
  · simp at k
    subst k
    exact ⟨rfl, h0, h1, h2⟩

/-- A list of lines from one point to others, which lies behind what was. -/
def FanR (n base : Nat) (w' : World) (v : Value) : Prop := ∃ (a : Int) (xs : List (Int × Int)), xs.length ≤ 7 ∧ 0 ≤ a ∧ a < n ∧ Fan n a xs ∧ w'.ownsRow base 54 2 v xs.length (cellsP xs)

theorem new_two' (t : TypeId) (w : World) (a b : Value) : ∀ (j : Nat) (u : Value), [a, b][j]? = some u → (w.alloc (.cells #[a, b] t)).cell? ((⟨w.heap.size, 0, none⟩ : Addr).add j) = some u := by
  intro j u hu
  match j, hu with
  | 0, hu => simp at hu; subst hu; exact World.cell?_alloc_at _ _ _ _ rfl
  | 1, hu => simp at hu; subst hu; exact World.cell?_alloc_at _ _ _ _ rfl
  | j + 2, hu => simp at hu

set_option maxRecDepth 100000 in
set_option maxHeartbeats 2000000 in
theorem fan_nil (x : Option Addr) (n cap : Nat) (w : World) : Calls Tryz.prog 26 #[.int .i64 n, .slice x 0 cap] w fun e w' => e = .returned (.slice none 0 0) ∧ Below w.heap.size w w' := by
  go_enter Tryz.func26, Tryz.ntmps26
  go_wp2_with fail
  go_ret
  exact ⟨rfl, Below.refl _ _⟩

set_option maxRecDepth 100000 in
set_option maxHeartbeats 2000000 in
theorem fan_some (x : Addr) (n len cap : Nat) (zs : List Int) (w : World) (h3 : 3 ≤ n) (hn : n ≤ 40) (h0 : 0 < len) (hcm : len ≤ 17592186043904) (hzl : len ≤ zs.length) (hz : ∀ i, i < zs.length → w.cell? (x.add i) = some (.int .i64 (zs.getD i 0)))
    (hxb : x.block < w.heap.size) (hwz : ∀ n ∈ zs, (Lit.int .i64 n).wf = true) :
    Calls Tryz.prog 26 #[.int .i64 n, .slice (some x) len cap] w fun e w' => ∃ v : Value, e = .returned v ∧ Below w.heap.size w w' ∧ FanR n w.heap.size w' v := by
  obtain ⟨i0, hi, hz0, hz1, hz2⟩ := info_parts Tryz.info54
  have HZ := hid hz
  have HWZ := hid hwz
  have e0 : x.add 0 = x := by cases x with | mk b o t => cases t <;> simp [Addr.add]
  have hc0 := hz 0 (by omega)
  rw [e0] at hc0
  clear e0
  have c1 := hid (pick_any (zs.getD 0 0) n (wf_bd (hwz _ (getD_memI (by omega)))) (by omega) (by omega))
  have pk := pickI_bd (zs.getD 0 0) n (by omega)
  generalize pickI (zs.getD 0 0) n = a at *
  generalize zs.getD 0 0 = z0 at *
  have dl : ((len : Int) == 0) = false := by simp; omega
  have hl0 : (0 : Int) < len := by omega
  clear hz hwz
  go_enter Tryz.func26, Tryz.ntmps26
  go_wp2_with fail
  refine (c1.out _).mono ?_
  rintro e w1 ⟨rfl, rfl⟩
  clear c1 hc0
  go_wp2_with fail
  have H0 := hid (World.ownsRow_nil w1 w1.heap.size 54 2)
  go_loopw [5, 7] (fun l i wr => ∃ (k : Nat) (xs : List (Int × Int)), i = .int .i64 k ∧ 1 ≤ k ∧ k ≤ len ∧ xs.length + 1 ≤ k ∧ k ≤ 8 ∧ Hid (Fan n a xs) ∧ Hid (wr.ownsRow w1.heap.size 54 2 l xs.length (cellsP xs)) ∧ Hid (Below w1.heap.size w1 wr)) (fun _ i _ => len - (intOf i).toNat)
  case atStart => exact ⟨1, [], rfl, Nat.le_refl _, h0, Nat.le_refl _, by omega, hid (fun p hp => by cases hp), H0, hid (Below.refl _ _)⟩
  case round =>
    obtain ⟨k, xs, rfl, hk1, hkl, hkx, hk8, HF, HO, HB⟩ := hrel
    clear H0
    by_cases hlt : k < len
    · by_cases h8 : k < 8
      · have hlt' : (k : Int) < len := by omega
        have h8' : (k : Int) < 8 := by omega
        have hc : wr.cell? (x.add k) = some (.int .i64 (zs.getD k 0)) := by
          rw [HB.out.cell (by rw [addr_block]; exact hxb)]; exact HZ.out k (by omega)
        have c1 := hid (pick_any (zs.getD k 0) n (wf_bd (HWZ.out _ (getD_memI (by omega)))) (by omega) (by omega))
        have pb := pickI_bd (zs.getD k 0) n (by omega)
        generalize pickI (zs.getD k 0) n = b at *
        generalize zs.getD k 0 = zk at *
        go_wp2_with fail
        refine (c1.out _).mono ?_
        rintro e w2 ⟨rfl, rfl⟩
        clear c1
        by_cases hab : b = a
        · have d : (b != a) = false := by simpa using hab
          go_wp2_with fail
          go_roundw
          case rel => exact ⟨k + 1, xs, by go_num, by omega, by omega, by omega, by omega, HF, HO, HB⟩
          case measure => simp [intOf]; omega
        · have d : (b != a) = true := by simpa using hab
          go_wp2_with (at_builtin; go_must (refine wpList_append_own _ rfl _ _ 48 rfl w1.heap.size 54 i0 (.agg #[.int .i64 0, .int .i64 0]) 2 16 Tryz.underlying48 hi hz0 hz1 hz2 rfl (by decide) _ _ _ rfl (HO.out.alloc _) ⟨w2.heap.size, 0, none⟩ 1 1 [.int .i64 a, .int .i64 b] rfl rfl (new_two' 54 w2 _ _) (one_two _ _) ?c3 ?c4 ?c5 ?_))
          case c3 => unfold maxLen; omega
          case c4 => omega
          case c5 => have := HB.out.size; simp; omega
          intro v' w3 hown' hgrow _
          have hb3 : Below w1.heap.size w1 w3 := (HB.out.alloc HB.out.size _).grown hgrow (by have := HB.out.size; simp; omega) (fun q hq => (own_in HO.out q hq).1)
          have HO3 : Hid (w3.ownsRow w1.heap.size 54 2 v' (xs ++ [(a, b)]).length (cellsP (xs ++ [(a, b)]))) := hid (by rw [cellsP_snoc, List.length_append]; exact hown')
          have HB3 := hid hb3
          have HF3 := hid (HF.out.snoc (b := b) (by omega) (by omega) hab)
          clear hown' hgrow hb3
          go_wp2_with fail
          go_roundw
          case rel => exact ⟨k + 1, xs ++ [(a, b)], by go_num, by omega, by omega, by rw [List.length_append, List.length_singleton]; omega, by omega, HF3, HO3, HB3⟩
          case measure => simp [intOf]; omega
      · have h8' : ¬ (k : Int) < 8 := by omega
        have hlt' : (k : Int) < len := by omega
        go_wp2_with fail
        go_ret
        exact ⟨_, rfl, HB.out, a, xs, by omega, by omega, by omega, HF.out, HO.out⟩
    · have hlt' : ¬ (k : Int) < len := by omega
      go_wp2_with fail
      go_ret
      exact ⟨_, rfl, HB.out, a, xs, by omega, by omega, by omega, HF.out, HO.out⟩
end Go.Proofs.YtdbebbbceeopaaaGreat

set_option linter.unusedSimpArgs false
namespace Go.Proofs.YtdbebbbceeopaaaGreat
open Go.RowKit

end Go.Proofs.YtdbebbbceeopaaaGreat

set_option linter.unusedSimpArgs false
namespace Go.Proofs.YtdbebbbceeopaaaGreat
open Go.RowKit

end Go.Proofs.YtdbebbbceeopaaaGreat

set_option linter.unusedSimpArgs false
namespace Go.Proofs.YtdbebbbceeopaaaGreat
open Go.RowKit
open Geo (Mesh)
variable {px py : Nat → Int} {n m : Nat} {M : Nat → Nat → Option Nat} {A B C : Nat → Nat} {z : List Int}

end Go.Proofs.YtdbebbbceeopaaaGreat

set_option linter.unusedSimpArgs false
namespace Go.Proofs.YtdbebbbceeopaaaGreat
open Go.RowKit
open Geo (Mesh)

end Go.Proofs.YtdbebbbceeopaaaGreat

set_option linter.unusedSimpArgs false
namespace Go.Proofs.YtdbebbbceeopaaaGreat
open Go.RowKit

set_option maxHeartbeats 1000000 in
theorem bound_err2 {arg la : Value} {w : World} {x : Int} (hx : x ≠ 0) (hc : Calls Tryz.prog 33 #[arg] w fun e w' => e = .returned (.int .i64 0) ∧ Below w.heap.size w w') (hl : ∀ W, Below w.heap.size w W → Calls Tryz.prog 40 #[arg, la] W fun e w' => e = .returned (.int .i64 x) ∧ Below W.heap.size W w') :
    Calls Tryz.prog 25 #[arg, la] w fun e w' => e = .returned (.tuple #[.slice none 0 0, .int .i64 x]) ∧ Below w.heap.size w w' := by
  have C := hid hc
  have L := hid hl
  have d : (x != 0) = true := by simpa using hx
  clear hc hx hl
  go_enter Tryz.func25, Tryz.ntmps25
  go_wp2_with fail
  refine C.out.mono ?_
  rintro e w1 ⟨rfl, hb⟩
  have HB := hid hb
  clear hb
  go_wp2_with fail
  refine (L.out w1 HB.out).mono ?_
  rintro e w2 ⟨rfl, hb⟩
  have HB2 := hid (HB.out.trans (hb.mono HB.out.size))
  clear hb
  go_wp2_with fail
  go_ret2
  exact ⟨rfl, HB2.out⟩

end Go.Proofs.YtdbebbbceeopaaaGreat

set_option linter.unusedSimpArgs false
namespace Go.Proofs.YtdbebbbceeopaaaGreat
open Go.RowKit

/-- A list of lines that a call has made. -/
theorem fan_shape {n base : Nat} {w : World} {v : Value} (h : FanR n base w v) : ∃ (la : Option Addr) (lcap : Nat) (a : Int) (xs : List (Int × Int)), v = .slice la xs.length lcap ∧ xs.length ≤ lcap ∧ xs.length ≤ 7 ∧ 0 ≤ a ∧ a < n ∧ Fan n a xs ∧ LnI w la xs := by
  obtain ⟨a, xs, h7, h0, h1, hf, ho⟩ := h
  have ho' := ho
  rcases ho.2 with ⟨rfl, e⟩ | ⟨g, cap, cur, rfl, hb, hh, hc, hr⟩
  · have : xs = [] := List.length_eq_zero_iff.1 e
    subst this
    exact ⟨none, 0, a, [], rfl, Nat.le_refl _, by simp, h0, h1, hf, .inl rfl⟩
  · refine ⟨some ⟨g, 0, none⟩, cap, a, xs, rfl, ?_, h7, h0, h1, hf, .inr ⟨g, 0, rfl, heap_lt hh, fun i hi => ?_⟩⟩
    · omega
    · have c := cellsP_get xs i hi
      refine ⟨?_, ?_⟩
      · rw [Nat.zero_add, ho'.cellAt (i * 2) (by omega)]; exact c.1
      · rw [Nat.zero_add, ho'.cellAt (i * 2 + 1) (by omega)]; exact c.2

theorem fan_line {px py : Nat → Int} {n : Nat} {a : Int} {xs : List (Int × Int)} (h7 : xs.length ≤ 7) (h0 : 0 ≤ a) (h1 : a < n) (hf : Fan n a xs) : (∀ x ∈ xs, Jn n x) ∧ (lineI px py n xs = 0 ∨ lineI px py n xs = 6) := by
  have j : ∀ x ∈ xs, Jn n x := by
    intro x hx
    have := hf x hx
    unfold Jn
    omega
  refine ⟨j, ?_⟩
  rw [lineI_eq]
  rw [if_neg (by omega), if_neg (fun k => k j)]
  split
  · exact .inr rfl
  · exact .inl rfl

/-- Bound, of lines from one point to others. -/
theorem bound_fan (px py : Nat → Int) (n g cap lcap : Nat) (la : Option Addr) (xs : List (Int × Int)) (a : Int) (w : World) (hp : Pts w g 0 n px py) (h3 : 3 ≤ n) (hn : n ≤ 40) (hcap : n ≤ cap) (hr : refI px py n = 0) (hl : LnI w la xs) (hlc : xs.length ≤ lcap) (h7 : xs.length ≤ 7) (h0 : 0 ≤ a) (h1 : a < n) (hf : Fan n a xs) :
    Calls Tryz.prog 25 #[.slice (some ⟨g, 0, none⟩) n cap, .slice la xs.length lcap] w fun e w' => ∃ (u : Value) (r : Int), e = .returned (.tuple #[u, .int .i64 r]) ∧ Below w.heap.size w w' ∧
      ((r = 0 ∧ lineI px py n xs = 0 ∧ ∃ (g2 cp2 : Nat) (d : Array T3) (M : Nat → Nat → Option Nat) (hs : List Nat), u = .slice (some ⟨g2, 0, none⟩) d.size cp2 ∧ d.size ≤ 1600 ∧ Trs w' g2 0 d.size (dz d) ∧ Tris M d ∧ Msh px py n M hs ∧ Lnd px py M (toN xs)) ∨ (r = 6 ∧ lineI px py n xs = 6 ∧ u = .slice none 0 0)) := by
  have hz : NeZero n := ⟨by omega⟩
  rcases (fan_line (px := px) (py := py) h7 h0 h1 hf).2 with e0 | e6
  · refine (bound_lines px py n g 0 cap lcap la xs w hp h3 hn hcap hr hl hlc e0).mono ?_
    rintro e w2 ⟨hb, g2, cp, d, M, hs, rfl, _, hd, hown, hT, hM, hL⟩
    exact ⟨_, 0, rfl, hb, .inl ⟨rfl, e0, g2, cp, d, M, hs, rfl, hd, trs_own hown, hT, hM, hL⟩⟩
  · have rf := refusal_any px py n g 0 cap w hp h3 hn hcap
    rw [hr] at rf
    refine (bound_err2 (x := 6) (by omega) rf fun W hW => ?_).mono ?_
    · have := lineRef_any px py n g 0 cap lcap la xs W (hp.below hW hp.lt) hn (refI_bds hr) (hl.below hW) (by omega) hlc
      rw [e6] at this
      exact this
    · rintro e w2 ⟨rfl, hb⟩
      exact ⟨_, 6, rfl, hb, .inr ⟨rfl, e6, rfl⟩⟩
end Go.Proofs.YtdbebbbceeopaaaGreat

set_option linter.unusedSimpArgs false
namespace Go.Proofs.YtdbebbbceeopaaaGreat
open Go.RowKit

set_option maxRecDepth 100000 in
set_option maxHeartbeats 4000000 in
theorem counted_any (a : Option Addr) (len cap : Nat) (sz : Int) (lv : Value) (w : World)
    (hpts : Calls Tryz.prog 14 #[.slice a len cap, .int .i64 sz] w fun e w' => ∃ v N ps, e = .returned v ∧ Below w.heap.size w w' ∧ Sq N ps ∧ w'.ownsRow w.heap.size 35 2 v ps.length (cellsP ps))
    (hfan : ∀ (n : Nat) (W : World), 3 ≤ n → n ≤ 40 → Below w.heap.size w W → Calls Tryz.prog 26 #[.int .i64 n, lv] W fun e w' => ∃ v : Value, e = .returned v ∧ Below W.heap.size W w' ∧ FanR n W.heap.size w' v) :
    Calls Tryz.prog 10 #[.slice a len cap, .int .i64 sz, lv] w fun e w' => e = .returned (.bool true) ∧ Below w.heap.size w w' := by
  have C1 := hid (points_set2 hpts)
  have HFAN := hid hfan
  clear hpts hfan
  go_enter Tryz.func10, Tryz.ntmps10
  go_wp2_with fail
  refine C1.out.mono ?_
  rintro e w1 ⟨g, n, cp, px, py, N, rfl, hb1, hcp, hS, hC, hP⟩
  have HB1 := hid hb1
  have HS := hid hS
  have HP := hid hP
  have hn3 := hS.len
  have hn30 := hS.len'
  clear C1 hb1 hS hP hC
  have C3 := hid (hull_set2 HS.out g cp w1 HP.out hcp)
  go_wp2_with fail
  refine C3.out.mono ?_
  rintro e w2 ⟨g3, cp3, hs', rfl, hb2, hlen, hg3, hCn, hOs, hcell⟩
  have HB2 := hid (HB1.out.trans (hb2.mono HB1.out.size))
  have HP2 := hid (HP.out.below hb2 HP.out.lt)
  have HCN := hid hCn
  have HOS := hid hOs
  have HCL := hid hcell
  have BDS := hid (refI_bds HS.out.ref)
  have hm3 := hCn.len
  have HG3 := hid hg3
  have C5 := hid (known_any g3 hs'.length cp3 n (fun i => hs'.getD i 0) w2 hm3 hlen (fun j hj => HCL.out j hj) HCN.out.lt HCN.out.inj)
  clear C3 hb2 hCn hOs hcell HB1 HP
  obtain ⟨m, hm⟩ : ∃ m, m = hs'.length := ⟨_, rfl⟩
  have HMM := hid hm
  rw [← hm] at hm3 hlen C5 ⊢
  clear hm hg3
  go_wp2_with fail
  refine C5.out.mono ?_
  rintro e w3 ⟨rfl, q, rfl⟩
  clear C5
  have HB3 := hid (below_drewN HB2.out q)
  have HP3 : Hid (Pts (w2.drewN q) g 0 n px py) := hid (HP2.out.below (below_drewN (Below.refl w2.heap.size w2) q) HP2.out.lt)
  have HCL3 : Hid (∀ j, j < hs'.length → (w2.drewN q).cell? ⟨g3, j, none⟩ = some (.int .i64 (hs'.getD j 0 : Nat))) := hid (fun j hj => HCL.out j hj)
  have HG3' : Hid (g3 < (w2.drewN q).heap.size) := hid HG3.out
  obtain ⟨w3, hw3⟩ : ∃ w3, w3 = w2.drewN q := ⟨_, rfl⟩
  rw [← hw3] at HB3 HP3 HCL3 HG3' ⊢
  clear hw3 HB2 HP2 HCL HG3
  have C2 := hid (tri_set HS.out g cp w3 HP3.out hcp)
  go_wp2_with fail
  refine C2.out.mono ?_
  rintro e w4 ⟨hb4, g2, cp2, d, M, hs, rfl, hd, hd0, hTr, hT, hM, hL⟩
  have HB4 := hid (HB3.out.trans (hb4.mono HB3.out.size))
  have HP4 := hid (HP3.out.below hb4 HP3.out.lt)
  have HTR := hid hTr
  have HT := hid hT
  have HM := hid hM
  have HCL4 : Hid (∀ j, j < hs'.length → w4.cell? ⟨g3, j, none⟩ = some (.int .i64 (hs'.getD j 0 : Nat))) := hid (fun j hj => (hb4.cell (by exact HG3'.out)).trans (HCL3.out j hj))
  have HG4 := hid (Nat.lt_of_lt_of_le HG3'.out hb4.size)
  clear C2 hb4 hTr hT hM hL HCL3 HG3' HP3 HB3
  have C6 := hid (HFAN.out n w4 hn3 (by omega) HB4.out)
  obtain ⟨k, hk⟩ : ∃ k, k = d.size := ⟨_, rfl⟩
  have HKK := hid hk
  rw [← hk] at hd hd0 ⊢
  clear hk
  go_wp2_with fail
  refine C6.out.mono ?_
  rintro e w5 ⟨v, rfl, hb5, hFR⟩
  obtain ⟨la, lcap, fa, xs, rfl, hlc, h7, f0, f1, hF, hLn⟩ := fan_shape hFR
  have HP5 := hid (HP4.out.below hb5 HP4.out.lt)
  have C7 := hid (bound_fan px py n g cp lcap la xs fa w5 HP5.out hn3 (by omega) hcp HS.out.ref hLn hlc h7 f0 f1 hF)
  have HB5 := hid (HB4.out.trans (hb5.mono HB4.out.size))
  have HTR5 := hid (HTR.out.below hb5)
  have HCL5 : Hid (∀ j, j < hs'.length → w5.cell? ⟨g3, j, none⟩ = some (.int .i64 (hs'.getD j 0 : Nat))) := hid (fun j hj => (hb5.cell (by exact HG4.out)).trans (HCL4.out j hj))
  have HG5 := hid (Nat.lt_of_lt_of_le HG4.out hb5.size)
  clear C6 hb5 hFR hLn hF f0 f1 HP4 HB4 HTR HCL4 HG4
  obtain ⟨lk, hlk⟩ : ∃ lk, lk = xs.length := ⟨_, rfl⟩
  rw [← hlk] at C7 h7 hlc ⊢
  clear hlk
  go_wp2_with fail
  refine C7.out.mono ?_
  rintro e w6 ⟨u, r, rfl, hb6, hU⟩
  have HU := hid hU
  have HB6 := hid (HB5.out.trans (hb6.mono HB5.out.size))
  have HP6 := hid (HP5.out.below hb6 HP5.out.lt)
  have HTR6 := hid (HTR5.out.below hb6)
  have HCL6 : Hid (∀ j, j < hs'.length → w6.cell? ⟨g3, j, none⟩ = some (.int .i64 (hs'.getD j 0 : Nat))) := hid (fun j hj => (hb6.cell (by exact HG5.out)).trans (HCL5.out j hj))
  have HG6 := hid (Nat.lt_of_lt_of_le HG5.out hb6.size)
  clear C7 hb6 hU HP5 HB5 HTR5 HCL5 HG5
  have EHS : Hid (hs' = hs) := hid (hs_one HM.out HOS.out)
  have C8 := hid (rim_any px py n g cp g3 cp3 hs' w6 (by omega) HP6.out BDS.out (by rw [← HMM.out]; exact hm3) (by rw [← HMM.out]; exact hlen) HG6.out HCL6.out HCN.out.lt)
  have rb := rimI_bd px py hs' n
  have CNT : Hid ((k : Int) = 2 * n - rimI px py hs' n - 2) := hid (by
    rw [EHS.out, rim_bdc HM.out hn3 HS.out.ref (fun i j hi hj e1 e2 => Classical.byContradiction fun q => HS.out.ne i j hi hj q ⟨e1, e2⟩), HKK.out]
    exact HM.out.count hn3 HS.out.ref (fun i j hi hj e1 e2 => Classical.byContradiction fun q => HS.out.ne i j hi hj q ⟨e1, e2⟩) HT.out.lists)
  obtain ⟨rv, hrv⟩ : ∃ rv, rv = rimI px py hs' n := ⟨_, rfl⟩
  have HRV := hid hrv
  rw [← HMM.out] at C8
  rw [← hrv] at C8 rb CNT
  clear hrv
  have y1 : IntKind.i64.wrap (2 * (n : Int)) = 2 * n := by rw [IntKind.wrap_i64]; omega
  have y2 : IntKind.i64.wrap (2 * (n : Int) - rv) = 2 * n - rv := by rw [IntKind.wrap_i64]; omega
  have y3 : IntKind.i64.wrap (2 * (n : Int) - rv - 2) = (k : Int) := by have := CNT.out; rw [IntKind.wrap_i64]; omega
  go_wp2_with fail
  refine C8.out.mono ?_
  rintro e w7 ⟨rfl, hb7⟩
  have HB7 := hid (HB6.out.trans (hb7.mono HB6.out.size))
  have HP7 := hid (HP6.out.below hb7 HP6.out.lt)
  have HTR7 := hid (HTR6.out.below hb7)
  have HCL7 : Hid (∀ j, j < hs'.length → w7.cell? ⟨g3, j, none⟩ = some (.int .i64 (hs'.getD j 0 : Nat))) := hid (fun j hj => (hb7.cell (by exact HG6.out)).trans (HCL6.out j hj))
  have HG7 := hid (Nat.lt_of_lt_of_le HG6.out hb7.size)
  have H67 := hid hb7
  clear C8 hb7 HP6 HB6 HTR6 HCL6 HG6
  go_wp2_with fail
  clear y1 y2 y3 rb
  obtain ⟨m', hm'⟩ : ∃ m', m = m' + 2 := ⟨m - 2, by omega⟩
  have HF := hid (fun t ht => fan_bd BDS.out (h := hs') (fun y hy => by obtain ⟨i, hi, rfl⟩ := getD_mem hy; exact HCN.out.lt i hi) t ht)
  have HL : Hid (∀ j, j < hs'.length → hs'.getD j 0 < n) := hid HCN.out.lt
  rw [← HMM.out] at HCL7 HL HF
  subst hm'
  go_loopw [16, 17] (fun s i wr => ∃ t j : Nat, t ≤ m' ∧ j = t + 1 ∧ i = .int .i64 j ∧ s = .int .i64 (fanI px py hs' t) ∧ Hid (Below w7.heap.size w7 wr)) (fun _ i _ => m' + 1 - (intOf i).toNat)
  case atStart => exact ⟨0, 1, Nat.zero_le _, rfl, rfl, rfl, hid (Below.refl _ _)⟩
  case round =>
    obtain ⟨t, j, ht, hj, rfl, rfl, HB⟩ := hrel
    have w1' : IntKind.i64.wrap ((j : Int) + 1) = (j : Int) + 1 := by rw [IntKind.wrap_i64]; omega
    by_cases hlt : t < m'
    · have hlt' : (j : Int) + 1 < (m' : Int) + 2 := by omega
      have d0 : wr.cell? ⟨g3, 0, none⟩ = some (.int .i64 (hs'.getD 0 0 : Nat)) := (HB.out.cell HG7.out).trans (HCL7.out 0 (by omega))
      have d1 : wr.cell? ⟨g3, j, none⟩ = some (.int .i64 (hs'.getD (t + 1) 0 : Nat)) := by rw [hj]; exact (HB.out.cell HG7.out).trans (HCL7.out (t + 1) (by omega))
      have d2 : wr.cell? ⟨g3, j + 1, none⟩ = some (.int .i64 (hs'.getD (t + 2) 0 : Nat)) := by rw [hj]; exact (HB.out.cell HG7.out).trans (HCL7.out (t + 2) (by omega))
      have l0 := HL.out 0 (by omega)
      have l1 := HL.out (t + 1) (by omega)
      have l2 := HL.out (t + 2) (by omega)
      have bd := HF.out t (by omega)
      have FN : Hid (fanI px py hs' (t + 1) = fanI px py hs' t + T px py (hs'.getD 0 0) (hs'.getD (t + 1) 0) (hs'.getD (t + 2) 0)) := hid rfl
      obtain ⟨ai, hai⟩ : ∃ x, x = hs'.getD 0 0 := ⟨_, rfl⟩
      obtain ⟨bi, hbi⟩ : ∃ x, x = hs'.getD (t + 1) 0 := ⟨_, rfl⟩
      obtain ⟨ci, hci⟩ : ∃ x, x = hs'.getD (t + 2) 0 := ⟨_, rfl⟩
      rw [← hai] at d0 l0 FN
      rw [← hbi] at d1 l1 FN
      rw [← hci] at d2 l2 FN
      clear hai hbi hci
      have hpw := HP7.out.below HB.out HP7.out.lt
      have xa := hpw.x ai l0
      have ya := hpw.y ai l0
      have xb := hpw.x bi l1
      have yb := hpw.y bi l1
      have xc := hpw.x ci l2
      have yc := hpw.y ci l2
      rw [Nat.zero_add] at xa ya xb yb xc yc
      have gl := hpw.lt
      have gt : g3 < wr.heap.size := Nat.lt_of_lt_of_le HG7.out HB.out.size
      have tb := T_bd BDS.out l0 l1 l2
      have B6 : Bd6 (px ai) (py ai) (px bi) (py bi) (px ci) (py ci) := ⟨bd4 BDS.out l0 l1, (BDS.out ci l2).1, (BDS.out ci l2).2⟩
      have K1 := hid (fun W => turn_6 (px ai) (py ai) (px bi) (py bi) (px ci) (py ci) W B6)
      have et : tw (px ai) (py ai) (px bi) (py bi) (px ci) (py ci) = T px py ai bi ci := rfl
      rw [et] at K1
      clear et B6
      obtain ⟨tv, htv⟩ : ∃ x, x = T px py ai bi ci := ⟨_, rfl⟩
      obtain ⟨fv, hfv⟩ : ∃ x, x = fanI px py hs' t := ⟨_, rfl⟩
      rw [← htv] at tb K1 FN
      rw [← hfv] at bd FN ⊢
      clear htv hfv
      have a' : (ai : Int) < n := by omega
      have b' : (bi : Int) < n := by omega
      have c' : (ci : Int) < n := by omega
      have z0 : (0 : Int) ≤ (ai : Int) := by omega
      have z1 : (0 : Int) ≤ (bi : Int) := by omega
      have z2 : (0 : Int) ≤ (ci : Int) := by omega
      have z3 : (0 : Int) ≤ (j : Int) := by omega
      have z4 : (0 : Int) ≤ (j : Int) + 1 := by omega
      have z5 : (j : Int) < (m' : Int) + 2 := by omega
      have z6 : (0 : Int) < (m' : Int) + 2 := by omega
      have z7 : 0 < m' + 2 := by omega
      have wf : IntKind.i64.wrap (fv + tv) = fv + tv := by rw [IntKind.wrap_i64]; omega
      have HJ := hid hj
      have hjm : j < m' + 1 := by omega
      clear hpw hj
      go_wp2
      go_region_held3 (fun w' => w'.cell? ⟨g3, 0, none⟩ = some (.int .i64 ai) ∧ w'.cell? ⟨g3, j, none⟩ = some (.int .i64 bi) ∧ w'.cell? ⟨g3, j + 1, none⟩ = some (.int .i64 ci) ∧ w'.cell? ⟨g, ai * 2, none⟩ = some (.int .i64 (px ai)) ∧ w'.cell? ⟨g, ai * 2 + 1, none⟩ = some (.int .i64 (py ai)) ∧ w'.cell? ⟨g, bi * 2, none⟩ = some (.int .i64 (px bi)) ∧ w'.cell? ⟨g, bi * 2 + 1, none⟩ = some (.int .i64 (py bi)) ∧ w'.cell? ⟨g, ci * 2, none⟩ = some (.int .i64 (px ci)) ∧ w'.cell? ⟨g, ci * 2 + 1, none⟩ = some (.int .i64 (py ci))) (go_keep)
        ((go_at_call 23; refine (K1.out _).mono ?_; rintro e w6' ⟨rfl, hb6⟩; have u1 := (hb6.cell (p := ⟨g, ai * 2, none⟩) gl).trans xa; have u2 := (hb6.cell (p := ⟨g, ai * 2 + 1, none⟩) gl).trans ya; have u3 := (hb6.cell (p := ⟨g, bi * 2, none⟩) gl).trans xb; have u4 := (hb6.cell (p := ⟨g, bi * 2 + 1, none⟩) gl).trans yb; have u5 := (hb6.cell (p := ⟨g, ci * 2, none⟩) gl).trans xc; have u6 := (hb6.cell (p := ⟨g, ci * 2 + 1, none⟩) gl).trans yc; have v0 := (hb6.cell (p := ⟨g3, 0, none⟩) gt).trans d0; have v1 := (hb6.cell (p := ⟨g3, j, none⟩) gt).trans d1; have v2 := (hb6.cell (p := ⟨g3, j + 1, none⟩) gt).trans d2; have HB6' := hid hb6; clear hb6))
      clear u1 u2 u3 u4 u5 u6 v0 v1 v2 xa ya xb yb xc yc d0 d1 d2
      go_wp2
      go_roundw
      case rel => exact ⟨t + 1, j + 1, by omega, by rw [HJ.out], by go_num, by rw [FN.out], hid (HB.out.drew.trans (HB6'.out.mono HB.out.size))⟩
      case measure => simp [intOf]; omega
    · have htm : t = m' := by omega
      subst htm
      have HB8 := hid (HB7.out.trans (HB.out.mono HB7.out.size))
      have BLW : Hid (∀ W, Below wr.heap.size wr W → Below w7.heap.size w7 W) := hid (fun W hW => HB.out.trans (hW.mono HB.out.size))
      have FO := hid (HT.out.lists.fill HM.out.mesh HM.out.cor (HT.out.row3 HM.out.mesh) _ HM.out.sum)
      have ESU : Hid (su px py (dA d) (dB d) (dC d) k = fanI px py hs' t) := hid (by rw [HKK.out, FO.out.sum, ← EHS.out, ← HMM.out]; rfl)
      have S1 : Hid (∀ W, Below wr.heap.size wr W → Calls Tryz.prog 16 #[.slice (some ⟨g, 0, none⟩) n cp, .slice (some ⟨g2, 0, none⟩) k cp2] W fun e w' => e = .returned (.bool true) ∧ Below W.heap.size W w') := hid (fun W hW => by
        rw [HKK.out]
        exact sane_any px py n g 0 cp d.size cp2 (some ⟨g2, 0, none⟩) (dz d) (dA d) (dB d) (dC d) W (HP7.out.below (BLW.out W hW) HP7.out.lt) (fun _ => ⟨g2, 0, rfl, HTR7.out.below (BLW.out W hW)⟩) (by rw [← HKK.out]; omega) BDS.out (HT.out.row3 HM.out.mesh) (fun i hi => (HT.out.lists.tri i hi).2) (fun i hi => HM.out.mesh.pos _ _ _ (HT.out.lists.tri i hi).1))
      have A1 : Hid (∀ W, Below wr.heap.size wr W → Calls Tryz.prog 28 #[.slice (some ⟨g, 0, none⟩) n cp, .slice (some ⟨g2, 0, none⟩) k cp2] W fun e w' => e = .returned (.int .i64 (fanI px py hs' t)) ∧ Below W.heap.size W w') := hid (fun W hW => by
        rw [← ESU.out]
        have := karea_any px py n g cp g2 d.size cp2 (dz d) (dA d) (dB d) (dC d) W (HP7.out.below (BLW.out W hW) HP7.out.lt) (HTR7.out.below (BLW.out W hW)) (by rw [← HKK.out]; exact hd) BDS.out (HT.out.row3 HM.out.mesh)
        rw [← HKK.out] at this
        exact this)
      rcases HU.out with ⟨rfl, _, g4, cp4, d4, M4, hs4, rfl, hd4, ht4, hT4, hM4, _⟩ | ⟨rfl, _, rfl⟩
      · have INJ : Geo.Inj px py n := fun i j hi hj e1 e2 => Classical.byContradiction fun q => HS.out.ne i j hi hj q ⟨e1, e2⟩
        have EK : d4.size = k := by
          have c1 := HM.out.count hn3 HS.out.ref INJ HT.out.lists
          have c2 := hM4.count hn3 HS.out.ref INJ hT4.lists
          have := HKK.out
          omega
        have HT4 := hid (ht4.below H67.out)
        have FO4 := hid (hT4.lists.fill hM4.mesh hM4.cor (hT4.row3 hM4.mesh) _ hM4.sum)
        have EH4 : Hid (hs' = hs4) := hid (hs_one hM4 HOS.out)
        have ES4 : Hid (su px py (dA d4) (dB d4) (dC d4) d4.size = fanI px py hs' t) := hid (by rw [FO4.out.sum, ← EH4.out, ← HMM.out]; rfl)
        have S2 : Hid (∀ W, Below wr.heap.size wr W → Calls Tryz.prog 16 #[.slice (some ⟨g, 0, none⟩) n cp, .slice (some ⟨g4, 0, none⟩) d4.size cp4] W fun e w' => e = .returned (.bool true) ∧ Below W.heap.size W w') := hid (fun W hW =>
          sane_any px py n g 0 cp d4.size cp4 (some ⟨g4, 0, none⟩) (dz d4) (dA d4) (dB d4) (dC d4) W (HP7.out.below (BLW.out W hW) HP7.out.lt) (fun _ => ⟨g4, 0, rfl, HT4.out.below (BLW.out W hW)⟩) (by omega) BDS.out (hT4.row3 hM4.mesh) (fun i hi => (hT4.lists.tri i hi).2) (fun i hi => hM4.mesh.pos _ _ _ (hT4.lists.tri i hi).1))
        have A2 : Hid (∀ W, Below wr.heap.size wr W → Calls Tryz.prog 28 #[.slice (some ⟨g, 0, none⟩) n cp, .slice (some ⟨g4, 0, none⟩) d4.size cp4] W fun e w' => e = .returned (.int .i64 (fanI px py hs' t)) ∧ Below W.heap.size W w') := hid (fun W hW => by
          rw [← ES4.out]
          exact karea_any px py n g cp g4 d4.size cp4 (dz d4) (dA d4) (dB d4) (dC d4) W (HP7.out.below (BLW.out W hW) HP7.out.lt) (HT4.out.below (BLW.out W hW)) hd4 BDS.out (hT4.row3 hM4.mesh))
        rw [EK] at S2 A2 ⊢
        obtain ⟨fv, hfv⟩ : ∃ x, x = fanI px py hs' t := ⟨_, rfl⟩
        rw [← hfv] at A1 A2 ⊢
        clear HU hfv ht4 hT4 hM4 hd4 EK INJ FO4 EH4 ES4
        go_wp2_with fail
        refine (S1.out wr (Below.refl _ _)).mono ?_
        rintro e w8 ⟨rfl, hb8⟩
        have B8 := hid hb8
        clear hb8
        go_wp2_with fail
        refine (S2.out w8 B8.out).mono ?_
        rintro e w9 ⟨rfl, hb9⟩
        have B9 := hid (B8.out.trans (hb9.mono B8.out.size))
        clear hb9
        go_wp2_with fail
        refine (A1.out w9 B9.out).mono ?_
        rintro e w10 ⟨rfl, hb10⟩
        have B10 := hid (B9.out.trans (hb10.mono B9.out.size))
        clear hb10
        go_wp2_with fail
        refine (A2.out w10 B10.out).mono ?_
        rintro e w11 ⟨rfl, hb11⟩
        have B11 := hid (B10.out.trans (hb11.mono B10.out.size))
        clear hb11
        go_wp2_with fail
        go_ret
        exact ⟨rfl, HB8.out.trans (B11.out.mono HB8.out.size)⟩
      · have S2 : Hid (∀ W, Below wr.heap.size wr W → Calls Tryz.prog 16 #[.slice (some ⟨g, 0, none⟩) n cp, .slice none 0 0] W fun e w' => e = .returned (.bool true) ∧ Below W.heap.size W w') := hid (fun W hW =>
          sane_any px py n g 0 cp 0 0 none [] (fun _ => 0) (fun _ => 0) (fun _ => 0) W (HP7.out.below (BLW.out W hW) HP7.out.lt) (fun h => by omega) (by omega) BDS.out ⟨fun i hi => by omega, fun i hi => by omega⟩ (fun i hi => by omega) (fun i hi => by omega))
        obtain ⟨fv, hfv⟩ : ∃ x, x = fanI px py hs' t := ⟨_, rfl⟩
        rw [← hfv] at A1 ⊢
        clear HU hfv
        go_wp2_with fail
        refine (S1.out wr (Below.refl _ _)).mono ?_
        rintro e w8 ⟨rfl, hb8⟩
        have B8 := hid hb8
        clear hb8
        go_wp2_with fail
        refine (S2.out w8 B8.out).mono ?_
        rintro e w9 ⟨rfl, hb9⟩
        have B9 := hid (B8.out.trans (hb9.mono B8.out.size))
        clear hb9
        go_wp2_with fail
        refine (A1.out w9 B9.out).mono ?_
        rintro e w10 ⟨rfl, hb10⟩
        have B10 := hid (B9.out.trans (hb10.mono B9.out.size))
        clear hb10
        go_wp2_with fail
        go_ret
        exact ⟨rfl, HB8.out.trans (B10.out.mono HB8.out.size)⟩
end Go.Proofs.YtdbebbbceeopaaaGreat
