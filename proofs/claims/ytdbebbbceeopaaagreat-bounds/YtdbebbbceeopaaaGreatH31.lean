import Derived.Test.YtdbebbbceeopaaaGreatH30
import Derived.Test.YtdbebbbceeopaaaGreatH29
set_option linter.unusedSimpArgs false
namespace Go.Proofs.YtdbebbbceeopaaaGreat
open Go.RowKit Go.Maps
open Go.Sort (SortedIn)
open Geo (up bad lift Mesh Cor Quad flipM Inj Sd)

/-- Lines by the numbers of their points. -/
def toN (xs : List (Int × Int)) : List (Nat × Nat) := xs.map fun x => (x.1.toNat, x.2.toNat)

theorem toN_len (xs : List (Int × Int)) : (toN xs).length = xs.length := by simp [toN]

theorem LnI.toN {w : World} {a : Option Addr} {xs : List (Int × Int)} {n : Nat} (h : LnI w a xs) (hj : ∀ x ∈ xs, Jn n x) : Lns w a (toN xs) := by
  rcases h with h | ⟨g, o, e, hg, hc⟩
  · subst h; exact .inl rfl
  · refine .inr ⟨g, o, e, hg, fun i hi => ?_⟩
    have hi' : i < xs.length := by rw [toN_len] at hi; exact hi
    have j := hj xs[i] (List.getElem_mem hi')
    have e : (YtdbebbbceeopaaaGreat.toN xs)[i] = (xs[i].1.toNat, xs[i].2.toNat) := by simp [YtdbebbbceeopaaaGreat.toN]
    have c := hc i hi'
    rw [e]
    have e1 : ((xs[i].1.toNat : Nat) : Int) = xs[i].1 := Int.toNat_of_nonneg j.1.1
    have e2 : ((xs[i].2.toNat : Nat) : Int) = xs[i].2 := Int.toNat_of_nonneg j.2.1.1
    dsimp only
    rw [e1, e2]
    exact c

theorem toN_lt {xs : List (Int × Int)} {n : Nat} (hj : ∀ x ∈ xs, Jn n x) : ∀ y ∈ toN xs, y.1 < n ∧ y.2 < n ∧ y.1 ≠ y.2 := by
  intro y hy
  obtain ⟨x, hx, rfl⟩ := List.mem_map.1 hy
  obtain ⟨j1, j2, j3⟩ := hj x hx
  dsimp only
  omega

def jnB (n : Nat) (x : Int × Int) : Bool := decide (0 ≤ x.1 ∧ x.1 < n) && (decide (0 ≤ x.2 ∧ x.2 < n) && decide (x.1 ≠ x.2))

theorem jnB_iff {n : Nat} {xs : List (Int × Int)} : xs.all (jnB n) = true ↔ ∀ x ∈ xs, Jn n x := by
  rw [List.all_eq_true]
  simp only [jnB, Jn, Bool.and_eq_true, decide_eq_true_eq]

def wyB (px py : Nat → Int) (n : Nat) (xs : List (Nat × Nat)) (i : Nat) : Bool := (List.range n).any (fun p => betwB px py (xs.getD i (0, 0)).1 (xs.getD i (0, 0)).2 p) || (List.range i).any fun j => crossB px py (xs.getD i (0, 0)).1 (xs.getD i (0, 0)).2 (xs.getD j (0, 0)).1 (xs.getD j (0, 0)).2

theorem wyB_iff {px py : Nat → Int} {n : Nat} {xs : List (Nat × Nat)} : (List.range xs.length).any (wyB px py n xs) = true ↔ ∃ i, i < xs.length ∧ wayB px py n xs i := by
  simp only [wyB, wayB, List.any_eq_true, List.mem_range, Bool.or_eq_true]

/-- What lineRefusal answers. -/
def lineI (px py : Nat → Int) (n : Nat) (xs : List (Int × Int)) : Int :=
  if 20 < xs.length then 1 else if xs.all (jnB n) = true then (if (List.range (toN xs).length).any (wyB px py n (toN xs)) = true then 6 else 0) else 5

open Classical in
theorem lineI_eq (px py : Nat → Int) (n : Nat) (xs : List (Int × Int)) : lineI px py n xs = if 20 < xs.length then 1 else if ¬ ∀ x ∈ xs, Jn n x then 5 else if ∃ i, i < (toN xs).length ∧ wayB px py n (toN xs) i then 6 else 0 := by
  unfold lineI
  by_cases h1 : 20 < xs.length
  · rw [if_pos h1, if_pos h1]
  · rw [if_neg h1, if_neg h1]
    by_cases h2 : ∀ x ∈ xs, Jn n x
    · have h2' : ¬ ¬ ∀ x ∈ xs, Jn n x := fun k => k h2
      by_cases h3 : ∃ i, i < (toN xs).length ∧ wayB px py n (toN xs) i
      · rw [if_pos (jnB_iff.2 h2), if_pos (wyB_iff.2 h3), if_neg h2', if_pos h3]
      · rw [if_pos (jnB_iff.2 h2), if_neg (fun k => h3 (wyB_iff.1 k)), if_neg h2', if_neg h3]
    · rw [if_neg (fun k => h2 (jnB_iff.1 k)), if_pos h2]

set_option maxRecDepth 100000 in
set_option maxHeartbeats 2000000 in
theorem lineRef_any (px py : Nat → Int) (n qb qo cap lcap : Nat) (la : Option Addr) (xs : List (Int × Int)) (w : World) (hp : Pts w qb qo n px py) (hn : n ≤ 40) (hbd : ∀ i, i < n → (-1000 ≤ px i ∧ px i ≤ 1000) ∧ (-1000 ≤ py i ∧ py i ≤ 1000)) (hl : LnI w la xs) (hk : xs.length ≤ 1000000) (hcap : xs.length ≤ lcap) :
    Calls Tryz.prog 40 #[.slice (some ⟨qb, qo, none⟩) n cap, .slice la xs.length lcap] w fun e w' => e = .returned (.int .i64 (lineI px py n xs)) ∧ Below w.heap.size w w' := by
  have C1 := hid (allJoin_any n cap lcap (some ⟨qb, qo, none⟩) la xs w hl hk)
  have HP := hid hp
  have HBD := hid hbd
  have HL := hid hl
  obtain ⟨r, hr⟩ : ∃ r, r = lineI px py n xs := ⟨_, rfl⟩
  have R1 : Hid (20 < xs.length → r = 1) := hid (fun h => by rw [hr]; rw [lineI_eq]; rw [if_pos h])
  have R5 : Hid (¬ 20 < xs.length → (¬ ∀ x ∈ xs, Jn n x) → r = 5) := hid (fun h h' => by rw [hr]; rw [lineI_eq]; rw [if_neg h, if_pos h'])
  have R6 : Hid (¬ 20 < xs.length → (∀ x ∈ xs, Jn n x) → (∃ i, i < (toN xs).length ∧ wayB px py n (toN xs) i) → r = 6) := hid (fun h h' h'' => by rw [hr]; rw [lineI_eq]; rw [if_neg h, if_neg (fun k => k h'), if_pos h''])
  have R0 : Hid (¬ 20 < xs.length → (∀ x ∈ xs, Jn n x) → (¬ ∃ i, i < (toN xs).length ∧ wayB px py n (toN xs) i) → r = 0) := hid (fun h h' h'' => by rw [hr]; rw [lineI_eq]; rw [if_neg h, if_neg (fun k => k h'), if_neg h''])
  rw [← hr]
  clear hr
  obtain ⟨k, hkk⟩ : ∃ k, k = xs.length := ⟨_, rfl⟩
  have HK := hid hkk
  rw [← hkk] at hk hcap C1 R1 R5 R6 R0 ⊢
  clear hp hbd hl hkk
  by_cases h20 : 20 < k
  · have e := R1.out h20
    subst e
    have h20' : (20 : Int) < k := by omega
    go_enter Tryz.func40, Tryz.ntmps40
    go_wp2_with fail
    go_ret
    exact ⟨rfl, Below.refl _ _⟩
  · have h20' : ¬ (20 : Int) < k := by omega
    go_enter Tryz.func40, Tryz.ntmps40
    go_wp2_with fail
    refine C1.out.mono ?_
    rintro e w1 ⟨⟨b, rfl, hb⟩, hb1⟩
    have HB1 := hid hb1
    have HBJ := hid hb
    clear hb hb1 C1
    cases b with
    | false =>
      have e := R5.out h20 (fun h => by have := HBJ.out.2 h; cases this)
      subst e
      go_wp2_with fail
      go_ret
      exact ⟨rfl, HB1.out⟩
    | true =>
      have hj := HBJ.out.1 rfl
      have HJ := hid hj
      have C2 := hid (places_any px py n qb qo cap w1 (HP.out.below HB1.out HP.out.lt) hn HBD.out)
      clear hj
      go_wp2_with fail
      refine C2.out.mono ?_
      rintro e w2 ⟨rfl, hb2, hp2⟩
      have HB2 := hid (HB1.out.trans (hb2.mono HB1.out.size))
      have C3 := hid (inWay_any w1.heap.size 0 n n lcap px py la (toN xs) w2 hn hp2 ((HL.out.below HB2.out).toN HJ.out) (by rw [toN_len, ← HK.out]; omega) (by rw [toN_len, ← HK.out]; exact hcap) (fun y hy => ⟨(toN_lt HJ.out y hy).1, (toN_lt HJ.out y hy).2.1⟩))
      rw [toN_len, ← HK.out] at C3
      clear C2 hb2 hp2
      go_wp2_with fail
      refine C3.out.mono ?_
      rintro e w3 ⟨⟨b, rfl, hb⟩, hb3⟩
      have HB3 := hid (HB2.out.trans (hb3.mono HB2.out.size))
      have HBW := hid hb
      clear hb hb3 C3
      cases b with
      | true =>
        have hw := HBW.out.1 rfl
        have e := R6.out h20 HJ.out hw
        subst e
        clear hw
        go_wp2_with fail
        go_ret
        exact ⟨rfl, HB3.out⟩
      | false =>
        have e := R0.out h20 HJ.out (fun h => by have := HBW.out.2 h; cases this)
        subst e
        go_wp2_with fail
        go_ret
        exact ⟨rfl, HB3.out⟩

theorem lineI_ok {px py : Nat → Int} {n : Nat} {xs : List (Int × Int)} (h : lineI px py n xs = 0) : xs.length ≤ 20 ∧ (∀ x ∈ xs, Jn n x) ∧ Lok px py n (toN xs) := by
  rw [lineI_eq] at h
  by_cases h1 : 20 < xs.length
  · rw [if_pos h1] at h; cases h
  · rw [if_neg h1] at h
    by_cases h2 : ∀ x ∈ xs, Jn n x
    · rw [if_neg (fun k => k h2)] at h
      by_cases h3 : ∃ i, i < (toN xs).length ∧ wayB px py n (toN xs) i
      · rw [if_pos h3] at h; cases h
      · have nb : ∀ i, (hi : i < (toN xs).length) → ∀ p, p < n → betwB px py (toN xs)[i].1 (toN xs)[i].2 p = false := fun i hi p hp => by
          cases hb : betwB px py (toN xs)[i].1 (toN xs)[i].2 p with
          | false => rfl
          | true =>
            exfalso
            refine h3 ⟨i, hi, .inl ⟨p, hp, ?_⟩⟩
            rw [List.getD_eq_getElem?_getD, List.getElem?_eq_getElem hi]
            exact hb
        have nc : ∀ i j, (hi : i < (toN xs).length) → (hj : j < (toN xs).length) → j < i → crossB px py (toN xs)[i].1 (toN xs)[i].2 (toN xs)[j].1 (toN xs)[j].2 = false := fun i j hi hj hji => by
          cases hb : crossB px py (toN xs)[i].1 (toN xs)[i].2 (toN xs)[j].1 (toN xs)[j].2 with
          | false => rfl
          | true =>
            exfalso
            refine h3 ⟨i, hi, .inr ⟨j, hji, ?_⟩⟩
            rw [List.getD_eq_getElem?_getD, List.getElem?_eq_getElem hi, List.getD_eq_getElem?_getD, List.getElem?_eq_getElem hj]
            exact hb
        refine ⟨by omega, h2, ⟨toN_lt h2, fun x hx y hy => ?_, fun x hx p hp => ?_⟩⟩
        · obtain ⟨i, hi, rfl⟩ := List.getElem_of_mem hx
          obtain ⟨j, hj, rfl⟩ := List.getElem_of_mem hy
          rcases Nat.lt_trichotomy i j with k | k | k
          · rw [crossB_pair]; exact nc j i hj hi k
          · subst k; exact crossB_self _ _ _ _
          · exact nc i j hi hj k
        · obtain ⟨i, hi, rfl⟩ := List.getElem_of_mem hx
          exact nb i hi p hp
    · rw [if_pos h2] at h; cases h

end Go.Proofs.YtdbebbbceeopaaaGreat

set_option linter.unusedSimpArgs false
namespace Go.Proofs.YtdbebbbceeopaaaGreat
open Go.RowKit Go.Maps
open Go.Sort (SortedIn)
open Geo (up bad lift Mesh Cor Quad flipM Inj Sd)

/-- Of a mesh with lines: each is a side, and every other is as round as can be. -/
structure Lnd (px py : Nat → Int) (M : Nat → Nat → Option Nat) (ys : List (Nat × Nat)) : Prop where
  jo : ∀ y ∈ ys, Joined M y.1 y.2
  rd : ∀ u v c d, M u v = some c → M v u = some d → (¬ ∃ y ∈ ys, (y.1 = u ∧ y.2 = v) ∨ (y.1 = v ∧ y.2 = u)) → Geo.Wn px py u v c d ≤ 0

theorem up_eq {a b u v : Nat} (h : up a b = up u v) : (a = u ∧ b = v) ∨ (a = v ∧ b = u) := by
  rcases up_is a b with h1 | h1 <;> rcases up_is u v with h2 | h2 <;> rw [h1, h2] at h <;> simp only [Prod.mk.injEq] at h <;> omega

theorem lnd_of {px py : Nat → Int} {M : Nat → Nat → Option Nat} {ys ls : List (Nat × Nat)} (hbad : ∀ u v, bad px py (okL ls) (lift px py) M u v = false) (hj : ∀ x ∈ ls, Joined M x.1 x.2) (h1 : ∀ y ∈ ys, up y.1 y.2 ∈ ls) (h2 : ∀ x ∈ ls, ∃ y ∈ ys, x = up y.1 y.2) : Lnd px py M ys := by
  refine ⟨fun y hy => ?_, fun u v c d e1 e2 hn => ?_⟩
  · have := hj _ (h1 y hy)
    rcases up_is y.1 y.2 with h | h <;> rw [h] at this
    · exact this
    · exact this.symm
  · have ok : okL ls u v = true := by
      unfold okL
      rw [Bool.not_eq_true', ← Bool.not_eq_true]
      intro hc
      have hm : up u v ∈ ls := by simpa using hc
      obtain ⟨y, hy, e⟩ := h2 _ hm
      exact hn ⟨y, hy, up_eq e.symm⟩
    have := hbad u v
    rw [bad_some e1 e2, ok, Geo.Wg_lift] at this
    have k : ¬ 0 < Geo.Wn px py u v c d := by
      intro k
      rw [decide_eq_true k] at this
      cases this
    exact Int.not_lt.1 k

set_option maxRecDepth 100000 in
set_option maxHeartbeats 2000000 in
theorem bound_lines (px py : Nat → Int) (n : Nat) [NeZero n] (qb qo cap lcap : Nat) (la : Option Addr) (xs : List (Int × Int)) (w : World) (hp : Pts w qb qo n px py) (h3 : 3 ≤ n) (hn : n ≤ 40) (hcap : n ≤ cap) (hr : refI px py n = 0) (hl : LnI w la xs) (hlc : xs.length ≤ lcap) (hlr : lineI px py n xs = 0) :
    Calls Tryz.prog 25 #[.slice (some ⟨qb, qo, none⟩) n cap, .slice la xs.length lcap] w fun e w' => Below w.heap.size w w' ∧ ∃ (g cp : Nat) (d : Array T3) (M : Nat → Nat → Option Nat) (hs : List Nat), e = .returned (.tuple #[.slice (some ⟨g, 0, none⟩) d.size cp, .int .i64 0]) ∧ w.heap.size ≤ g ∧ d.size ≤ 1600 ∧ w'.ownsRow w.heap.size 46 3 (.slice (some ⟨g, 0, none⟩) d.size cp) d.size (flat3 d.toList) ∧ Tris M d ∧ Msh px py n M hs ∧ Lnd px py M (toN xs) := by
  have c1 := refusal_any px py n qb qo cap w hp h3 hn hcap
  rw [hr] at c1
  have C1 := hid c1
  have HP := hid hp
  have LO := lineI_ok hlr
  have HLO := hid LO
  have HL := hid hl
  have hx20 := LO.1
  have hA : allB px py n = true := by
    cases h : allB px py n with
    | true => rfl
    | false => simp [refI, h] at hr
  have hbd : ∀ i, i < n → (-1000 ≤ px i ∧ px i ≤ 1000) ∧ (-1000 ≤ py i ∧ py i ≤ 1000) := by
    intro i hi
    have := (allB_iff px py n).1 hA i hi
    exact ⟨(near_iff _).1 this.1, (near_iff _).1 this.2⟩
  have HBD := hid hbd
  have HRR := hid hr
  have HLR := hid hlr
  obtain ⟨k, hk⟩ : ∃ k, k = xs.length := ⟨_, rfl⟩
  have HK := hid hk
  rw [← hk] at hx20 hlc ⊢
  clear hp c1 hr hA hbd LO hl hlr hk
  go_enter Tryz.func25, Tryz.ntmps25
  go_wp2_with fail
  refine C1.out.mono ?_
  rintro e w1 ⟨rfl, hb1⟩
  have c2 := lineRef_any px py n qb qo cap lcap la xs w1 (HP.out.below hb1 HP.out.lt) hn HBD.out (HL.out.below hb1) (by rw [← HK.out]; omega) (by rw [← HK.out]; exact hlc)
  rw [HLR.out, ← HK.out] at c2
  have C2 := hid c2
  have HB1 := hid hb1
  clear C1 hb1 c2
  go_wp2_with fail
  refine C2.out.mono ?_
  rintro e w2 ⟨rfl, hb2⟩
  have HB2 := hid (HB1.out.trans (hb2.mono HB1.out.size))
  have c3 := hid (places_any px py n qb qo cap w2 (HP.out.below HB2.out HP.out.lt) hn HBD.out)
  clear C2 hb2 HB1
  go_wp2_with fail
  refine c3.out.mono ?_
  rintro e w3 ⟨rfl, hb3, hp3⟩
  have HB3 := hid (HB2.out.trans (hb3.mono HB2.out.size))
  have PL3 := hid hp3.lt
  have c4 := hid (new_any px py n w2.heap.size 0 n w3 hp3 hn)
  clear c3 hb3 hp3
  go_wp2_with fail
  refine c4.out.mono ?_
  rintro e w4 ⟨mb, bm, rfl, hmb, hbm, hb4, dd, hdd, hperm, hsort, hM4⟩
  have HB4 := hid (HB3.out.trans (hb4.mono HB3.out.size))
  have MS := hid (msh0 h3 hn HRR.out hdd hperm hsort)
  have OD := hid (ord0 h3 HRR.out hdd hperm hsort)
  have HMB := hid (And.intro hmb hbm)
  have c5 := drawAll_any mb bm w2.heap.size 0 n n lcap px py _ la (toN xs) w4 hn (hM4.tight MS.out.mesh hn) MS.out.mesh MS.out.cor (refI_inj HRR.out) (by have := PL3.out; omega) ((HL.out.below HB4.out).toN HLO.out.2.1) (by rw [toN_len, ← HK.out]; omega) HLO.out.2.2
  rw [toN_len, ← HK.out] at c5
  have C5 := hid c5
  clear c4 hb4 hM4 hperm hsort hdd hmb hbm c5
  go_wp2_with fail
  refine C5.out.mono ?_
  rintro e w5 ⟨rfl, M5, lv, ls, hM5, hd5, hm5, hc5, hr5, hls5, hj5, hu5, hv5⟩
  have HB5 : Hid (Below w.heap.size w w5) := hid (HB4.out.trans ⟨hd5.os, hd5.tape, hd5.output, hd5.size, fun k hk => hd5.block k (by have := HB4.out.size; omega) (by have := HMB.out.1; have := HB3.out.size; omega) (by have := HMB.out.2; have := HB3.out.size; omega) (fun e => by cases e)⟩)
  have HJ := hid (And.intro hu5 hv5)
  have sum5 : Sd n M5 (fun u v _ => Geo.c2 px py u v) = fanI px py (hullOf (T px py) (nums dd)) ((hullOf (T px py) (nums dd)).length - 2) := by
    have key : ∀ M, Geo.Reach px py n (mesh0 px py (nums dd)) M → Sd n M (fun u v _ => Geo.c2 px py u v) = Sd n (mesh0 px py (nums dd)) (fun u v _ => Geo.c2 px py u v) := by
      exact fun M h => h (fun M => Sd n M (fun u v _ => Geo.c2 px py u v) = Sd n (mesh0 px py (nums dd)) (fun u v _ => Geo.c2 px py u v)) rfl fun M a b c d ih hm q => by rw [sum_flip hm q, ih]
    rw [key M5 hr5]
    exact MS.out.sum
  have c6 := hid (round_any mb bm w2.heap.size 0 n n px py M5 lv ls (fun M => (Sd n M (fun u v _ => Geo.c2 px py u v) = fanI px py (hullOf (T px py) (nums dd)) ((hullOf (T px py) (nums dd)).length - 2) ∧ Geo.Reach px py n (mesh0 px py (nums dd)) M) ∧ ∀ x ∈ ls, Joined M x.1 x.2) w5 hn hM5 (by omega) hm5 hc5 ⟨⟨sum5, hr5⟩, hj5⟩ (fun M a b c d hm q hok hk => ⟨⟨by rw [sum_flip hm q]; exact hk.1.1, .flip hk.1.2 hm q⟩, fun x hx => by
    have nup : up a b ∉ ls := by
      intro h
      unfold okL at hok
      rw [Bool.not_eq_true', ← Bool.not_eq_true] at hok
      exact hok (by simpa using h)
    obtain ⟨y, _, ey⟩ := hv5 x hx
    have ux : up x.1 x.2 = x := by
      rw [ey]
      unfold up
      ext <;> dsimp only <;> omega
    refine joined_flip (hk.2 x hx) (fun e => nup ?_) (fun e => nup ?_)
    · rw [← e.1, ← e.2, ux]; exact hx
    · have : up a b = up x.1 x.2 := by rw [e.1, e.2]; unfold up; rw [Nat.min_comm, Nat.max_comm]
      rw [this, ux]; exact hx⟩))
  clear C5 hM5 hd5 hm5 hc5 hr5 hls5 hj5 hu5 hv5 sum5
  go_wp2_with fail
  refine c6.out.mono ?_
  rintro e w6 ⟨rfl, hg6, M, hM6, hm6, hc6, hk6, hbad⟩
  have HB6 := hid (HB5.out.grown hg6 HB5.out.size (fun k e => by have := Option.some.inj e; have := HMB.out.2; have := HB3.out.size; omega))
  have c7 := hid (trianglesM_any mb bm 1600 w2.heap.size 0 n n px py M lv ls w6 hM6 (Nat.le_refl _) (fun a b c e => ⟨(hm6.lts e).1, (hm6.lts e).2.1⟩) hn (one_tri hm6 hc6 (by omega)))
  have MS6 : Hid (Msh px py n M (hullOf (T px py) (nums dd))) := hid ⟨hm6, hc6, hk6.1.1, MS.out.hull, MS.out.hl, MS.out.hlen, MS.out.h3, ⟨nums dd, OD.out, rfl, hk6.1.2⟩⟩
  have LC := hid (lnd_of hbad hk6.2 HJ.out.1 HJ.out.2)
  clear c6 hg6 hM6 hm6 hc6 hk6 hbad
  go_wp2_with fail
  refine c7.out.mono ?_
  rintro e w7 ⟨hb7, g, cp, d, rfl, hg7, hd7, ho7, ht7⟩
  have HB7 := hid (HB6.out.trans (hb7.mono HB6.out.size))
  have HO7 : Hid (w7.ownsRow w.heap.size 46 3 (.slice (some ⟨g, 0, none⟩) d.size cp) d.size (flat3 d.toList)) := hid ⟨ho7.1, by
    rcases ho7.2 with h2 | ⟨g', cap', cur, k1, k2, k3⟩
    · exact .inl h2
    · exact .inr ⟨g', cap', cur, k1, Nat.le_trans HB6.out.size k2, k3⟩⟩
  have HG7 := hid (Nat.le_trans HB6.out.size hg7)
  have HT7 := hid ht7
  have HD7 := hid hd7
  clear c7 hb7 hg7 hd7 ho7 ht7
  go_wp2_with fail
  go_ret2
  exact ⟨HB7.out, g, cp, d, M, _, rfl, HG7.out, HD7.out, HO7.out, HT7.out, MS6.out, LC.out⟩
end Go.Proofs.YtdbebbbceeopaaaGreat

set_option linter.unusedSimpArgs false
namespace Go.Proofs.YtdbebbbceeopaaaGreat
open Go.RowKit

theorem sgn (x : Int) : (x < 0 ∧ ¬ 0 < x) ∨ (¬ x < 0 ∧ ¬ 0 < x) ∨ (0 < x ∧ ¬ x < 0) := by omega

/-- Of opposite signs? -/
def opp (x y : Int) : Bool := (decide (0 < x) && decide (y < 0)) || (decide (x < 0) && decide (0 < y))

theorem opp_mul (x y : Int) : opp x y = decide (x * y < 0) := by
  unfold opp
  rcases sgn x with ⟨a, b⟩ | ⟨a, b⟩ | ⟨a, b⟩
  · rcases sgn y with ⟨c, d⟩ | ⟨c, d⟩ | ⟨c, d⟩
    · have := Int.mul_pos_of_neg_of_neg a c
      rw [decide_eq_false b, decide_eq_false d, decide_eq_false (show ¬ x * y < 0 by omega)]; simp
    · have : y = 0 := by omega
      subst this
      simp
    · have := Int.mul_neg_of_neg_of_pos a c
      rw [decide_eq_true a, decide_eq_true c, decide_eq_true this]; simp
  · have : x = 0 := by omega
    subst this
    simp
  · rcases sgn y with ⟨c, d⟩ | ⟨c, d⟩ | ⟨c, d⟩
    · have := Int.mul_neg_of_pos_of_neg a c
      rw [decide_eq_true a, decide_eq_true c, decide_eq_true this]; simp
    · have : y = 0 := by omega
      subst this
      simp
    · have := Int.mul_pos a c
      rw [decide_eq_false b, decide_eq_false d, decide_eq_false (show ¬ x * y < 0 by omega)]; simp

theorem opp_true {x y : Int} (h : (0 < x ∧ y < 0) ∨ (x < 0 ∧ 0 < y)) : opp x y = true := by
  unfold opp
  rcases h with ⟨a, b⟩ | ⟨a, b⟩
  · rw [decide_eq_true a, decide_eq_true b]; rfl
  · rw [decide_eq_true a, decide_eq_true b]; simp

theorem opp_false {x y : Int} (h : ¬ ((0 < x ∧ y < 0) ∨ (x < 0 ∧ 0 < y))) : opp x y = false := by
  cases e : opp x y with
  | false => rfl
  | true =>
    exfalso
    unfold opp at e
    simp at e
    exact h e

set_option maxRecDepth 100000 in
set_option maxHeartbeats 2000000 in
/-- The document's crosses. -/
theorem crosses_any (a b c d : Int) (e f g h : Int) (w : World) (A : -1000 ≤ a ∧ a ≤ 1000) (B : -1000 ≤ b ∧ b ≤ 1000) (C : -1000 ≤ c ∧ c ≤ 1000) (D : -1000 ≤ d ∧ d ≤ 1000) (E : -1000 ≤ e ∧ e ≤ 1000) (F : -1000 ≤ f ∧ f ≤ 1000) (G : -1000 ≤ g ∧ g ≤ 1000) (H : -1000 ≤ h ∧ h ≤ 1000) :
    Calls Tryz.prog 88 #[.agg #[.int .i64 a, .int .i64 b], .agg #[.int .i64 c, .int .i64 d], .agg #[.int .i64 e, .int .i64 f], .agg #[.int .i64 g, .int .i64 h]] w fun r w' => r = .returned (.bool (opp (tw a b c d e f) (tw a b c d g h) && opp (tw e f g h a b) (tw e f g h c d))) ∧ Below w.heap.size w w' := by
  have T1 := hid (fun W => rturn_any a b c d e f A B C D E F W)
  have T2 := hid (fun W => rturn_any a b c d g h A B C D G H W)
  have T3 := hid (fun W => rturn_any e f g h a b E F G H A B W)
  have T4 := hid (fun W => rturn_any e f g h c d E F G H C D W)
  clear A B C D E F G H
  obtain ⟨W1, hW1⟩ : ∃ W1 : World, W1 = (((w.alloc (.cells #[.int .i64 a, .int .i64 b] 35)).alloc (.cells #[.int .i64 c, .int .i64 d] 35)).alloc (.cells #[.int .i64 e, .int .i64 f] 35)).alloc (.cells #[.int .i64 g, .int .i64 h] 35) := ⟨_, rfl⟩
  have B1 : Hid (Below w.heap.size w W1) := hid (by rw [hW1]; exact (((((Below.refl _ _).alloc (Nat.le_refl _) _).alloc (by simp) _).alloc (by simp <;> omega) _).alloc (by simp <;> omega) _))
  have hsz : W1.heap.size = w.heap.size + 1 + 1 + 1 + 1 := by rw [hW1]; simp
  have c0 : W1.cell? ⟨w.heap.size, 0, none⟩ = some (.int .i64 a) ∧ W1.cell? ⟨w.heap.size, 1, none⟩ = some (.int .i64 b) ∧ W1.cell? ⟨w.heap.size + 1, 0, none⟩ = some (.int .i64 c) ∧ W1.cell? ⟨w.heap.size + 1, 1, none⟩ = some (.int .i64 d) ∧ W1.cell? ⟨w.heap.size + 1 + 1, 0, none⟩ = some (.int .i64 e) ∧ W1.cell? ⟨w.heap.size + 1 + 1, 1, none⟩ = some (.int .i64 f) ∧ W1.cell? ⟨w.heap.size + 1 + 1 + 1, 0, none⟩ = some (.int .i64 g) ∧ W1.cell? ⟨w.heap.size + 1 + 1 + 1, 1, none⟩ = some (.int .i64 h) := by
    rw [hW1]
    refine ⟨?_, ?_, ?_, ?_, ?_, ?_, ?_, ?_⟩
    · rw [World.cell?_alloc_past _ _ _ (by simp <;> omega), World.cell?_alloc_past _ _ _ (by simp <;> omega), World.cell?_alloc_past _ _ _ (by simp), World.cell?_alloc_at _ _ _ _ (by simp)]; rfl
    · rw [World.cell?_alloc_past _ _ _ (by simp <;> omega), World.cell?_alloc_past _ _ _ (by simp <;> omega), World.cell?_alloc_past _ _ _ (by simp), World.cell?_alloc_at _ _ _ _ (by simp)]; rfl
    · rw [World.cell?_alloc_past _ _ _ (by simp <;> omega), World.cell?_alloc_past _ _ _ (by simp), World.cell?_alloc_at _ _ _ _ (by simp)]; rfl
    · rw [World.cell?_alloc_past _ _ _ (by simp <;> omega), World.cell?_alloc_past _ _ _ (by simp), World.cell?_alloc_at _ _ _ _ (by simp)]; rfl
    · rw [World.cell?_alloc_past _ _ _ (by simp), World.cell?_alloc_at _ _ _ _ (by simp)]; rfl
    · rw [World.cell?_alloc_past _ _ _ (by simp), World.cell?_alloc_at _ _ _ _ (by simp)]; rfl
    · rw [World.cell?_alloc_at _ _ _ _ (by simp)]; rfl
    · rw [World.cell?_alloc_at _ _ _ _ (by simp)]; rfl
  have KEEP : Hid (∀ W, Below W1.heap.size W1 W → W.cell? ⟨w.heap.size, 0, none⟩ = some (.int .i64 a) ∧ W.cell? ⟨w.heap.size, 1, none⟩ = some (.int .i64 b) ∧ W.cell? ⟨w.heap.size + 1, 0, none⟩ = some (.int .i64 c) ∧ W.cell? ⟨w.heap.size + 1, 1, none⟩ = some (.int .i64 d) ∧ W.cell? ⟨w.heap.size + 1 + 1, 0, none⟩ = some (.int .i64 e) ∧ W.cell? ⟨w.heap.size + 1 + 1, 1, none⟩ = some (.int .i64 f) ∧ W.cell? ⟨w.heap.size + 1 + 1 + 1, 0, none⟩ = some (.int .i64 g) ∧ W.cell? ⟨w.heap.size + 1 + 1 + 1, 1, none⟩ = some (.int .i64 h)) := hid fun W hW => by
    obtain ⟨k0, k1, k2, k3, k4, k5, k6, k7⟩ := c0
    exact ⟨(hW.cell (by show w.heap.size < _; omega)).trans k0, (hW.cell (by show w.heap.size < _; omega)).trans k1, (hW.cell (by show w.heap.size + 1 < _; omega)).trans k2, (hW.cell (by show w.heap.size + 1 < _; omega)).trans k3, (hW.cell (by show w.heap.size + 1 + 1 < _; omega)).trans k4, (hW.cell (by show w.heap.size + 1 + 1 < _; omega)).trans k5, (hW.cell (by show w.heap.size + 1 + 1 + 1 < _; omega)).trans k6, (hW.cell (by show w.heap.size + 1 + 1 + 1 < _; omega)).trans k7⟩
  clear c0 hsz
  generalize tw a b c d e f = one at *
  generalize tw a b c d g h = two at *
  generalize tw e f g h a b = three at *
  generalize tw e f g h c d = four at *
  obtain ⟨r, hr⟩ : ∃ r, r = (opp one two && opp three four) := ⟨_, rfl⟩
  rw [← hr]
  have HR := hid hr
  clear hr
  go_enter Tryz.func88, Tryz.ntmps88
  go_wp2_with fail
  rw [← hW1]
  clear hW1
  refine (T1.out _).mono ?_
  rintro x w2 ⟨rfl, hb2⟩
  have HB2 := hid hb2
  clear hb2
  obtain ⟨k0, k1, k2, k3, k4, k5, k6, k7⟩ := KEEP.out w2 HB2.out
  go_wp2_with fail
  refine (T2.out _).mono ?_
  rintro x w3 ⟨rfl, hb3⟩
  have HB3 := hid (HB2.out.trans (hb3.mono HB2.out.size))
  clear hb3 k0 k1 k2 k3 k4 k5 k6 k7
  obtain ⟨k0, k1, k2, k3, k4, k5, k6, k7⟩ := KEEP.out w3 HB3.out
  go_wp2_with fail
  refine (T3.out _).mono ?_
  rintro x w4 ⟨rfl, hb4⟩
  have HB4 := hid (HB3.out.trans (hb4.mono HB3.out.size))
  clear hb4 k0 k1 k2 k3 k4 k5 k6 k7
  obtain ⟨k0, k1, k2, k3, k4, k5, k6, k7⟩ := KEEP.out w4 HB4.out
  go_wp2_with fail
  refine (T4.out _).mono ?_
  rintro x w5 ⟨rfl, hb5⟩
  have HB5 := hid (B1.out.trans ((HB4.out.trans (hb5.mono HB4.out.size)).mono B1.out.size))
  clear hb5 k0 k1 k2 k3 k4 k5 k6 k7 KEEP T1 T2 T3 T4 HB2 HB3 HB4
  by_cases g12 : (0 < one ∧ two < 0) ∨ (one < 0 ∧ 0 < two)
  · have G1 := opp_true g12
    by_cases g34 : (0 < three ∧ four < 0) ∨ (three < 0 ∧ 0 < four)
    · have G2 := opp_true g34
      have e : r = true := by rw [HR.out, G1, G2]; rfl
      subst e
      clear G1 G2 HR
      rcases g12 with ⟨p1, p2⟩ | ⟨p1, p2⟩ <;> rcases g34 with ⟨p3, p4⟩ | ⟨p3, p4⟩
      all_goals
        have n1 : ¬ (0 < one ∧ one < 0) := by omega
        try have m1 : ¬ 0 < one := by omega
        try have m2 : ¬ one < 0 := by omega
        try have m3 : ¬ 0 < three := by omega
        try have m4 : ¬ three < 0 := by omega
        clear n1
        go_wp2_with fail
        go_ret
        exact ⟨rfl, HB5.out⟩
    · have G2 := opp_false g34
      have e : r = false := by rw [HR.out, G2]; simp
      subst e
      clear G1 G2 HR
      rcases g12 with ⟨p1, p2⟩ | ⟨p1, p2⟩ <;> rcases sgn three with ⟨p3, p3'⟩ | ⟨p3, p3'⟩ | ⟨p3, p3'⟩
      all_goals
        try have m1 : ¬ 0 < one := by omega
        try have m2 : ¬ one < 0 := by omega
        try have m5 : ¬ 0 < four := by omega
        try have m6 : ¬ four < 0 := by omega
        clear g34
        go_wp2_with fail
        go_ret
        refine ⟨?_, HB5.out⟩
        first
          | rfl
          | (show Ending.returned (Value.bool (decide (0 < four))) = _; rw [decide_eq_false (by omega)])
          | (show Ending.returned (Value.bool (decide (four < 0))) = _; rw [decide_eq_false (by omega)])
  · have G1 := opp_false g12
    have e : r = false := by rw [HR.out, G1]; simp
    subst e
    clear G1 HR
    rcases sgn one with ⟨p3, p3'⟩ | ⟨p3, p3'⟩ | ⟨p3, p3'⟩
    all_goals
      try have m5 : ¬ 0 < two := by omega
      try have m6 : ¬ two < 0 := by omega
      clear g12
      go_wp2_with fail
      go_ret
      exact ⟨rfl, HB5.out⟩
end Go.Proofs.YtdbebbbceeopaaaGreat

set_option linter.unusedSimpArgs false
namespace Go.Proofs.YtdbebbbceeopaaaGreat
open Go.RowKit

theorem cr_eq (px py : Nat → Int) (a b c d : Nat) : (opp (tw (px a) (py a) (px b) (py b) (px c) (py c)) (tw (px a) (py a) (px b) (py b) (px d) (py d)) && opp (tw (px c) (py c) (px d) (py d) (px a) (py a)) (tw (px c) (py c) (px d) (py d) (px b) (py b))) = crossB px py a b c d := by
  rw [opp_mul, opp_mul]
  rfl

theorem btw_eq (px py : Nat → Int) (a b p : Nat) : btwB (px a) (py a) (px b) (py b) (px p) (py p) = betwB px py a b p := by
  unfold btwB betwB
  by_cases h0 : T px py a b p = 0
  · have h0' : tw (px a) (py a) (px b) (py b) (px p) (py p) = 0 := h0
    rw [decide_eq_true h0, decide_eq_true h0']
    have dt : Geo.dt px py p a b = (px p - px a) * (px p - px b) + (py p - py a) * (py p - py b) := by unfold Geo.dt; grind
    have cross : (px p - px a) * (py p - py b) = (py p - py a) * (px p - px b) := by unfold T tw at h0; grind
    obtain ⟨X, hX⟩ : ∃ X, X = (px p - px a) * (px p - px b) := ⟨_, rfl⟩
    obtain ⟨Y, hY⟩ : ∃ Y, Y = (py p - py a) * (py p - py b) := ⟨_, rfl⟩
    have sameSign : 0 ≤ X * Y := by
      have e : X * Y = ((px p - px a) * (py p - py b)) * ((px p - px a) * (py p - py b)) := by rw [hX, hY]; grind
      rw [e]
      exact Geo.mul_self_nonneg' _
    rw [dt, ← hX, ← hY]
    have key : (X + Y < 0) ↔ (¬ (px p = px a ∧ py p = py a)) ∧ (¬ (px p = px b ∧ py p = py b)) ∧ X ≤ 0 ∧ Y ≤ 0 := by
      constructor
      · intro h
        refine ⟨?_, ?_, ?_, ?_⟩
        · rintro ⟨e1, e2⟩
          rw [e1, Int.sub_self, Int.zero_mul] at hX
          rw [e2, Int.sub_self, Int.zero_mul] at hY
          omega
        · rintro ⟨e1, e2⟩
          rw [e1, Int.sub_self, Int.mul_zero] at hX
          rw [e2, Int.sub_self, Int.mul_zero] at hY
          omega
        · rcases Int.lt_or_le 0 X with k | k
          · have : X * Y < 0 := Int.mul_neg_of_pos_of_neg k (by omega)
            omega
          · exact k
        · rcases Int.lt_or_le 0 Y with k | k
          · have : X * Y < 0 := Int.mul_neg_of_neg_of_pos (by omega) k
            omega
          · exact k
      · rintro ⟨n1, n2, x1, y1⟩
        rcases Int.lt_or_le (X + Y) 0 with k | k
        · exact k
        · exfalso
          have x0 : X = 0 := by omega
          have y0 : Y = 0 := by omega
          rw [hX] at x0
          rw [hY] at y0
          rcases Int.mul_eq_zero.1 x0 with ex | ex
          · rcases Int.mul_eq_zero.1 y0 with ey | ey
            · exact n1 ⟨by omega, by omega⟩
            · rw [ex, Int.zero_mul] at cross
              rcases Int.mul_eq_zero.1 cross.symm with q | q
              · exact n1 ⟨by omega, by omega⟩
              · exact n2 ⟨by omega, by omega⟩
          · rcases Int.mul_eq_zero.1 y0 with ey | ey
            · rw [ex, Int.mul_zero] at cross
              rcases Int.mul_eq_zero.1 cross with q | q
              · exact n1 ⟨by omega, by omega⟩
              · exact n2 ⟨by omega, by omega⟩
            · exact n2 ⟨by omega, by omega⟩
    by_cases hk : X + Y < 0
    · obtain ⟨n1, n2, x1, y1⟩ := key.1 hk
      have e1 : (px p == px a && py p == py a) = false := by
        cases h : (px p == px a && py p == py a) with
        | false => rfl
        | true => simp at h; exact absurd h n1
      have e2 : (px p == px b && py p == py b) = false := by
        cases h : (px p == px b && py p == py b) with
        | false => rfl
        | true => simp at h; exact absurd h n2
      rw [decide_eq_true hk, e1, e2, decide_eq_true x1, decide_eq_true y1]
      rfl
    · rw [decide_eq_false hk]
      cases hh : (true && !(px p == px a && py p == py a) && !(px p == px b && py p == py b) && decide (X ≤ 0) && decide (Y ≤ 0)) with
      | false => rfl
      | true =>
        exfalso
        simp at hh
        refine hk (key.2 ⟨?_, ?_, hh.1.2, hh.2⟩)
        · rintro ⟨q1, q2⟩
          rcases hh.1.1.1 with h | h
          · exact h q1
          · exact h q2
        · rintro ⟨q1, q2⟩
          rcases hh.1.1.2 with h | h
          · exact h q1
          · exact h q2
  · have h0' : ¬ tw (px a) (py a) (px b) (py b) (px p) (py p) = 0 := h0
    rw [decide_eq_false h0, decide_eq_false h0']
    rfl

set_option maxHeartbeats 1000000 in
/-- Points that are refused are so with lines, too. -/
theorem refLines_err {v la : Value} {w : World} {x : Int} (hx : x ≠ 0) (hc : Calls Tryz.prog 49 #[v] w fun e w' => e = .returned (.int .i64 x) ∧ Below w.heap.size w w') :
    Calls Tryz.prog 52 #[v, la] w fun e w' => e = .returned (.int .i64 x) ∧ Below w.heap.size w w' := by
  have C := hid hc
  have d : (x != 0) = true := by simpa using hx
  clear hc hx
  go_enter Tryz.func52, Tryz.ntmps52
  go_wp2_with fail
  refine C.out.mono ?_
  rintro e w1 ⟨rfl, hb⟩
  have HB := hid hb
  clear hb
  go_wp2_with fail
  go_ret
  exact ⟨rfl, HB.out⟩

theorem cr88 {px py : Nat → Int} {n : Nat} (hb : Bds n px py) {a b c d : Nat} (ha : a < n) (hb' : b < n) (hc : c < n) (hd : d < n) (w : World) :
    Calls Tryz.prog 88 #[.agg #[.int .i64 (px a), .int .i64 (py a)], .agg #[.int .i64 (px b), .int .i64 (py b)], .agg #[.int .i64 (px c), .int .i64 (py c)], .agg #[.int .i64 (px d), .int .i64 (py d)]] w fun r w' => r = .returned (.bool (crossB px py a b c d)) ∧ Below w.heap.size w w' := by
  have := crosses_any (px a) (py a) (px b) (py b) (px c) (py c) (px d) (py d) w (hb a ha).1 (hb a ha).2 (hb b hb').1 (hb b hb').2 (hb c hc).1 (hb c hc).2 (hb d hd).1 (hb d hd).2
  rw [cr_eq] at this
  exact this

theorem bt83 {px py : Nat → Int} {n : Nat} (hb : Bds n px py) {a b p : Nat} (ha : a < n) (hb' : b < n) (hp : p < n) (w : World) :
    Calls Tryz.prog 83 #[.agg #[.int .i64 (px a), .int .i64 (py a)], .agg #[.int .i64 (px b), .int .i64 (py b)], .agg #[.int .i64 (px p), .int .i64 (py p)]] w fun r w' => r = .returned (.bool (betwB px py a b p)) ∧ Below w.heap.size w w' := by
  have := between_any (px a) (py a) (px b) (py b) (px p) (py p) (hb a ha).1 (hb a ha).2 (hb b hb').1 (hb b hb').2 (hb p hp).1 (hb p hp).2 w
  rw [btw_eq] at this
  exact this

set_option maxRecDepth 100000 in
set_option maxHeartbeats 8000000 in
theorem refLines_any (px py : Nat → Int) (n qb qo cap lcap : Nat) (la : Option Addr) (xs : List (Int × Int)) (w : World) (hp : Pts w qb qo n px py) (h3 : 3 ≤ n) (hn : n ≤ 40) (h0 : refI px py n = 0) (hl : LnI w la xs) (hk : xs.length ≤ 8796093021952) :
    Calls Tryz.prog 52 #[.slice (some ⟨qb, qo, none⟩) n cap, .slice la xs.length lcap] w fun e w' => e = .returned (.int .i64 (lineI px py n xs)) ∧ Below w.heap.size w w' := by
  have c1 := check_any px py n qb qo cap w hp h3 hn
  rw [h0] at c1
  have C1 := hid c1
  have HP := hid hp
  have HL := hid hl
  have BDS := hid (refI_bds h0)
  obtain ⟨r, hr⟩ : ∃ r, r = lineI px py n xs := ⟨_, rfl⟩
  have R1 : Hid (20 < xs.length → r = 1) := hid (fun h => by rw [hr]; rw [lineI_eq]; rw [if_pos h])
  have R5 : Hid (¬ 20 < xs.length → (¬ ∀ x ∈ xs, Jn n x) → r = 5) := hid (fun h h' => by rw [hr]; rw [lineI_eq]; rw [if_neg h, if_pos h'])
  have R6 : Hid (¬ 20 < xs.length → (∀ x ∈ xs, Jn n x) → (∃ i, i < (toN xs).length ∧ wayB px py n (toN xs) i) → r = 6) := hid (fun h h' h'' => by rw [hr]; rw [lineI_eq]; rw [if_neg h, if_neg (fun k => k h'), if_pos h''])
  have R0 : Hid (¬ 20 < xs.length → (∀ x ∈ xs, Jn n x) → (¬ ∃ i, i < (toN xs).length ∧ wayB px py n (toN xs) i) → r = 0) := hid (fun h h' h'' => by rw [hr]; rw [lineI_eq]; rw [if_neg h, if_neg (fun k => k h'), if_neg h''])
  rw [← hr]
  obtain ⟨k, hkk⟩ : ∃ k, k = xs.length := ⟨_, rfl⟩
  have HK := hid hkk
  rw [← hkk] at hk R1 R5 R6 R0 ⊢
  clear hr hp hl hkk c1 h0
  by_cases h20 : 20 < k
  · have e := R1.out h20
    subst e
    have h20' : (20 : Int) < k := by omega
    go_enter Tryz.func52, Tryz.ntmps52
    go_wp2_with fail
    refine C1.out.mono ?_
    rintro e w1 ⟨rfl, hb⟩
    have HB := hid hb
    clear hb
    go_wp2_with fail
    go_ret
    exact ⟨rfl, HB.out⟩
  · have h20' : ¬ (20 : Int) < k := by omega
    go_enter Tryz.func52, Tryz.ntmps52
    go_wp2_with fail
    refine C1.out.mono ?_
    rintro e w1 ⟨rfl, hb⟩
    have HB1 := hid hb
    clear hb C1 R1
    go_wp2_with fail
    go_loopw [6] (fun ix wr => ∃ i : Nat, i ≤ k ∧ ix = .int .i64 i ∧ Hid (∀ r, (hr : r < xs.length) → r < i → Jn n xs[r]) ∧ Hid (Below w.heap.size w wr)) (fun ix _ => k - (intOf ix).toNat)
    case atStart => exact ⟨0, Nat.zero_le _, rfl, hid (fun r _ h => by omega), HB1⟩
    case round =>
      obtain ⟨i, hi, rfl, HJ, HB⟩ := hrel
      clear HB1
      by_cases hik : i < k
      · have hik' : (i : Int) < k := by omega
        have hix : i < xs.length := by rw [← HK.out]; exact hik
        obtain ⟨lg, lo, hla, hlg, hlc⟩ : ∃ lg lo, la = some ⟨lg, lo, none⟩ ∧ lg < w.heap.size ∧ (w.cell? ⟨lg, lo + i * 2, none⟩ = some (.int .i64 xs[i].1) ∧ w.cell? ⟨lg, lo + i * 2 + 1, none⟩ = some (.int .i64 xs[i].2)) := by
          rcases HL.out with h | ⟨g, o, e, h1, h2⟩
          · rw [h] at hix; simp at hix
          · exact ⟨g, o, e, h1, h2 i hix⟩
        subst hla
        have xc := (HB.out.cell (p := ⟨lg, lo + i * 2, none⟩) hlg).trans hlc.1
        have yc := (HB.out.cell (p := ⟨lg, lo + i * 2 + 1, none⟩) hlg).trans hlc.2
        have HNO : Hid (¬ Jn n xs[i] → ¬ ∀ x ∈ xs, Jn n x) := hid (fun h h' => h (h' _ (List.getElem_mem hix)))
        have HYES : Hid (Jn n xs[i] → ∀ r, (hr : r < xs.length) → r < i + 1 → Jn n xs[r]) := hid (fun h r hr hri => by
          rcases Nat.lt_or_ge r i with q | q
          · exact HJ.out r hr q
          · have : r = i := by omega
            subst this; exact h)
        obtain ⟨a, ha⟩ : ∃ a, a = xs[i].1 := ⟨_, rfl⟩
        obtain ⟨b, hb⟩ : ∃ b, b = xs[i].2 := ⟨_, rfl⟩
        have hab : xs[i] = (a, b) := by rw [ha, hb]
        rw [← ha] at xc
        rw [← hb] at yc
        rw [hab] at HNO HYES
        clear ha hb hab hlc
        have q1 : (0 : Int) ≤ (i : Int) := by omega
        have HB2 : Hid (∀ o, Below w.heap.size w (wr.alloc o)) := hid (fun o => HB.out.alloc HB.out.size o)
        by_cases hj : Jn n (a, b)
        · obtain ⟨⟨j1, j2⟩, ⟨j3, j4⟩, j5⟩ := id hj
          dsimp only at j1 j2 j3 j4 j5
          have g1 : ¬ a < 0 := by omega
          have g2 : ¬ (n : Int) ≤ a := by omega
          have g3 : ¬ b < 0 := by omega
          have g4 : ¬ (n : Int) ≤ b := by omega
          have g5 : (a == b) = false := by simpa using j5
          have YES := hid (HYES.out hj)
          clear hj j1 j2 j3 j4 j5 HNO HYES
          go_wp2_with fail
          go_roundw
          case rel => exact ⟨i + 1, by omega, by go_num, YES, hid (HB2.out _)⟩
          case measure => simp [intOf]; omega
        · have e := R5.out h20 (HNO.out hj)
          subst e
          clear HNO HYES R5 R6 R0
          by_cases g1 : a < 0
          · clear hj
            go_wp2_with fail
            go_ret
            exact ⟨rfl, HB2.out _⟩
          · by_cases g2 : (n : Int) ≤ a
            · clear hj
              go_wp2_with fail
              go_ret
              exact ⟨rfl, HB2.out _⟩
            · by_cases g3 : b < 0
              · clear hj
                go_wp2_with fail
                go_ret
                exact ⟨rfl, HB2.out _⟩
              · by_cases g4 : (n : Int) ≤ b
                · clear hj
                  go_wp2_with fail
                  go_ret
                  exact ⟨rfl, HB2.out _⟩
                · have g5 : (a == b) = true := by
                    cases h : (a == b) with
                    | true => rfl
                    | false => exact absurd ⟨⟨by dsimp only; omega, by dsimp only; omega⟩, ⟨by dsimp only; omega, by dsimp only; omega⟩, by simpa using h⟩ hj
                  clear hj
                  go_wp2_with fail
                  go_ret
                  exact ⟨rfl, HB2.out _⟩
      · have hii : k = i := by omega
        subst hii
        have ALL : Hid (∀ x ∈ xs, Jn n x) := hid (fun x hx => by
          obtain ⟨r, hr, rfl⟩ := List.getElem_of_mem hx
          exact HJ.out r hr (by rw [HK.out]; exact hr))
        clear R5 HJ
        obtain ⟨W9, rfl⟩ : ∃ W9, W9 = wr := ⟨wr, rfl⟩
        go_wp2_with fail
        go_loopw [8] (fun ix wr => ∃ i : Nat, i ≤ k ∧ ix = .int .i64 i ∧ Hid (∀ r, r < i → ¬ wayB px py n (toN xs) r) ∧ Hid (Below w.heap.size w wr)) (fun ix _ => k - (intOf ix).toNat)
        case atStart => exact ⟨0, Nat.zero_le _, rfl, hid (fun r h => by omega), HB⟩
        case round =>
          clear HB
          obtain ⟨i, hi, rfl, HJ, HB⟩ := hrel
          by_cases hik : i < k
          · have hik' : (i : Int) < k := by omega
            have hix : i < xs.length := by rw [← HK.out]; exact hik
            obtain ⟨lg, lo, hla, hlg, hlc⟩ : ∃ lg lo, la = some ⟨lg, lo, none⟩ ∧ lg < w.heap.size ∧ ∀ i, (hi : i < xs.length) → w.cell? ⟨lg, lo + i * 2, none⟩ = some (.int .i64 xs[i].1) ∧ w.cell? ⟨lg, lo + i * 2 + 1, none⟩ = some (.int .i64 xs[i].2) := by
              rcases HL.out with h | ⟨g, o, e, h1, h2⟩
              · rw [h] at hix; simp at hix
              · exact ⟨g, o, e, h1, h2⟩
            subst hla
            have HLC : Hid (∀ j, (hj : j < xs.length) → w.cell? ⟨lg, lo + j * 2, none⟩ = some (.int .i64 (((toN xs).getD j (0, 0)).1 : Nat)) ∧ w.cell? ⟨lg, lo + j * 2 + 1, none⟩ = some (.int .i64 (((toN xs).getD j (0, 0)).2 : Nat)) ∧ ((toN xs).getD j (0, 0)).1 < n ∧ ((toN xs).getD j (0, 0)).2 < n) := hid (fun j hj => by
              have jj := ALL.out xs[j] (List.getElem_mem hj)
              have e : (toN xs).getD j (0, 0) = (xs[j].1.toNat, xs[j].2.toNat) := by simp [toN, List.getD_eq_getElem?_getD, hj]
              have c := hlc j hj
              rw [e]
              have e1 : ((xs[j].1.toNat : Nat) : Int) = xs[j].1 := Int.toNat_of_nonneg jj.1.1
              have e2 : ((xs[j].2.toNat : Nat) : Int) = xs[j].2 := Int.toNat_of_nonneg jj.2.1.1
              obtain ⟨j1, j2, j3⟩ := jj
              dsimp only
              rw [e1, e2]
              exact ⟨c.1, c.2, by omega, by omega⟩)
            obtain ⟨cu, cv, un, vn⟩ := HLC.out i hix
            have HWB : Hid (wayB px py n (toN xs) i ↔ (∃ p, p < n ∧ betwB px py ((toN xs).getD i (0, 0)).1 ((toN xs).getD i (0, 0)).2 p = true) ∨ ∃ j, j < i ∧ crossB px py ((toN xs).getD i (0, 0)).1 ((toN xs).getD i (0, 0)).2 ((toN xs).getD j (0, 0)).1 ((toN xs).getD j (0, 0)).2 = true) := hid Iff.rfl
            obtain ⟨u, hu⟩ : ∃ u, u = ((toN xs).getD i (0, 0)).1 := ⟨_, rfl⟩
            obtain ⟨v, hv⟩ : ∃ v, v = ((toN xs).getD i (0, 0)).2 := ⟨_, rfl⟩
            rw [← hu] at cu un HWB
            rw [← hv] at cv vn HWB
            have xc := (HB.out.cell (p := ⟨lg, lo + i * 2, none⟩) hlg).trans cu
            have yc := (HB.out.cell (p := ⟨lg, lo + i * 2 + 1, none⟩) hlg).trans cv
            clear hu hv hlc cu cv
            obtain ⟨W2, hW2⟩ : ∃ W2, W2 = wr.alloc (.cells #[.int .i64 (u : Nat), .int .i64 (v : Nat)] 54) := ⟨_, rfl⟩
            have b2 : Below wr.heap.size wr W2 := by rw [hW2]; exact (Below.refl _ _).alloc (Nat.le_refl _) _
            have X0 : Hid (W2.cell? ⟨wr.heap.size, 0, none⟩ = some (.int .i64 (u : Nat))) := hid (by rw [hW2]; exact World.cell?_alloc_at _ _ _ _ rfl)
            have X1 : Hid (W2.cell? ⟨wr.heap.size, 1, none⟩ = some (.int .i64 (v : Nat))) := hid (by rw [hW2]; exact World.cell?_alloc_at _ _ _ _ rfl)
            have HB2 := hid (HB.out.trans (b2.mono HB.out.size))
            have BXL := hid (World.block_lt_of_cell? W2 _ X0.out)
            have q1 : (0 : Int) ≤ (i : Int) := by omega
            clear b2
            go_wp2_with fail
            rw [← hW2]
            clear hW2 xc yc
            obtain ⟨bx, hbx⟩ : ∃ bx, bx = wr.heap.size := ⟨_, rfl⟩
            rw [← hbx] at X0 X1 BXL ⊢
            clear hbx HB
            have KP : Hid (∀ W, Below W2.heap.size W2 W → ∀ p, p < n → W.cell? ⟨qb, qo + p * 2, none⟩ = some (.int .i64 (px p)) ∧ W.cell? ⟨qb, qo + p * 2 + 1, none⟩ = some (.int .i64 (py p))) := hid (fun W hW p hp => by
              have hpw := HP.out.below (HB2.out.trans (hW.mono HB2.out.size)) HP.out.lt
              exact ⟨hpw.x p hp, hpw.y p hp⟩)
            go_loopw [10] (fun ix wr => ∃ k' : Nat, k' ≤ i ∧ ix = .int .i64 k' ∧ Hid (∀ r, r < k' → crossB px py u v ((toN xs).getD r (0, 0)).1 ((toN xs).getD r (0, 0)).2 = false) ∧ Hid (Below W2.heap.size W2 wr)) (fun ix _ => i - (intOf ix).toNat)
            case atStart => exact ⟨0, Nat.zero_le _, rfl, hid (fun r h => by omega), hid (Below.refl _ _)⟩
            case round =>
              obtain ⟨k', hk', rfl, HC, HB⟩ := hrel
              by_cases hki : k' < i
              · have hki' : (k' : Int) < i := by omega
                have hkx : k' < xs.length := by omega
                have hkk2 : (k' : Int) < k := by omega
                obtain ⟨cu', cv', un', vn'⟩ := HLC.out k' hkx
                have HX0 : Hid (∀ b, b = crossB px py u v ((toN xs).getD k' (0, 0)).1 ((toN xs).getD k' (0, 0)).2 → (b = true → wayB px py n (toN xs) i) ∧ (b = false → ∀ r, r < k' + 1 → crossB px py u v ((toN xs).getD r (0, 0)).1 ((toN xs).getD r (0, 0)).2 = false)) := hid (fun b hb => ⟨fun h => HWB.out.2 (.inr ⟨k', hki, by rw [← hb]; exact h⟩), fun h r hr => by
                  rcases Nat.lt_or_ge r k' with q | q
                  · exact HC.out r q
                  · have : r = k' := by omega
                    subst this; rw [← hb]; exact h⟩)
                obtain ⟨u', hu'⟩ : ∃ u', u' = ((toN xs).getD k' (0, 0)).1 := ⟨_, rfl⟩
                obtain ⟨v', hv'⟩ : ∃ v', v' = ((toN xs).getD k' (0, 0)).2 := ⟨_, rfl⟩
                rw [← hu'] at cu' un' HX0
                rw [← hv'] at cv' vn' HX0
                have HBW := hid (HB2.out.trans (HB.out.mono HB2.out.size))
                have lgl : lg < wr.heap.size := Nat.lt_of_lt_of_le hlg HBW.out.size
                have qbl : qb < wr.heap.size := Nat.lt_of_lt_of_le HP.out.lt HBW.out.size
                have bxl : bx < wr.heap.size := Nat.lt_of_lt_of_le BXL.out HB.out.size
                have z1 := (HBW.out.cell (p := ⟨lg, lo + k' * 2, none⟩) hlg).trans cu'
                have z2 := (HBW.out.cell (p := ⟨lg, lo + k' * 2 + 1, none⟩) hlg).trans cv'
                have z3 := (HB.out.cell (p := ⟨bx, 0, none⟩) BXL.out).trans X0.out
                have z4 := (HB.out.cell (p := ⟨bx, 1, none⟩) BXL.out).trans X1.out
                have pu := KP.out wr HB.out u un
                have pv := KP.out wr HB.out v vn
                have pu' := KP.out wr HB.out u' un'
                have pv' := KP.out wr HB.out v' vn'
                have KEEP : Hid (∀ W, Below wr.heap.size wr W → W.cell? ⟨bx, 0, none⟩ = some (.int .i64 (u : Nat)) ∧ W.cell? ⟨bx, 1, none⟩ = some (.int .i64 (v : Nat)) ∧ W.cell? ⟨lg, lo + k' * 2, none⟩ = some (.int .i64 (u' : Nat)) ∧ W.cell? ⟨lg, lo + k' * 2 + 1, none⟩ = some (.int .i64 (v' : Nat)) ∧ W.cell? ⟨qb, qo + u * 2, none⟩ = some (.int .i64 (px u)) ∧ W.cell? ⟨qb, qo + u * 2 + 1, none⟩ = some (.int .i64 (py u)) ∧ W.cell? ⟨qb, qo + v * 2, none⟩ = some (.int .i64 (px v)) ∧ W.cell? ⟨qb, qo + v * 2 + 1, none⟩ = some (.int .i64 (py v)) ∧ W.cell? ⟨qb, qo + u' * 2, none⟩ = some (.int .i64 (px u')) ∧ W.cell? ⟨qb, qo + u' * 2 + 1, none⟩ = some (.int .i64 (py u')) ∧ W.cell? ⟨qb, qo + v' * 2, none⟩ = some (.int .i64 (px v')) ∧ W.cell? ⟨qb, qo + v' * 2 + 1, none⟩ = some (.int .i64 (py v'))) := hid fun W hW => ⟨(hW.cell (by exact bxl)).trans z3, (hW.cell (by exact bxl)).trans z4, (hW.cell (by exact lgl)).trans z1, (hW.cell (by exact lgl)).trans z2, (hW.cell (by exact qbl)).trans pu.1, (hW.cell (by exact qbl)).trans pu.2, (hW.cell (by exact qbl)).trans pv.1, (hW.cell (by exact qbl)).trans pv.2, (hW.cell (by exact qbl)).trans pu'.1, (hW.cell (by exact qbl)).trans pu'.2, (hW.cell (by exact qbl)).trans pv'.1, (hW.cell (by exact qbl)).trans pv'.2⟩
                have START := KEEP.out wr.drew (Below.refl _ _).drew
                have CR := hid (fun W => cr88 BDS.out un vn un' vn' W)
                obtain ⟨cb, hcb⟩ : ∃ cb, cb = crossB px py u v u' v' := ⟨_, rfl⟩
                rw [← hcb] at CR
                have HX1 := hid (HX0.out cb hcb)
                have e1 : (u : Int) < n := by omega
                have e2 : (v : Int) < n := by omega
                have e3 : (u' : Int) < n := by omega
                have e4 : (v' : Int) < n := by omega
                have e5 : (0 : Int) ≤ u := by omega
                have e6 : (0 : Int) ≤ v := by omega
                have e7 : (0 : Int) ≤ u' := by omega
                have e8 : (0 : Int) ≤ v' := by omega
                have e9 : (0 : Int) ≤ k' := by omega
                clear hu' hv' hcb HX0 z1 z2 z3 z4 pu pv pu' pv' cu' cv'
                go_wp2_with fail
                go_region_held3 (fun W => W.cell? ⟨bx, 0, none⟩ = some (.int .i64 (u : Nat)) ∧ W.cell? ⟨bx, 1, none⟩ = some (.int .i64 (v : Nat)) ∧ W.cell? ⟨lg, lo + k' * 2, none⟩ = some (.int .i64 (u' : Nat)) ∧ W.cell? ⟨lg, lo + k' * 2 + 1, none⟩ = some (.int .i64 (v' : Nat)) ∧ W.cell? ⟨qb, qo + u * 2, none⟩ = some (.int .i64 (px u)) ∧ W.cell? ⟨qb, qo + u * 2 + 1, none⟩ = some (.int .i64 (py u)) ∧ W.cell? ⟨qb, qo + v * 2, none⟩ = some (.int .i64 (px v)) ∧ W.cell? ⟨qb, qo + v * 2 + 1, none⟩ = some (.int .i64 (py v)) ∧ W.cell? ⟨qb, qo + u' * 2, none⟩ = some (.int .i64 (px u')) ∧ W.cell? ⟨qb, qo + u' * 2 + 1, none⟩ = some (.int .i64 (py u')) ∧ W.cell? ⟨qb, qo + v' * 2, none⟩ = some (.int .i64 (px v')) ∧ W.cell? ⟨qb, qo + v' * 2 + 1, none⟩ = some (.int .i64 (py v'))) (assumption)
                  ((go_at_call 88; refine (CR.out _).mono ?_; rintro e w6 ⟨rfl, hb6⟩; have HB6 : Hid (Below wr.heap.size wr w6) := hid ((Below.refl _ _).drew.trans hb6); have HK6 := KEEP.out w6 HB6.out; clear hb6))
                have HB7 := hid (HB.out.trans (HB6.out.mono HB.out.size))
                clear HK6 START KEEP CR HB6
                cases cb with
                | true =>
                  have e := R6.out h20 ALL.out ⟨i, by rw [toN_len]; exact hix, HX1.out.1 rfl⟩
                  subst e
                  go_wp2_with fail
                  go_ret
                  exact ⟨rfl, HB2.out.trans (HB7.out.mono HB2.out.size)⟩
                | false =>
                  have HN := hid (HX1.out.2 rfl)
                  clear HX1
                  go_wp2_with fail
                  go_roundw
                  case rel => exact ⟨k' + 1, by omega, by go_num, HN, HB7⟩
                  case measure => simp [intOf]; omega
              · have hkk' : i = k' := by omega
                subst hkk'
                obtain ⟨W8, rfl⟩ : ∃ W8, W8 = wr := ⟨wr, rfl⟩
                go_wp2_with fail
                go_loopw [12] (fun ix wr => ∃ p : Nat, p ≤ n ∧ ix = .int .i64 p ∧ Hid (∀ r, r < p → betwB px py u v r = false) ∧ Hid (Below W2.heap.size W2 wr)) (fun ix _ => n - (intOf ix).toNat)
                case atStart => exact ⟨0, Nat.zero_le _, rfl, hid (fun r h => by omega), HB⟩
                case round =>
                  clear HB
                  obtain ⟨p, hp, rfl, HF, HB⟩ := hrel
                  by_cases hpn : p < n
                  · have hpn' : (p : Int) < n := by omega
                    have HX0 : Hid (∀ b, b = betwB px py u v p → (b = true → wayB px py n (toN xs) i) ∧ (b = false → ∀ r, r < p + 1 → betwB px py u v r = false)) := hid (fun b hb => ⟨fun h => HWB.out.2 (.inl ⟨p, hpn, by rw [← hb]; exact h⟩), fun h r hr => by
                      rcases Nat.lt_or_ge r p with q | q
                      · exact HF.out r q
                      · have : r = p := by omega
                        subst this; rw [← hb]; exact h⟩)
                    have HBW := hid (HB2.out.trans (HB.out.mono HB2.out.size))
                    have qbl : qb < wr.heap.size := Nat.lt_of_lt_of_le HP.out.lt HBW.out.size
                    have bxl : bx < wr.heap.size := Nat.lt_of_lt_of_le BXL.out HB.out.size
                    have z3 := (HB.out.cell (p := ⟨bx, 0, none⟩) BXL.out).trans X0.out
                    have z4 := (HB.out.cell (p := ⟨bx, 1, none⟩) BXL.out).trans X1.out
                    have pu := KP.out wr HB.out u un
                    have pv := KP.out wr HB.out v vn
                    have pp := KP.out wr HB.out p hpn
                    have KEEP : Hid (∀ W, Below wr.heap.size wr W → W.cell? ⟨bx, 0, none⟩ = some (.int .i64 (u : Nat)) ∧ W.cell? ⟨bx, 1, none⟩ = some (.int .i64 (v : Nat)) ∧ W.cell? ⟨qb, qo + u * 2, none⟩ = some (.int .i64 (px u)) ∧ W.cell? ⟨qb, qo + u * 2 + 1, none⟩ = some (.int .i64 (py u)) ∧ W.cell? ⟨qb, qo + v * 2, none⟩ = some (.int .i64 (px v)) ∧ W.cell? ⟨qb, qo + v * 2 + 1, none⟩ = some (.int .i64 (py v)) ∧ W.cell? ⟨qb, qo + p * 2, none⟩ = some (.int .i64 (px p)) ∧ W.cell? ⟨qb, qo + p * 2 + 1, none⟩ = some (.int .i64 (py p))) := hid fun W hW => ⟨(hW.cell (by exact bxl)).trans z3, (hW.cell (by exact bxl)).trans z4, (hW.cell (by exact qbl)).trans pu.1, (hW.cell (by exact qbl)).trans pu.2, (hW.cell (by exact qbl)).trans pv.1, (hW.cell (by exact qbl)).trans pv.2, (hW.cell (by exact qbl)).trans pp.1, (hW.cell (by exact qbl)).trans pp.2⟩
                    have START := KEEP.out wr.drew (Below.refl _ _).drew
                    have CR := hid (fun W => bt83 BDS.out un vn hpn W)
                    obtain ⟨cb, hcb⟩ : ∃ cb, cb = betwB px py u v p := ⟨_, rfl⟩
                    rw [← hcb] at CR
                    have HX1 := hid (HX0.out cb hcb)
                    have e1 : (u : Int) < n := by omega
                    have e2 : (v : Int) < n := by omega
                    have e5 : (0 : Int) ≤ u := by omega
                    have e6 : (0 : Int) ≤ v := by omega
                    have e9 : (0 : Int) ≤ p := by omega
                    clear hcb HX0 z3 z4 pu pv pp
                    go_wp2_with fail
                    go_region_held3 (fun W => W.cell? ⟨bx, 0, none⟩ = some (.int .i64 (u : Nat)) ∧ W.cell? ⟨bx, 1, none⟩ = some (.int .i64 (v : Nat)) ∧ W.cell? ⟨qb, qo + u * 2, none⟩ = some (.int .i64 (px u)) ∧ W.cell? ⟨qb, qo + u * 2 + 1, none⟩ = some (.int .i64 (py u)) ∧ W.cell? ⟨qb, qo + v * 2, none⟩ = some (.int .i64 (px v)) ∧ W.cell? ⟨qb, qo + v * 2 + 1, none⟩ = some (.int .i64 (py v)) ∧ W.cell? ⟨qb, qo + p * 2, none⟩ = some (.int .i64 (px p)) ∧ W.cell? ⟨qb, qo + p * 2 + 1, none⟩ = some (.int .i64 (py p))) (assumption)
                      ((go_at_call 83; refine (CR.out _).mono ?_; rintro e w6 ⟨rfl, hb6⟩; have HB6 : Hid (Below wr.heap.size wr w6) := hid ((Below.refl _ _).drew.trans hb6); have HK6 := KEEP.out w6 HB6.out; clear hb6))
                    have HB7 := hid (HB.out.trans (HB6.out.mono HB.out.size))
                    clear HK6 START KEEP CR HB6
                    cases cb with
                    | true =>
                      have e := R6.out h20 ALL.out ⟨i, by rw [toN_len]; exact hix, HX1.out.1 rfl⟩
                      subst e
                      go_wp2_with fail
                      go_ret
                      exact ⟨rfl, HB2.out.trans (HB7.out.mono HB2.out.size)⟩
                    | false =>
                      have HN := hid (HX1.out.2 rfl)
                      clear HX1
                      go_wp2_with fail
                      go_roundw
                      case rel => exact ⟨p + 1, by omega, by go_num, HN, HB7⟩
                      case measure => simp [intOf]; omega
                  · have hpp : n = p := by omega
                    subst hpp
                    have HN : Hid (∀ r, r < i + 1 → ¬ wayB px py n (toN xs) r) := hid (fun r hr h => by
                      rcases Nat.lt_or_ge r i with q | q
                      · exact HJ.out r q h
                      · have : r = i := by omega
                        subst this
                        rcases HWB.out.1 h with ⟨p, hp, g⟩ | ⟨j, hj, g⟩
                        · rw [HF.out p hp] at g; cases g
                        · rw [HC.out j hj] at g; cases g)
                    go_wp2_with fail
                    go_roundw
                    case rel => exact ⟨i + 1, by omega, by go_num, HN, hid (HB2.out.trans (HB.out.mono HB2.out.size))⟩
                    case measure => simp [intOf]; omega
          · have hii : k = i := by omega
            subst hii
            have e := R0.out h20 ALL.out (fun ⟨r, hr, h⟩ => HJ.out r (by rw [toN_len, ← HK.out] at hr; exact hr) h)
            subst e
            go_wp2_with fail
            go_ret
            exact ⟨rfl, HB.out⟩

end Go.Proofs.YtdbebbbceeopaaaGreat
