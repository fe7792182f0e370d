import Derived.Test.YtdbebbbceeopaaaGreatH31
import Derived.Test.YtdbebbbceeopaaaGreatH29
set_option linter.unusedSimpArgs false
namespace Go.Proofs.YtdbebbbceeopaaaGreat
open Go.RowKit
open Geo (Mesh)
variable {px py : Nat → Int} {n m : Nat} {M : Nat → Nat → Option Nat} {A B C : Nat → Nat} {z : List Int}

theorem acr_last (z : List Int) (a b : Int) : ∀ k, ((acr z a b k).1 = 0) ∨ ∃ j, j < k ∧ 0 ≤ thirdZ z j a b ∧ (acr z a b k).2 = thirdZ z j a b
  | 0 => .inl rfl
  | k + 1 => by
    unfold acr
    by_cases h : 0 ≤ thirdZ z k a b
    · rw [if_pos h]
      exact .inr ⟨k, by omega, h, rfl⟩
    · rw [if_neg h]
      rcases acr_last z a b k with g | ⟨j, hj, g1, g2⟩
      · exact .inl g
      · exact .inr ⟨j, by omega, g1, g2⟩

theorem Lists.acr_some (h : Lists M m A B C) (hm : Mesh px py n M) (hr : Row3 n m z A B C) {a b c : Nat} (e : M a b = some c) : (acr z a b m).1 = 1 ∧ (acr z a b m).2 = (c : Nat) := by
  have one := h.one hm hr a b
  have bd := acr_bd z a b m
  have nz : (acr z a b m).1 ≠ 0 := fun k => by have := h.none_of hm hr a b k; rw [e] at this; cases this
  refine ⟨by omega, ?_⟩
  rcases acr_last z a b m with g | ⟨j, hj, g1, g2⟩
  · exact absurd g nz
  · rw [g2]
    have k := (third_hit hr hj a b).1 g1
    obtain ⟨c', e', q⟩ := h.side hm hj k
    rw [e] at e'
    cases e'
    obtain ⟨z0, z1, z2⟩ := hr.z j hj
    have p := hm.pos _ _ _ (h.tri j hj).1
    have n1 := Geo.T_ne12 p
    have n2 := Geo.T_ne13 p
    have n3 := Geo.T_ne23 p
    unfold thirdZ
    rw [z0, z1, z2]
    unfold thirdI
    rcases q with ⟨q1, q2, q3⟩ | ⟨q1, q2, q3⟩ | ⟨q1, q2, q3⟩
    · rw [if_pos (by omega)]; omega
    · rw [if_neg (by omega), if_pos (by omega)]; omega
    · rw [if_neg (by omega), if_neg (by omega), if_pos (by omega)]; omega

theorem Lists.acr_none (h : Lists M m A B C) (hm : Mesh px py n M) (hr : Row3 n m z A B C) {a b : Nat} (e : M a b = none) : (acr z a b m).1 = 0 := by
  have one := h.one hm hr a b
  have bd := acr_bd z a b m
  rcases Classical.em ((acr z a b m).1 = 0) with k | k
  · exact k
  · obtain ⟨c, e'⟩ := h.some_of hm hr a b (by omega)
    rw [e] at e'
    cases e'

/-- Is there such a line? -/
def IsL (xs : List (Int × Int)) (a b : Int) : Prop := ∃ x ∈ xs, (x.1 = a ∧ x.2 = b) ∨ (x.1 = b ∧ x.2 = a)

def IsLR (xs : List (Int × Int)) (a b : Int) (e : Ending) : Prop := ∃ r : Bool, e = .returned (.bool r) ∧ (r = true ↔ IsL xs a b)

set_option maxRecDepth 100000 in
set_option maxHeartbeats 4000000 in
theorem isLine_any (lcap : Nat) (la : Option Addr) (xs : List (Int × Int)) (a b : Int) (w : World) (hl : LnI w la xs) (hk : xs.length ≤ 8796093021952) :
    Calls Tryz.prog 90 #[.slice la xs.length lcap, .int .i64 a, .int .i64 b] w fun e w' => IsLR xs a b e ∧ Below w.heap.size w w' := by
  have HL := hid hl
  obtain ⟨k, hkk⟩ : ∃ k, k = xs.length := ⟨_, rfl⟩
  have HK := hid hkk
  rw [← hkk] at hk ⊢
  clear hl hkk
  go_enter Tryz.func90, Tryz.ntmps90
  go_wp2_with fail
  go_loopw [7] (fun ix wr => ∃ i : Nat, i ≤ k ∧ ix = .int .i64 i ∧ Hid (∀ r, (hr : r < xs.length) → r < i → ¬ ((xs[r].1 = a ∧ xs[r].2 = b) ∨ (xs[r].1 = b ∧ xs[r].2 = a))) ∧ Hid (Below w.heap.size w wr)) (fun ix _ => k - (intOf ix).toNat)
  case atStart => exact ⟨0, Nat.zero_le _, rfl, hid (fun r _ h => by omega), hid (Below.refl _ _)⟩
  case round =>
    obtain ⟨i, hi, rfl, HJ, HB⟩ := hrel
    by_cases hik : i < k
    · have hik' : (i : Int) < k := by omega
      have hix : i < xs.length := by rw [← HK.out]; exact hik
      obtain ⟨lg, lo, hla, hlg, hlc⟩ : ∃ lg lo, la = some ⟨lg, lo, none⟩ ∧ lg < w.heap.size ∧ (w.cell? ⟨lg, lo + i * 2, none⟩ = some (.int .i64 xs[i].1) ∧ w.cell? ⟨lg, lo + i * 2 + 1, none⟩ = some (.int .i64 xs[i].2)) := by
        rcases HL.out with h | ⟨g, o, e, h1, h2⟩
        · rw [h] at hix; simp at hix
        · exact ⟨g, o, e, h1, h2 i hix⟩
      subst hla
      have xc := (HB.out.cell (p := ⟨lg, lo + i * 2, none⟩) hlg).trans hlc.1
      have yc := (HB.out.cell (p := ⟨lg, lo + i * 2 + 1, none⟩) hlg).trans hlc.2
      have HNO : Hid ((¬ ((xs[i].1 = a ∧ xs[i].2 = b) ∨ (xs[i].1 = b ∧ xs[i].2 = a))) → ∀ r, (hr : r < xs.length) → r < i + 1 → ¬ ((xs[r].1 = a ∧ xs[r].2 = b) ∨ (xs[r].1 = b ∧ xs[r].2 = a))) := hid (fun h r hr hri => by
        rcases Nat.lt_or_ge r i with q | q
        · exact HJ.out r hr q
        · have : r = i := by omega
          subst this; exact h)
      have HYES : Hid (((xs[i].1 = a ∧ xs[i].2 = b) ∨ (xs[i].1 = b ∧ xs[i].2 = a)) → IsL xs a b) := hid (fun h => ⟨xs[i], List.getElem_mem hix, h⟩)
      obtain ⟨u, hu⟩ : ∃ u, u = xs[i].1 := ⟨_, rfl⟩
      obtain ⟨v, hv⟩ : ∃ v, v = xs[i].2 := ⟨_, rfl⟩
      rw [← hu] at xc HNO HYES
      rw [← hv] at yc HNO HYES
      clear hu hv hlc
      have q1 : (0 : Int) ≤ (i : Int) := by omega
      obtain ⟨c1, hc1⟩ : ∃ c, (u == a) = c := ⟨_, rfl⟩
      obtain ⟨c2, hc2⟩ : ∃ c, (v == b) = c := ⟨_, rfl⟩
      obtain ⟨c3, hc3⟩ : ∃ c, (u == b) = c := ⟨_, rfl⟩
      obtain ⟨c4, hc4⟩ : ∃ c, (v == a) = c := ⟨_, rfl⟩
      have HQ : Hid (((u = a ∧ v = b) ∨ (u = b ∧ v = a)) ↔ ((c1 && c2) || (c3 && c4)) = true) := hid (by rw [← hc1, ← hc2, ← hc3, ← hc4]; simp)
      rcases hcc : ((c1 && c2) || (c3 && c4)) with _ | _
      · have NO := hid (HNO.out (fun h => by have := HQ.out.1 h; rw [hcc] at this; cases this))
        clear HNO HYES HQ
        cases c1 <;> cases c2 <;> cases c3 <;> cases c4 <;> first | (simp at hcc; done) | skip
        all_goals
          clear hcc
          go_wp2_with fail
          first
            | go_quiet (fail)
            | skip
          go_wp2_with fail
          go_roundw
          case rel => exact ⟨i + 1, by omega, by go_num, NO, hid (by first | exact HB.out | exact below_drewN HB.out _)⟩
          case measure => simp [intOf]; omega
      · have YES := hid (HYES.out (HQ.out.2 hcc))
        clear HNO HYES HQ
        cases c1 <;> cases c2 <;> cases c3 <;> cases c4 <;> first | (simp at hcc; done) | skip
        all_goals
          clear hcc
          go_wp2_with fail
          first
            | go_quiet (fail)
            | skip
          go_wp2_with fail
          go_ret
          exact ⟨⟨true, rfl, ⟨fun _ => YES.out, fun _ => rfl⟩⟩, by first | exact HB.out | exact below_drewN HB.out _⟩
    · have hii : k = i := by omega
      subst hii
      go_wp2_with fail
      go_ret
      exact ⟨⟨false, rfl, ⟨fun h => (by cases h), fun ⟨x, hx, h⟩ => by
        obtain ⟨r, hr, rfl⟩ := List.getElem_of_mem hx
        exact absurd h (HJ.out r hr (by rw [HK.out]; exact hr))⟩⟩, HB.out⟩
end Go.Proofs.YtdbebbbceeopaaaGreat

set_option linter.unusedSimpArgs false
namespace Go.Proofs.YtdbebbbceeopaaaGreat
open Go.RowKit
open Geo (Mesh)

theorem toN_line {n : Nat} {xs : List (Int × Int)} (hj : ∀ x ∈ xs, Jn n x) {u v : Nat} (h : ¬ IsL xs u v) : ¬ ∃ y ∈ toN xs, (y.1 = u ∧ y.2 = v) ∨ (y.1 = v ∧ y.2 = u) := by
  rintro ⟨y, hy, k⟩
  obtain ⟨x, hx, rfl⟩ := List.mem_map.1 hy
  have j := hj x hx
  obtain ⟨j1, j2, _⟩ := j
  dsimp only at k
  exact h ⟨x, hx, by omega⟩

theorem wn87 {px py : Nat → Int} {n : Nat} (hb : Bds n px py) {a b c d : Nat} (ha : a < n) (hb' : b < n) (hc : c < n) (hd : d < n) (w : World) :
    Calls Tryz.prog 87 #[.agg #[.int .i64 (px a), .int .i64 (py a)], .agg #[.int .i64 (px b), .int .i64 (py b)], .agg #[.int .i64 (px c), .int .i64 (py c)], .agg #[.int .i64 (px d), .int .i64 (py d)]] w fun r w' => r = .returned (.int .i64 (Geo.Wn px py a b c d)) ∧ Below w.heap.size w w' := by
  have := rwithin_any (px a) (py a) (px b) (py b) (px c) (py c) (px d) (py d) (hb a ha).1 (hb a ha).2 (hb b hb').1 (hb b hb').2 (hb c hc).1 (hb c hc).2 (hb d hd).1 (hb d hd).2 w
  rw [wnR_Wn] at this
  exact this

set_option maxRecDepth 100000 in
set_option maxHeartbeats 8000000 in
theorem refBound_any (px py : Nat → Int) (n qb qo cap lcap g mm mcap : Nat) (la : Option Addr) (xs : List (Int × Int)) (z : List Int) (A B C : Nat → Nat) (M : Nat → Nat → Option Nat) (w : World) (hp : Pts w qb qo n px py) (ht : Trs w g 0 mm z) (hn : n ≤ 40) (hm : mm ≤ 2000) (hbd : Bds n px py) (hr : Row3 n mm z A B C) (hl : LnI w la xs) (hk : xs.length ≤ 1000) (hls : Lists M mm A B C) (hme : Mesh px py n M) (hj : ∀ x ∈ xs, Jn n x) (hlnd : Lnd px py M (toN xs)) :
    Calls Tryz.prog 53 #[.slice (some ⟨qb, qo, none⟩) n cap, .slice la xs.length lcap, .slice (some ⟨g, 0, none⟩) mm mcap] w fun e w' => e = .returned (.bool true) ∧ Below w.heap.size w w' := by
  have HP := hid hp
  have HT := hid ht
  have BDS := hid hbd
  have HL := hid hl
  have ISL := hid (fun (a b : Int) W (hW : Below w.heap.size w W) => isLine_any lcap la xs a b W (hl.below hW) (by omega))
  have ACR := hid (fun (a b : Int) W (hW : Below w.heap.size w W) => across_any mm mcap (some ⟨g, 0, none⟩) z a b W (by omega) (fun _ => ⟨g, 0, rfl, ht.below hW⟩))
  have SOME := hid (fun (a b c : Nat) (e : M a b = some c) => hls.acr_some hme hr e)
  have NONE := hid (fun (a b : Nat) (e : M a b = none) => hls.acr_none hme hr e)
  have JOI : Hid (∀ i, (hi : i < xs.length) → ∃ u v : Nat, xs[i].1 = u ∧ xs[i].2 = v ∧ (M u v ≠ none ∨ M v u ≠ none)) := hid (fun i hi => by
    have jj := hj xs[i] (List.getElem_mem hi)
    have hy : (xs[i].1.toNat, xs[i].2.toNat) ∈ toN xs := List.mem_map.2 ⟨xs[i], List.getElem_mem hi, rfl⟩
    exact ⟨xs[i].1.toNat, xs[i].2.toNat, (Int.toNat_of_nonneg jj.1.1).symm, (Int.toNat_of_nonneg jj.2.1.1).symm, hlnd.jo _ hy⟩)
  have RND := hid (fun (u v c d : Nat) (e1 : M u v = some c) (e2 : M v u = some d) (h : ¬ IsL xs u v) => hlnd.rd u v c d e1 e2 (toN_line hj h))
  have LTS := hid (fun (u v c : Nat) (e : M u v = some c) => hme.lts e)
  obtain ⟨kk, hkk⟩ : ∃ kk, kk = xs.length := ⟨_, rfl⟩
  have HK := hid hkk
  rw [← hkk] at hk ISL ⊢
  clear hp ht hbd hr hl hls hme hj hlnd hkk
  go_enter Tryz.func53, Tryz.ntmps53
  go_wp2_with fail
  go_loopw [7] (fun ix wr => ∃ i : Nat, i ≤ kk ∧ ix = .int .i64 i ∧ Hid (Below w.heap.size w wr)) (fun ix _ => kk - (intOf ix).toNat)
  case atStart => exact ⟨0, Nat.zero_le _, rfl, hid (Below.refl _ _)⟩
  case round =>
    obtain ⟨i, hi, rfl, HB⟩ := hrel
    by_cases hik : i < kk
    · have hik' : (i : Int) < kk := by omega
      have hix : i < xs.length := by rw [← HK.out]; exact hik
      obtain ⟨lg, lo, hla, hlg, hlc⟩ : ∃ lg lo, la = some ⟨lg, lo, none⟩ ∧ lg < w.heap.size ∧ (w.cell? ⟨lg, lo + i * 2, none⟩ = some (.int .i64 xs[i].1) ∧ w.cell? ⟨lg, lo + i * 2 + 1, none⟩ = some (.int .i64 xs[i].2)) := by
        rcases HL.out with h | ⟨g, o, e, h1, h2⟩
        · rw [h] at hix; simp at hix
        · exact ⟨g, o, e, h1, h2 i hix⟩
      subst hla
      obtain ⟨u, v, eu, ev, hjo⟩ := JOI.out i hix
      rw [eu, ev] at hlc
      have xc := (HB.out.cell (p := ⟨lg, lo + i * 2, none⟩) hlg).trans hlc.1
      have yc := (HB.out.cell (p := ⟨lg, lo + i * 2 + 1, none⟩) hlg).trans hlc.2
      have lgl : lg < wr.heap.size := Nat.lt_of_lt_of_le hlg HB.out.size
      have HNZ : Hid ((acr z u v mm).1 + (acr z v u mm).1 ≠ 0 ∧ 0 ≤ (acr z u v mm).1 ∧ 0 ≤ (acr z v u mm).1 ∧ (acr z u v mm).1 ≤ mm ∧ (acr z v u mm).1 ≤ mm) := hid (by
        have b1 := acr_bd z u v mm
        have b2 := acr_bd z v u mm
        refine ⟨?_, b1.1, b2.1, b1.2, b2.2⟩
        rcases hjo with h | h
        · cases e : M u v with
          | none => exact absurd e h
          | some c => have := (SOME.out u v c e).1; omega
        · cases e : M v u with
          | none => exact absurd e h
          | some c => have := (SOME.out v u c e).1; omega)
      have AC1 := hid (ACR.out (u : Nat) (v : Nat))
      have AC2 := hid (ACR.out (v : Nat) (u : Nat))
      obtain ⟨s1, hs1⟩ : ∃ s1, s1 = (acr z u v mm).1 := ⟨_, rfl⟩
      obtain ⟨s2, hs2⟩ : ∃ s2, s2 = (acr z v u mm).1 := ⟨_, rfl⟩
      obtain ⟨r1, hr1⟩ : ∃ r1, r1 = (acr z u v mm).2 := ⟨_, rfl⟩
      obtain ⟨r2, hr2⟩ : ∃ r2, r2 = (acr z v u mm).2 := ⟨_, rfl⟩
      rw [← hs1, ← hr1] at AC1
      rw [← hs2, ← hr2] at AC2
      rw [← hs1, ← hs2] at HNZ
      have nz := HNZ.out
      have wr1 : IntKind.i64.wrap (s1 + s2) = s1 + s2 := by rw [IntKind.wrap_i64]; omega
      have dnz : (s1 + s2 == 0) = false := by simp; omega
      have KEEP : Hid (∀ W, Below wr.heap.size wr W → W.cell? ⟨lg, lo + i * 2, none⟩ = some (.int .i64 (u : Nat)) ∧ W.cell? ⟨lg, lo + i * 2 + 1, none⟩ = some (.int .i64 (v : Nat))) := hid fun W hW => ⟨(hW.cell (by exact lgl)).trans xc, (hW.cell (by exact lgl)).trans yc⟩
      have START := KEEP.out wr.drew (Below.refl _ _).drew
      have q1 : (0 : Int) ≤ (i : Int) := by omega
      have HBT : Hid (∀ W, Below wr.heap.size wr W → Below w.heap.size w W) := hid (fun W hW => HB.out.trans (hW.mono HB.out.size))
      clear hs1 hs2 hr1 hr2 nz eu ev hjo hlc
      go_wp2_with fail
      go_region_held3 (fun W => W.cell? ⟨lg, lo + i * 2, none⟩ = some (.int .i64 (u : Nat)) ∧ W.cell? ⟨lg, lo + i * 2 + 1, none⟩ = some (.int .i64 (v : Nat))) (assumption)
        ((go_at_call 89; refine (AC1.out _ (HBT.out _ (Below.refl _ _).drew)).mono ?_; rintro e w6 ⟨rfl, hb6⟩; have HB6 : Hid (Below wr.heap.size wr w6) := hid ((Below.refl _ _).drew.trans hb6); have HK6 := KEEP.out w6 HB6.out; clear hb6))
      have START := KEEP.out w6.drew HB6.out.drew
      clear HK6
      go_wp2_with fail
      go_region_held3 (fun W => W.cell? ⟨lg, lo + i * 2, none⟩ = some (.int .i64 (u : Nat)) ∧ W.cell? ⟨lg, lo + i * 2 + 1, none⟩ = some (.int .i64 (v : Nat))) (assumption)
        ((go_at_call 89; refine (AC2.out _ (HBT.out _ HB6.out.drew)).mono ?_; rintro e w8 ⟨rfl, hb8⟩; have HB8 : Hid (Below wr.heap.size wr w8) := hid (HB6.out.drew.trans (hb8.mono HB6.out.size)); have HK8 := KEEP.out w8 HB8.out; clear hb8))
      have HB9 := hid (HBT.out _ HB8.out)
      clear HK8 START KEEP HB6 HB8 HBT xc yc
      go_wp2_with fail
      go_roundw
      case rel => exact ⟨i + 1, by omega, by go_num, HB9⟩
      case measure => simp [intOf]; omega
    · have hii : kk = i := by omega
      subst hii
      obtain ⟨W9, rfl⟩ : ∃ W9, W9 = wr := ⟨wr, rfl⟩
      clear JOI
      go_wp2_with fail
      go_loopw [12] (fun ix wr => ∃ i : Nat, i ≤ n ∧ ix = .int .i64 i ∧ Hid (Below w.heap.size w wr)) (fun ix _ => n - (intOf ix).toNat)
      case atStart => exact ⟨0, Nat.zero_le _, rfl, HB⟩
      case round =>
        clear HB
        obtain ⟨i, hi, rfl, HB⟩ := hrel
        by_cases hin : i < n
        · have hin' : (i : Int) < n := by omega
          obtain ⟨W8, rfl⟩ : ∃ W8, W8 = wr := ⟨wr, rfl⟩
          go_wp2_with fail
          go_loopw [13] (fun ix wr => ∃ k : Nat, k ≤ n ∧ ix = .int .i64 k ∧ Hid (Below w.heap.size w wr)) (fun ix _ => n - (intOf ix).toNat)
          case atStart => exact ⟨0, Nat.zero_le _, rfl, HB⟩
          case round =>
            clear HB
            obtain ⟨k, hk', rfl, HB⟩ := hrel
            by_cases hkn : k < n
            · have hkn' : (k : Int) < n := by omega
              have AC1 := hid (ACR.out (i : Nat) (k : Nat))
              have AC2 := hid (ACR.out (k : Nat) (i : Nat))
              have F1 : Hid ((M i k = none ∧ (acr z i k mm).1 = 0) ∨ ∃ c : Nat, c < n ∧ M i k = some c ∧ (acr z i k mm).1 = 1 ∧ (acr z i k mm).2 = c) := hid (by
                cases e : M i k with
                | none => exact .inl ⟨rfl, NONE.out i k e⟩
                | some c => exact .inr ⟨c, (LTS.out i k c e).2.2, rfl, SOME.out i k c e⟩)
              have F2 : Hid ((M k i = none ∧ (acr z k i mm).1 = 0) ∨ ∃ c : Nat, c < n ∧ M k i = some c ∧ (acr z k i mm).1 = 1 ∧ (acr z k i mm).2 = c) := hid (by
                cases e : M k i with
                | none => exact .inl ⟨rfl, NONE.out k i e⟩
                | some c => exact .inr ⟨c, (LTS.out k i c e).2.2, rfl, SOME.out k i c e⟩)
              obtain ⟨s1, hs1⟩ : ∃ s1, s1 = (acr z i k mm).1 := ⟨_, rfl⟩
              obtain ⟨s2, hs2⟩ : ∃ s2, s2 = (acr z k i mm).1 := ⟨_, rfl⟩
              obtain ⟨r1, hr1⟩ : ∃ r1, r1 = (acr z i k mm).2 := ⟨_, rfl⟩
              obtain ⟨r2, hr2⟩ : ∃ r2, r2 = (acr z k i mm).2 := ⟨_, rfl⟩
              rw [← hs1, ← hr1] at AC1 F1
              rw [← hs2, ← hr2] at AC2 F2
              have IL := hid (ISL.out (i : Nat) (k : Nat))
              clear hs1 hs2 hr1 hr2
              go_wp2_with fail
              refine (AC1.out _ HB.out).mono ?_
              rintro e w2 ⟨rfl, hb2⟩
              have HB2 := hid (HB.out.trans (hb2.mono HB.out.size))
              clear hb2
              go_wp2_with fail
              refine (AC2.out _ HB2.out).mono ?_
              rintro e w3 ⟨rfl, hb3⟩
              have HB3 := hid (HB2.out.trans (hb3.mono HB2.out.size))
              clear hb3
              go_wp2_with fail
              refine (IL.out _ HB3.out).mono ?_
              rintro e w4 ⟨⟨lb, rfl, hlb⟩, hb4⟩
              have HB4 := hid (HB3.out.trans (hb4.mono HB3.out.size))
              have HLB := hid hlb
              clear hb4 hlb AC1 AC2 IL HB2 HB3
              rcases F1.out with ⟨_, e1⟩ | ⟨c, hc, m1, e1, e1'⟩
              · subst e1
                clear F1 F2
                go_wp2_with fail
                go_roundw
                case rel => exact ⟨k + 1, by omega, by go_num, HB4⟩
                case measure => simp [intOf]; omega
              · subst e1 e1'
                rcases F2.out with ⟨_, e2⟩ | ⟨d, hd, m2, e2, e2'⟩
                · subst e2
                  clear F1 F2 m1
                  go_wp2_with fail
                  go_roundw
                  case rel => exact ⟨k + 1, by omega, by go_num, HB4⟩
                  case measure => simp [intOf]; omega
                · subst e2 e2'
                  clear F1 F2
                  cases lb with
                  | true =>
                    clear m1 m2
                    go_wp2_with fail
                    go_roundw
                    case rel => exact ⟨k + 1, by omega, by go_num, HB4⟩
                    case measure => simp [intOf]; omega
                  | false =>
                    have wle := RND.out i k c d m1 m2 (fun h => by have := HLB.out.2 h; cases this)
                    have CW := hid (fun W => wn87 BDS.out hin hkn hc hd W)
                    obtain ⟨wv, hwv⟩ : ∃ wv, wv = Geo.Wn px py i k c d := ⟨_, rfl⟩
                    rw [← hwv] at CW wle
                    have hpw := HP.out.below HB4.out HP.out.lt
                    have qbl := hpw.lt
                    have KEEP : Hid (∀ W, Below w4.heap.size w4 W → W.cell? ⟨qb, qo + i * 2, none⟩ = some (.int .i64 (px i)) ∧ W.cell? ⟨qb, qo + i * 2 + 1, none⟩ = some (.int .i64 (py i)) ∧ W.cell? ⟨qb, qo + k * 2, none⟩ = some (.int .i64 (px k)) ∧ W.cell? ⟨qb, qo + k * 2 + 1, none⟩ = some (.int .i64 (py k)) ∧ W.cell? ⟨qb, qo + c * 2, none⟩ = some (.int .i64 (px c)) ∧ W.cell? ⟨qb, qo + c * 2 + 1, none⟩ = some (.int .i64 (py c)) ∧ W.cell? ⟨qb, qo + d * 2, none⟩ = some (.int .i64 (px d)) ∧ W.cell? ⟨qb, qo + d * 2 + 1, none⟩ = some (.int .i64 (py d))) := hid fun W hW => ⟨(hW.cell (by exact qbl)).trans (hpw.x i hin), (hW.cell (by exact qbl)).trans (hpw.y i hin), (hW.cell (by exact qbl)).trans (hpw.x k hkn), (hW.cell (by exact qbl)).trans (hpw.y k hkn), (hW.cell (by exact qbl)).trans (hpw.x c hc), (hW.cell (by exact qbl)).trans (hpw.y c hc), (hW.cell (by exact qbl)).trans (hpw.x d hd), (hW.cell (by exact qbl)).trans (hpw.y d hd)⟩
                    have START := KEEP.out w4.drew (Below.refl _ _).drew
                    have e1 : (0 : Int) ≤ i := by omega
                    have e2 : (0 : Int) ≤ k := by omega
                    have e3 : (0 : Int) ≤ c := by omega
                    have e4 : (0 : Int) ≤ d := by omega
                    have e5 : (c : Int) < n := by omega
                    have e6 : (d : Int) < n := by omega
                    have hle : ¬ 0 < wv := by omega
                    clear hpw hwv m1 m2 wle
                    go_wp2_with fail
                    go_region_held3 (fun W => W.cell? ⟨qb, qo + i * 2, none⟩ = some (.int .i64 (px i)) ∧ W.cell? ⟨qb, qo + i * 2 + 1, none⟩ = some (.int .i64 (py i)) ∧ W.cell? ⟨qb, qo + k * 2, none⟩ = some (.int .i64 (px k)) ∧ W.cell? ⟨qb, qo + k * 2 + 1, none⟩ = some (.int .i64 (py k)) ∧ W.cell? ⟨qb, qo + c * 2, none⟩ = some (.int .i64 (px c)) ∧ W.cell? ⟨qb, qo + c * 2 + 1, none⟩ = some (.int .i64 (py c)) ∧ W.cell? ⟨qb, qo + d * 2, none⟩ = some (.int .i64 (px d)) ∧ W.cell? ⟨qb, qo + d * 2 + 1, none⟩ = some (.int .i64 (py d))) (assumption)
                      ((go_at_call 87; refine (CW.out _).mono ?_; rintro e w6 ⟨rfl, hb6⟩; have HB6 : Hid (Below w4.heap.size w4 w6) := hid ((Below.refl _ _).drew.trans hb6); have HK6 := KEEP.out w6 HB6.out; clear hb6))
                    have HB7 := hid (HB4.out.trans (HB6.out.mono HB4.out.size))
                    clear HK6 START KEEP HB6
                    go_wp2_with fail
                    go_roundw
                    case rel => exact ⟨k + 1, by omega, by go_num, HB7⟩
                    case measure => simp [intOf]; omega
            · have hkk' : n = k := by omega
              subst hkk'
              go_wp2_with fail
              go_roundw
              case rel => exact ⟨i + 1, by omega, by go_num, HB⟩
              case measure => simp [intOf]; omega
        · have hii' : n = i := by omega
          subst hii'
          go_wp2_with fail
          go_ret
          exact ⟨rfl, HB.out⟩
end Go.Proofs.YtdbebbbceeopaaaGreat

set_option linter.unusedSimpArgs false
namespace Go.Proofs.YtdbebbbceeopaaaGreat
open Go.RowKit

/-- The lines of a list of whole numbers. -/
def lnz (z : List Int) (k : Nat) : List (Int × Int) := (List.range k).map fun j => (zx z j, zy z j)

theorem lnz_len (z : List Int) (k : Nat) : (lnz z k).length = k := by simp [lnz]

theorem lnz_pts {w : World} {g o k : Nat} {z : List Int} (h : Pts w g o k (zx z) (zy z)) : LnI w (some ⟨g, o, none⟩) (lnz z k) := by
  refine .inr ⟨g, o, rfl, h.lt, fun i hi => ?_⟩
  rw [lnz_len] at hi
  have e : (lnz z k)[i]'(by rw [lnz_len]; exact hi) = (zx z i, zy z i) := by simp [lnz]
  rw [e]
  exact ⟨h.x i hi, h.y i hi⟩

theorem lnz_src {w : World} {v : Value} {k : Nat} {z : List Int} (h : Src w v 2 k z) : ∃ p c, v = .slice p k c ∧ LnI w p (lnz z k) := by
  by_cases hk : 0 < k
  · obtain ⟨b, o, c, e, hP⟩ := h.pts hk
    exact ⟨_, c, e, lnz_pts hP⟩
  · obtain ⟨_, p, c, e, _⟩ := h
    have : k = 0 := by omega
    subst this
    exact ⟨p, c, e, .inl (by simp [lnz])⟩

set_option maxHeartbeats 1000000 in
theorem bound_err {arg la : Value} {w : World} {x : Int} (hx : x ≠ 0) (hc : Calls Tryz.prog 33 #[arg] w fun e w' => e = .returned (.int .i64 x) ∧ Below w.heap.size w w') :
    Calls Tryz.prog 25 #[arg, la] w fun e w' => e = .returned (.tuple #[.slice none 0 0, .int .i64 x]) ∧ Below w.heap.size w w' := by
  have C := hid hc
  have d : (x != 0) = true := by simpa using hx
  clear hc hx
  go_enter Tryz.func25, Tryz.ntmps25
  go_wp2_with fail
  refine C.out.mono ?_
  rintro e w1 ⟨rfl, hb⟩
  have HB := hid hb
  clear hb
  go_wp2_with fail
  go_ret2
  exact ⟨rfl, HB.out⟩

set_option maxHeartbeats 1000000 in
theorem bound_err2 {arg la : Value} {w : World} {x : Int} (hx : x ≠ 0) (hc : Calls Tryz.prog 33 #[arg] w fun e w' => e = .returned (.int .i64 0) ∧ Below w.heap.size w w') (hl : ∀ W, Below w.heap.size w W → Calls Tryz.prog 40 #[arg, la] W fun e w' => e = .returned (.int .i64 x) ∧ Below W.heap.size W w') :
    Calls Tryz.prog 25 #[arg, la] w fun e w' => e = .returned (.tuple #[.slice none 0 0, .int .i64 x]) ∧ Below w.heap.size w w' := by
  have C := hid hc
  have L := hid hl
  have d : (x != 0) = true := by simpa using hx
  clear hc hx hl
  go_enter Tryz.func25, Tryz.ntmps25
  go_wp2_with fail
  refine C.out.mono ?_
  rintro e w1 ⟨rfl, hb⟩
  have HB := hid hb
  clear hb
  go_wp2_with fail
  refine (L.out w1 HB.out).mono ?_
  rintro e w2 ⟨rfl, hb⟩
  have HB2 := hid (HB.out.trans (hb.mono HB.out.size))
  clear hb
  go_wp2_with fail
  go_ret2
  exact ⟨rfl, HB2.out⟩

set_option maxHeartbeats 1000000 in
theorem lineRef_big (pa la : Option Addr) (n cap k lcap : Nat) (w : World) (hk : 20 < k) (hk' : k ≤ 8796093021952) :
    Calls Tryz.prog 40 #[.slice pa n cap, .slice la k lcap] w fun e w' => e = .returned (.int .i64 1) ∧ Below w.heap.size w w' := by
  have h20 : (20 : Int) < k := by omega
  go_enter Tryz.func40, Tryz.ntmps40
  go_wp2_with fail
  go_ret
  exact ⟨rfl, Below.refl _ _⟩

/-- What the law asks of a list of triangles, of the points v and the lines vl, in a world that has all. -/
structure Good3 (v vl u : Value) (x : Int) (W : World) : Prop where
  chk : Calls Tryz.prog 52 #[v, vl] W fun e w' => e = .returned (.int .i64 x) ∧ Below W.heap.size W w'
  fil : x = 0 → Calls Tryz.prog 84 #[v, u] W fun e w' => e = .returned (.bool true) ∧ Below W.heap.size W w'
  bnd : x = 0 → Calls Tryz.prog 53 #[v, vl, u] W fun e w' => e = .returned (.bool true) ∧ Below W.heap.size W w'

theorem bound_step (zs zl : List Int) (n k g gl cap lcap : Nat) (v vl : Value) (W : World) (hn : n ≤ 8796093021952) (hk : k ≤ 8796093021952) (hcap : n ≤ cap) (hlc : k ≤ lcap) (hp : Pts W g 0 n (zx zs) (zy zs)) (hpl : Pts W gl 0 k (zx zl) (zy zl)) (hs : ∃ p c, v = .slice p n c) (hsl : ∃ p c, vl = .slice p k c) :
    Calls Tryz.prog 25 #[.slice (some ⟨g, 0, none⟩) n cap, .slice (some ⟨gl, 0, none⟩) k lcap] W fun e w' => ∃ u x m xs, e = .returned (.tuple #[u, .int .i64 x]) ∧ Below W.heap.size W w' ∧ w'.ownsRow W.heap.size 46 3 u m xs ∧ m ≤ 1600 ∧ (x ≠ 0 → m = 0) ∧
      ∀ W', Src W' v 2 n zs → Src W' vl 2 k zl → Below w'.heap.size w' W' → Good3 v vl u x W' := by
  by_cases hr : n < 3 ∨ 40 < n
  · refine (bound_err (x := 1) (by omega) ((refusal_count _ n cap W hr (by omega)).mono (by rintro e w' ⟨rfl, rfl⟩; exact ⟨rfl, Below.refl _ _⟩))).mono ?_
    rintro e w' ⟨rfl, hb⟩
    obtain ⟨p, c, rfl⟩ := hs
    exact ⟨_, 1, 0, [], rfl, hb, World.ownsRow_nil _ _ _ _, by simp, fun _ => rfl, fun W' _ _ _ => ⟨refLines_err (by omega) ((check_count p n c W' hr (by omega)).mono (by rintro e w' ⟨rfl, rfl⟩; exact ⟨rfl, Below.refl _ _⟩)), fun h => by omega, fun h => by omega⟩⟩
  · by_cases h0 : refI (zx zs) (zy zs) n = 0
    · have hz : NeZero n := ⟨by omega⟩
      have hbd := refI_bds h0
      have hl := lnz_pts hpl
      by_cases h1 : lineI (zx zs) (zy zs) n (lnz zl k) = 0
      · have LO := lineI_ok h1
        have bl := bound_lines (zx zs) (zy zs) n g 0 cap lcap (some ⟨gl, 0, none⟩) (lnz zl k) W hp (by omega) (by omega) hcap h0 hl (by rw [lnz_len]; exact hlc) h1
        rw [lnz_len] at bl
        refine bl.mono ?_
        rintro e w2 ⟨hb2, g2, cp, d, M, hh, rfl, hg2, hd, hown, hT, hM, hL⟩
        refine ⟨_, 0, d.size, _, rfl, hb2, hown, hd, fun h => by omega, fun W' hS hSl hb => ?_⟩
        obtain ⟨b, o, c, rfl, hP⟩ := hS.pts (by omega)
        obtain ⟨pl, cl, rfl, hLl⟩ := lnz_src hSl
        have ht := (trs_own hown).below hb
        have r1 := refLines_any (zx zs) (zy zs) n b o c cl pl (lnz zl k) W' hP (by omega) (by omega) h0 hLl (by rw [lnz_len]; omega)
        have r2 := refBound_any (zx zs) (zy zs) n b o c cl g2 d.size cp pl (lnz zl k) (dz d) (dA d) (dB d) (dC d) M W' hP ht (by omega) (by omega) hbd (hT.row3 hM.mesh) hLl (by have := LO.1; omega) hT.lists hM.mesh LO.2.1 hL
        rw [lnz_len, h1] at r1
        rw [lnz_len] at r2
        exact ⟨r1, fun _ => fills_msh _ _ n b o c g2 cp d M hh W' hP (by omega) (by omega) h0 ht hd hT hM, fun _ => r2⟩
      · have lr : ∀ W', Below W.heap.size W W' → Calls Tryz.prog 40 #[.slice (some ⟨g, 0, none⟩) n cap, .slice (some ⟨gl, 0, none⟩) k lcap] W' fun e w' => e = .returned (.int .i64 (lineI (zx zs) (zy zs) n (lnz zl k))) ∧ Below W'.heap.size W' w' := fun W' hW => by
          by_cases hbig : 20 < k
          · have e : lineI (zx zs) (zy zs) n (lnz zl k) = 1 := by rw [lineI_eq]; rw [if_pos (by rw [lnz_len]; exact hbig)]
            rw [e]
            exact lineRef_big _ _ n cap k lcap W' hbig hk
          · have := lineRef_any (zx zs) (zy zs) n g 0 cap lcap (some ⟨gl, 0, none⟩) (lnz zl k) W' (hp.below hW hp.lt) (by omega) hbd (hl.below hW) (by rw [lnz_len]; omega) (by rw [lnz_len]; exact hlc)
            rw [lnz_len] at this
            exact this
        have rf := refusal_any (zx zs) (zy zs) n g 0 cap W hp (by omega) (by omega) hcap
        rw [h0] at rf
        refine (bound_err2 h1 rf lr).mono ?_
        rintro e w' ⟨rfl, hb⟩
        refine ⟨_, _, 0, [], rfl, hb, World.ownsRow_nil _ _ _ _, by simp, fun _ => rfl, fun W' hS hSl _ => ?_⟩
        obtain ⟨b, o, c, rfl, hP⟩ := hS.pts (by omega)
        obtain ⟨pl, cl, rfl, hLl⟩ := lnz_src hSl
        have r1 := refLines_any (zx zs) (zy zs) n b o c cl pl (lnz zl k) W' hP (by omega) (by omega) h0 hLl (by rw [lnz_len]; omega)
        rw [lnz_len] at r1
        exact ⟨r1, fun h => absurd h h1, fun h => absurd h h1⟩
    · refine (bound_err h0 (refusal_any (zx zs) (zy zs) n g 0 cap W hp (by omega) (by omega) hcap)).mono ?_
      rintro e w' ⟨rfl, hb⟩
      refine ⟨_, _, 0, [], rfl, hb, World.ownsRow_nil _ _ _ _, by simp, fun _ => rfl, fun W' hS _ _ => ?_⟩
      obtain ⟨b, o, c, rfl, hP⟩ := hS.pts (by omega)
      exact ⟨refLines_err h0 (check_any (zx zs) (zy zs) n b o c W' hP (by omega) (by omega)), fun h => absurd h h0, fun h => absurd h h0⟩

end Go.Proofs.YtdbebbbceeopaaaGreat

set_option linter.unusedSimpArgs false
namespace Go.Proofs.YtdbebbbceeopaaaGreat
open Go.RowKit

theorem pts_lent2 {w : World} {g n : Nat} {zs : List Int} (h : w.heap[g]? = some (.cells (ivs zs ++ List.replicate 6 (Value.int .i64 0)).toArray 54 (0, 0))) (hz : zs.length = n * 2) : Pts w g 0 n (zx zs) (zy zs) := by
  refine ⟨heap_lt h, fun i hi => ?_, fun i hi => ?_⟩
  · rw [Nat.zero_add, heap_cell h]
    simpa [zx] using lent_get zs 6 (i * 2) (by omega)
  · rw [Nat.zero_add, heap_cell h]
    simpa [zy] using lent_get zs 6 (i * 2 + 1) (by omega)

set_option maxRecDepth 100000 in
set_option maxHeartbeats 4000000 in
theorem plays3 (w : World) (B bk : Nat) (vi : Value) (es : List (List Value)) (x y : Int) (v1 v2 v3 : Value) (n1 n2 n3 : Nat) (z1 z2 z3 : List Int) (h1 : n1 ≤ 8796093021952) (h2 : n2 ≤ 8796093021952) (h3 : n3 ≤ 8796093021952)
    {vt : Value} (hB : Bt w B w.heap.size bk vi es vt) (he : es.length ≤ 1466015504000) (s1 : Src w v1 2 n1 z1) (s2 : Src w v2 2 n2 z2) (s3 : Src w v3 3 n3 z3)
    (hq : ∀ v ∈ [v1, v2, v3], ∀ a n c, v = .slice (some a) n c → 0 < n → a.block < w.heap.size ∧ a.block ≠ bk ∧ vi.ownBlock ≠ some a.block) :
    Calls Tryz.prog 29 #[.pointer (some ⟨bk, 0, none⟩), opV 3 v1 v2 v3 x y] w fun e w' => e = .returned (.bool true) ∧ ∃ vi' e', Bt w' B w'.heap.size bk vi' (es ++ [e']) vt ∧ Kp w w' w.heap.size bk vi ∧ Ap w.heap.size vi vi' e' := by
  have HS1 := hid s1
  have HS2 := hid s2
  have HS3 := hid s3
  have HBK := hid hB
  have HQ := hid hq
  clear s1 s2 s3 hB hq
  obtain ⟨p1, c1, rfl⟩ : ∃ p c, v1 = .slice p n1 c := by obtain ⟨_, p, c, e, _⟩ := HS1.out; exact ⟨p, c, e⟩
  obtain ⟨p2, c2, rfl⟩ : ∃ p c, v2 = .slice p n2 c := by obtain ⟨_, p, c, e, _⟩ := HS2.out; exact ⟨p, c, e⟩
  obtain ⟨p3, c3, rfl⟩ : ∃ p c, v3 = .slice p n3 c := by obtain ⟨_, p, c, e, _⟩ := HS3.out; exact ⟨p, c, e⟩
  have OPV : opV 3 (.slice p1 n1 c1) (.slice p2 n2 c2) (.slice p3 n3 c3) x y = .agg #[.int .i64 3, .slice p1 n1 c1, .slice p2 n2 c2, .slice p3 n3 c3, .int .i64 x, .int .i64 y] := rfl
  rw [OPV]
  have HOPV := hid OPV
  clear OPV
  go_enter Tryz.func29, Tryz.ntmps29
  go_wp2_with fail
  obtain ⟨b0, hb0⟩ : ∃ b0, b0 = w.heap.size := ⟨_, rfl⟩
  obtain ⟨W1, hW1⟩ : ∃ W1 : World, W1 = w.alloc (.cells #[.int .i64 3, .slice p1 n1 c1, .slice p2 n2 c2, .slice p3 n3 c3, .int .i64 x, .int .i64 y] 62) := ⟨_, rfl⟩
  have bel1 : Below w.heap.size w W1 := by rw [hW1]; exact (Below.refl _ _).alloc (Nat.le_refl _) _
  have siz1 : W1.heap.size = b0 + 1 := by rw [hW1, hb0]; exact size_new _ _
  have box1 : W1.heap[b0]? = some (.cells #[.int .i64 3, .slice p1 n1 c1, .slice p2 n2 c2, .slice p3 n3 c3, .int .i64 x, .int .i64 y] 62 (0, 0)) := by rw [hW1, hb0]; exact heap_new _ _
  rw [← hW1]
  rw [← hb0]
  have BEL1 := hid bel1
  have SIZ1 := hid siz1
  have BOX1 := hid box1
  have HB0 := hid hb0
  clear hW1 bel1 siz1 box1 hb0
  refine (lend_any W1 3 x y _ _ _ n1 n2 n3 z1 z2 z3 h1 h2 h3 (HS1.out.below BEL1.out) (HS2.out.below BEL1.out) (HS3.out.below BEL1.out)).mono ?_
  rintro e W2 ⟨g1, g2, g3, rfl, e1, e2, e3, bel2, k1, k2, k3⟩
  obtain ⟨W3, hW3⟩ : ∃ W3 : World, W3 = W2.alloc (.cells #[.slice (some ⟨g1, 0, none⟩) (n1 + 3) (n1 + 3), .slice (some ⟨g2, 0, none⟩) (n2 + 3) (n2 + 3), .slice (some ⟨g3, 0, none⟩) (n3 + 3) (n3 + 3)] 80) := ⟨_, rfl⟩
  have HW3 := hid hW3
  have E1 := hid e1
  have E2 := hid e2
  have E3 := hid e3
  have BEL2 := hid bel2
  have K1 := hid k1
  have K2 := hid k2
  have K3 := hid k3
  have q0 : W2.cell? ⟨b0, 0, none⟩ = some (.int .i64 3) := (bel2.cell (by show b0 < _; rw [SIZ1.out]; omega)).trans (heap_cell BOX1.out 0)
  have q1 : W2.cell? ⟨b0, 1, none⟩ = some (.slice p1 n1 c1) := (bel2.cell (by show b0 < _; rw [SIZ1.out]; omega)).trans (heap_cell BOX1.out 1)
  have q2 : W2.cell? ⟨b0, 2, none⟩ = some (.slice p2 n2 c2) := (bel2.cell (by show b0 < _; rw [SIZ1.out]; omega)).trans (heap_cell BOX1.out 2)
  have q0' := new_cell q0
  have q2' := new_cell q2
  have a2 : (n2 : Int) ≤ n2 + 3 := by omega
  have q1' := new_cell q1
  have a1 : (n1 : Int) ≤ n1 + 3 := by omega
  clear hW3 e1 e2 e3 bel2 k1 k2 k3
  go_wp2_with fail
  rw [← HW3.out]
  obtain ⟨bX, hbX⟩ : ∃ bX, bX = W2.heap.size := ⟨_, rfl⟩
  rw [← hbX]
  have BX := hid hbX
  clear hbX q0 q1 q2 q0' q1' q2' a1 a2
  have SIZ3 : Hid (W3.heap.size = bX + 1) := hid (by rw [HW3.out, BX.out]; exact size_new _ _)
  have OLD3 : Hid (∀ k, k < bX → W3.heap[k]? = W2.heap[k]?) := hid fun k hk => by rw [HW3.out]; exact Below.heap_alloc _ _ _ (by rw [← BX.out]; exact hk)
  have XB3 : Hid (W3.heap[bX]? = some (.cells #[.slice (some ⟨g1, 0, none⟩) (n1 + 3) (n1 + 3), .slice (some ⟨g2, 0, none⟩) (n2 + 3) (n2 + 3), .slice (some ⟨g3, 0, none⟩) (n3 + 3) (n3 + 3)] 80 (0, 0))) := hid (by rw [HW3.out, BX.out]; exact heap_new _ _)
  have L1 : Hid (g1 < bX) := hid (by rw [BX.out]; exact heap_lt E1.out)
  have L2 : Hid (g2 < bX) := hid (by rw [BX.out]; exact heap_lt E2.out)
  have L3 : Hid (g3 < bX) := hid (by rw [BX.out]; exact heap_lt E3.out)
  have G1 := hid ((OLD3.out g1 L1.out).trans E1.out)
  have G2 := hid ((OLD3.out g2 L2.out).trans E2.out)
  have G3 := hid ((OLD3.out g3 L3.out).trans E3.out)
  have LB : Hid (b0 < bX) := hid (by have := BEL2.out.size; rw [SIZ1.out, ← BX.out] at this; omega)
  have BO3 : Hid (W3.heap[b0]? = some (.cells #[.int .i64 3, .slice p1 n1 c1, .slice p2 n2 c2, .slice p3 n3 c3, .int .i64 x, .int .i64 y] 62 (0, 0))) := hid ((OLD3.out b0 LB.out).trans ((BEL2.out.block b0 (by rw [SIZ1.out]; omega)).trans BOX1.out))
  have BEL3 : Hid (Below b0 w W3) := by
    refine hid ((BEL1.out.trans (BEL2.out.mono BEL1.out.size)).mono (by rw [HB0.out]; exact Nat.le_refl _) |>.trans ?_)
    rw [HW3.out]
    exact (Below.refl _ _).alloc (by rw [← BX.out]; have := LB.out; omega) _
  clear HW3 OLD3 E1 E2 E3
  refine (bound_step z1 z2 n1 n2 g1 g2 (n1 + 3) (n2 + 3) (.slice p1 n1 c1) (.slice p2 n2 c2) W3 h1 h2 (by omega) (by omega) (pts_lent G1.out HS1.out.1) (pts_lent2 G2.out HS2.out.1) ⟨p1, c1, rfl⟩ ⟨p2, c2, rfl⟩).mono ?_
  rintro e W4 ⟨u, xe, m, xs, rfl, bel4, own4, hm4, hx4, good⟩
  obtain ⟨au, cu, hu⟩ := owns_len3 own4
  have BEL4 := hid bel4
  have OWN4 := hid own4
  have GOOD := hid good
  have HX4 := hid hx4
  have q1 : W4.cell? ⟨b0, 1, none⟩ = some (.slice p1 n1 c1) := (bel4.cell (by show b0 < _; rw [SIZ3.out]; have := LB.out; omega)).trans (heap_cell BO3.out 1)
  have q0 : W4.cell? ⟨b0, 0, none⟩ = some (.int .i64 3) := (bel4.cell (by show b0 < _; rw [SIZ3.out]; have := LB.out; omega)).trans (heap_cell BO3.out 0)
  have q2 : W4.cell? ⟨b0, 2, none⟩ = some (.slice p2 n2 c2) := (bel4.cell (by show b0 < _; rw [SIZ3.out]; have := LB.out; omega)).trans (heap_cell BO3.out 2)
  have q3 : W4.cell? ⟨b0, 3, none⟩ = some (.slice p3 n3 c3) := (bel4.cell (by show b0 < _; rw [SIZ3.out]; have := LB.out; omega)).trans (heap_cell BO3.out 3)
  have q4 : W4.cell? ⟨b0, 4, none⟩ = some (.int .i64 x) := (bel4.cell (by show b0 < _; rw [SIZ3.out]; have := LB.out; omega)).trans (heap_cell BO3.out 4)
  have q5 : W4.cell? ⟨b0, 5, none⟩ = some (.int .i64 y) := (bel4.cell (by show b0 < _; rw [SIZ3.out]; have := LB.out; omega)).trans (heap_cell BO3.out 5)
  subst hu
  clear bel4 own4 good hx4
  have BEL04 : Hid (Below b0 w W4) := hid (BEL3.out.trans (BEL4.out.mono (by rw [SIZ3.out]; have := LB.out; omega)))
  have SRC : Hid (∀ W, Below W4.heap.size W4 W → Src W (.slice p1 n1 c1) 2 n1 z1) := hid fun W hW => HS1.out.below (by rw [← HB0.out]; exact BEL04.out.trans (hW.mono (by rw [HB0.out]; exact BEL04.out.size)))
  have SRC2 : Hid (∀ W, Below W4.heap.size W4 W → Src W (.slice p2 n2 c2) 2 n2 z2) := hid fun W hW => HS2.out.below (by rw [← HB0.out]; exact BEL04.out.trans (hW.mono (by rw [HB0.out]; exact BEL04.out.size)))
  have HCHK : Hid (∀ W', Below W4.heap.size W4 W' → Calls Tryz.prog 52 #[.slice p1 n1 c1, .slice p2 n2 c2] W' fun e w' => e = .returned (.int .i64 xe) ∧ Below W'.heap.size W' w') := hid fun W' hb => (GOOD.out W' (SRC.out W' hb) (SRC2.out W' hb) hb).chk
  have HFIL : Hid (∀ W', Below W4.heap.size W4 W' → Calls Tryz.prog 48 #[.agg #[.int .i64 3, .slice p1 n1 c1, .slice p2 n2 c2, .slice p3 n3 c3, .int .i64 x, .int .i64 y], .slice au m cu, .int .i64 xe, .int .i64 xe] W' fun e w' => e = .returned (.bool true) ∧ Below W'.heap.size W' w') := hid fun W' hb => by
    have h := lawfills_any 3 x y (.slice p1 n1 c1) (.slice p2 n2 c2) (.slice p3 n3 c3) au m cu xe W' HX4.out (fun e W'' hb' => (GOOD.out W'' (SRC.out W'' (hb.trans (hb'.mono hb.size))) (SRC2.out W'' (hb.trans (hb'.mono hb.size))) (hb.trans (hb'.mono hb.size))).fil e)
    rw [HOPV.out] at h
    exact h
  have HROU : Hid (xe = 0 → ∀ W', Below W4.heap.size W4 W' → Calls Tryz.prog 53 #[.slice p1 n1 c1, .slice p2 n2 c2, .slice au m cu] W' fun e w' => e = .returned (.bool true) ∧ Below W'.heap.size W' w') := hid fun e W' hb => (GOOD.out W' (SRC.out W' hb) (SRC2.out W' hb) hb).bnd e
  have lb : b0 < W4.heap.size := by have := BEL4.out.size; have := SIZ3.out; have := LB.out; omega
  have LBW := hid lb
  go_wp2_with fail
  go_region_held3 (fun w' => w'.cell? ⟨b0, 0, none⟩ = some (.int .i64 3) ∧ w'.cell? ⟨b0, 1, none⟩ = some (.slice p1 n1 c1) ∧ w'.cell? ⟨b0, 2, none⟩ = some (.slice p2 n2 c2) ∧ w'.cell? ⟨b0, 3, none⟩ = some (.slice p3 n3 c3) ∧ w'.cell? ⟨b0, 4, none⟩ = some (.int .i64 x) ∧ w'.cell? ⟨b0, 5, none⟩ = some (.int .i64 y)) (go_keep)
    (first
      | (go_at_call 52; refine (HCHK.out _ (Below.refl _ _).drew).mono ?_; rintro e W5 ⟨rfl, hb5⟩; have u0 := (hb5.cell (p := ⟨b0, 0, none⟩) lb).trans q0; have u1 := (hb5.cell (p := ⟨b0, 1, none⟩) lb).trans q1; have u2 := (hb5.cell (p := ⟨b0, 2, none⟩) lb).trans q2; have u3 := (hb5.cell (p := ⟨b0, 3, none⟩) lb).trans q3; have u4 := (hb5.cell (p := ⟨b0, 4, none⟩) lb).trans q4; have u5 := (hb5.cell (p := ⟨b0, 5, none⟩) lb).trans q5; have HB5 := hid ((Below.refl _ _).drew.trans hb5); clear hb5)
      | (go_at_call 48; refine (HFIL.out _ HB5.out).mono ?_; rintro e W6 ⟨rfl, hb6⟩; have HB6 := hid (HB5.out.trans (hb6.mono HB5.out.size)); clear hb6; have s0 := (HB6.out.cell (p := ⟨b0, 0, none⟩) lb).trans q0; have s1 := (HB6.out.cell (p := ⟨b0, 1, none⟩) lb).trans q1; have s2 := (HB6.out.cell (p := ⟨b0, 2, none⟩) lb).trans q2; have s3 := (HB6.out.cell (p := ⟨b0, 3, none⟩) lb).trans q3; have s4 := (HB6.out.cell (p := ⟨b0, 4, none⟩) lb).trans q4; have s5 := (HB6.out.cell (p := ⟨b0, 5, none⟩) lb).trans q5))
  have NX : xe = 0 ∨ xe ≠ 0 := Classical.em _
  clear u0 u1 u2 u3 u4 u5 s0 s3 s4 s5 q0 q1 q2 q3 q4 q5
  rcases NX with h0 | h0
  case' inl =>
    subst h0
    go_wp2_with fail
    refine (HROU.out (by first | exact rfl | trivial) _ HB6.out).mono ?_
    rintro e WF ⟨rfl, hb7⟩
    have HBF := hid (HB6.out.trans (hb7.mono HB6.out.size))
    clear hb7
    go_wp2_with fail
  case' inr =>
    have d : (xe != 0) = true := by simpa using h0
    go_wp2_with fail
    obtain ⟨WF, rfl⟩ : ∃ WF, WF = W6 := ⟨W6, rfl⟩
    have HBF := HB6
  all_goals
    have B36 : Hid (Below W3.heap.size W3 WF) := hid (BEL4.out.trans (HBF.out.mono BEL4.out.size))
    have S56 : Hid (W3.heap.size ≤ WF.heap.size) := hid B36.out.size
    have B06 : Hid (Below b0 w WF) := hid (BEL3.out.trans (B36.out.mono (by rw [SIZ3.out]; have := LB.out; omega)))
    have BK6 : Hid (Bt WF B W3.heap.size bk vi es vt) := hid (HBK.out.below (by rw [← HB0.out]; exact B06.out) (by rw [← HB0.out, SIZ3.out]; have := LB.out; omega) S56.out)
    have OWN6 : Hid (WF.ownsRow W3.heap.size 46 3 (.slice au m cu) m xs) := hid (owns_kept OWN4.out fun g hg => HBF.out.block g (own_ge3 OWN4.out g hg).2)
    refine (keepThrees_any WF B W3.heap.size bk vi es (.slice au m cu) m xs BK6.out he (by omega) (own3_base OWN6.out ?hl) (fun g hg => (own_ge3 OWN6.out g hg).1)).mono ?_
    case hl =>
      have := HBK.out.bB
      have := HBK.out.bS
      rw [← HB0.out] at this
      rw [SIZ3.out]; have := LB.out; omega
    rintro e W7 ⟨rfl, vi', e', bk7, kp7, ap7⟩
    have BK7 := hid bk7
    have KP7 := hid kp7
    have AP7 := hid ap7
    clear bk7 kp7 ap7
    have NB : Hid (bk < b0) := hid (by rw [HB0.out]; exact HBK.out.bS)
    have NV : Hid (∀ g, vi.ownBlock = some g → g < b0) := hid fun g hg => by rw [HB0.out]; exact (HBK.out.vS g hg).1
    have R7 : Hid (∀ g, b0 ≤ g → g < W3.heap.size → W7.heap[g]? = W3.heap[g]?) := hid fun g h1 h2 =>
      (KP7.out.block g h2 (by have := NB.out; omega) (fun e => by have := NV.out g e; omega)).trans (B36.out.block g h2)
    have S7 : Hid (∀ g, g < b0 → g ≠ bk → vi.ownBlock ≠ some g → W7.heap[g]? = w.heap[g]?) := hid fun g h1 h2 h3 =>
      (KP7.out.block g (by rw [SIZ3.out]; have := LB.out; omega) h2 h3).trans (B06.out.block g h1)
    have XB7 := hid ((R7.out bX (by have := LB.out; omega) (by rw [SIZ3.out]; omega)).trans XB3.out)
    have BO7 := hid ((R7.out b0 (Nat.le_refl _) (by rw [SIZ3.out]; have := LB.out; omega)).trans BO3.out)
    have t0 : W7.cell? ⟨bX, 0, none⟩ = some (.slice (some ⟨g1, 0, none⟩) (n1 + 3) (n1 + 3)) := heap_cell XB7.out 0
    have t1 : W7.cell? ⟨bX, 1, none⟩ = some (.slice (some ⟨g2, 0, none⟩) (n2 + 3) (n2 + 3)) := heap_cell XB7.out 1
    have t2 : W7.cell? ⟨bX, 2, none⟩ = some (.slice (some ⟨g3, 0, none⟩) (n3 + 3) (n3 + 3)) := heap_cell XB7.out 2
    have r0 : W7.cell? ⟨b0, 0, none⟩ = some (.int .i64 3) := heap_cell BO7.out 0
    have r1 : W7.cell? ⟨b0, 1, none⟩ = some (.slice p1 n1 c1) := heap_cell BO7.out 1
    have r2 : W7.cell? ⟨b0, 2, none⟩ = some (.slice p2 n2 c2) := heap_cell BO7.out 2
    have r3 : W7.cell? ⟨b0, 3, none⟩ = some (.slice p3 n3 c3) := heap_cell BO7.out 3
    have r4 : W7.cell? ⟨b0, 4, none⟩ = some (.int .i64 x) := heap_cell BO7.out 4
    have r5 : W7.cell? ⟨b0, 5, none⟩ = some (.int .i64 y) := heap_cell BO7.out 5
    go_wp2_with fail
    have M1 : Hid (b0 + 1 ≤ g1 ∧ g1 < W3.heap.size) := hid ⟨by rw [← SIZ1.out]; exact K1.out, by rw [SIZ3.out]; have := L1.out; omega⟩
    have M2 : Hid (b0 + 1 ≤ g2 ∧ g2 < W3.heap.size) := hid ⟨by rw [← SIZ1.out]; exact K2.out, by rw [SIZ3.out]; have := L2.out; omega⟩
    have M3 : Hid (b0 + 1 ≤ g3 ∧ g3 < W3.heap.size) := hid ⟨by rw [← SIZ1.out]; exact K3.out, by rw [SIZ3.out]; have := L3.out; omega⟩
    have Q7 : Hid (∀ v ∈ [Value.slice p1 n1 c1, .slice p2 n2 c2, .slice p3 n3 c3], ∀ a n c, v = .slice (some a) n c → 0 < n → W7.heap[a.block]? = w.heap[a.block]?) := hid fun v hv a n c e hn => by
      have := HQ.out v hv a n c e hn
      exact S7.out _ (by rw [HB0.out]; exact this.1) this.2.1 this.2.2
    refine (still_any W7 3 x y (.slice p1 n1 c1) (.slice p2 n2 c2) (.slice p3 n3 c3) b0 n1 n2 n3 g1 g2 g3 z1 z2 z3 h1 h2 h3 (HS1.out.kept fun a c e hn => Q7.out _ (by simp) a _ c e hn) (HS2.out.kept fun a c e hn => Q7.out _ (by simp) a _ c e hn) (HS3.out.kept fun a c e hn => Q7.out _ (by simp) a _ c e hn)
      (fun v hv a n c e hn => by rw [HB0.out]; exact (HQ.out v hv a n c e hn).1) (by have := M1.out.1; omega) (by have := M2.out.1; omega) (by have := M3.out.1; omega)
      ((R7.out g1 (by have := M1.out.1; omega) M1.out.2).trans G1.out) ((R7.out g2 (by have := M2.out.1; omega) M2.out.2).trans G2.out) ((R7.out g3 (by have := M3.out.1; omega) M3.out.2).trans G3.out)).mono ?_
    rintro e W8 ⟨rfl, but8⟩
    have BUT8 := hid but8
    clear but8
    go_wp2_with fail
    go_ret
    have far : ∀ g, g = g1 ∨ g = g2 ∨ g = g3 → b0 + 1 ≤ g ∧ g < W3.heap.size := by
      rintro g (rfl | rfl | rfl)
      · exact M1.out
      · exact M2.out
      · exact M3.out
    have same : ∀ k, k < W7.heap.size → (k < b0 ∨ W3.heap.size ≤ k) → W8.heap[k]? = W7.heap[k]? := by
      intro k hk hor
      refine BUT8.out.kept k hk ?_ ?_ ?_
      · rintro rfl; have := far _ (.inl rfl); omega
      · rintro rfl; have := far _ (.inr (.inl rfl)); omega
      · rintro rfl; have := far _ (.inr (.inr rfl)); omega
    refine ⟨rfl, vi', e', ?_, ?_, ⟨fun x hx g hg => ?_, fun g hg => ?_⟩⟩
    · refine BK7.out.kept BUT8.out.size (Nat.le_refl _) BUT8.out.size ?_ ?_ ?_
      · exact same bk BK7.out.bS (.inl NB.out)
      · intro g hg
        refine same g (BK7.out.vS g hg).1 ?_
        rcases AP7.out.list g hg with h | h
        · exact .inl (NV.out g h)
        · exact .inr h
      · intro e he x hx g hg
        have hl := (entT_lt BK7.out he hx hg).1
        refine same g hl ?_
        rcases List.mem_append.1 he with h | h
        · exact .inl (by have := (entT_lt HBK.out h hx hg).1; rw [HB0.out]; exact this)
        · simp at h
          subst h
          exact .inr (AP7.out.ent x hx g hg)
    · refine ⟨BUT8.out.os.trans (KP7.out.os.trans B06.out.os), BUT8.out.tape.trans (KP7.out.tape.trans B06.out.tape), BUT8.out.output.trans (KP7.out.output.trans B06.out.output), Nat.le_trans B06.out.size (Nat.le_trans KP7.out.size BUT8.out.size), fun k hk h1 h2 => ?_⟩
      rw [← HB0.out] at hk
      rw [same k (Nat.lt_of_lt_of_le (by rw [← HB0.out]; exact hk) (Nat.le_trans B06.out.size KP7.out.size)) (.inl hk)]
      exact S7.out k hk h1 h2
    · have := AP7.out.ent x hx g hg
      have := LB.out
      rw [SIZ3.out] at *
      rw [← HB0.out]; omega
    · rcases AP7.out.list g hg with h | h
      · exact .inl h
      · refine .inr ?_
        have := LB.out
        rw [SIZ3.out] at h
        rw [← HB0.out]; omega
end Go.Proofs.YtdbebbbceeopaaaGreat

set_option linter.unusedSimpArgs false
namespace Go.Proofs.YtdbebbbceeopaaaGreat
open Go.RowKit

set_option maxRecDepth 100000 in
set_option maxHeartbeats 4000000 in
theorem upTo3 (w : World) (p : Option Addr) (n c : Nat) (hops : Ops w p n) :
    Calls Tryz.prog 13 #[.slice p n c, .int .i64 3, .int .i64 3] w fun e w' => e = .returned (.bool true) ∧ Below w.heap.size w w' := by
  have hn := hops.1
  have HOP := hid hops.2
  clear hops
  go_enter Tryz.func13, Tryz.ntmps13
  go_wp2_with fail
  obtain ⟨B, hB⟩ : ∃ B, B = w.heap.size := ⟨_, rfl⟩
  obtain ⟨W, hW⟩ : ∃ W : World, W = w.alloc (.cells #[.slice none 0 0, .slice none 0 0] 59) := ⟨_, rfl⟩
  rw [← hW]
  have bk0 : Bt W B W.heap.size B (.slice none 0 0) [] := by
    have hh : W.heap[B]? = some (.cells #[.slice none 0 0, .slice none 0 0] 59 (0, 0)) := by rw [hW, hB]; exact heap_new _ _
    exact ⟨Nat.le_refl _, heap_lt hh, Nat.le_refl _, heap_cell hh 1, fun o => heap_free hh o, heap_cell hh 0, World.ownsRow_nil _ _ _ _, (fun g hg => by cases hg), fun i e he => by simp at he⟩
  have bel0 : Below B w W := by rw [hW, hB]; exact (Below.refl _ _).alloc (Nat.le_refl _) _
  have HB := hid hB
  rw [← hB]
  have BK0 := hid bk0
  have BEL0 := hid bel0
  clear hB hW bk0 bel0
  go_loopw [8] (fun i wr => ∃ (m : Nat) (vi : Value) (es : List (List Value)), m ≤ 1 ∧ i = .int .i64 (3 + (m : Int)) ∧ es.length = m ∧ Hid (Bt wr B wr.heap.size B vi es) ∧ Hid (Below B w wr)) (fun i _ => 4 - (intOf i).toNat)
  case atStart => exact ⟨0, _, [], Nat.zero_le _, rfl, rfl, BK0, BEL0⟩
  case round =>
    obtain ⟨m, vi, es, hm, rfl, hes, hK, hW⟩ := hrel
    rcases (by omega : m = 0 ∨ m = 1) with rfl | rfl
    · rw [show (3 + ((0 : Nat) : Int)) = 3 from rfl]
      go_wp2_with fail
      refine (corners_kd 3 wr).mono ?_
      rintro e W2 ⟨bel2, siz2, rfl, ce1, ce2⟩
      have bk2 : Bt W2 B W2.heap.size B vi es := hK.out.below bel2 bel2.size (Nat.le_refl _)
      go_wp2_with fail
      have hbk := hK.out.bS
      refine (plays3 W2 B B vi es 1 1 _ _ _ 3 0 1 [0, 0, 0, 4, 4, 0] [] [0, 2, 1] (by omega) (by omega) (by omega) bk2 (by omega) (src_corners ce1) (src_nil _ _) (src_one ce2) ?hq).mono ?_
      case hq =>
        intro v hv a n c e hn
        simp at hv
        rcases hv with rfl | rfl | rfl
        · cases e
          exact ⟨by show wr.heap.size + 1 < _; omega, by show wr.heap.size + 1 ≠ _; omega, fun e => by have := (hK.out.vS _ e).1; simp at this; omega⟩
        · cases e
        · cases e
          exact ⟨by show wr.heap.size + 2 < _; omega, by show wr.heap.size + 2 ≠ _; omega, fun e => by have := (hK.out.vS _ e).1; simp at this; omega⟩
      rintro e W3 ⟨rfl, vi', e', bk3, kp3, _⟩
      have hB3 : Below B w W3 := hW.out.trans ((bel2.mono (Nat.le_of_lt hbk)).trans (kpt_below bk2 kp3))
      have BK3 := hid bk3
      have BEL3 := hid hB3
      clear bk2 bk3 kp3 hB3 ce1 ce2 bel2 siz2 hbk
      go_wp2_with fail
      exact ⟨⟨1, vi', es ++ [e'], Nat.le_refl _, rfl, by simp [hes], BK3, BEL3⟩, by simp [intOf]⟩
    · rw [show (3 + ((1 : Nat) : Int)) = 4 from rfl]
      go_wp2_with fail
      obtain ⟨W2, rfl⟩ : ∃ W2, W2 = wr := ⟨wr, rfl⟩
      go_loopw [10] (fun i wr => ∃ (k : Nat) (vi : Value) (es : List (List Value)), k ≤ n ∧ i = .int .i64 k ∧ es.length ≤ k + 1 ∧ Hid (Bt wr B wr.heap.size B vi es) ∧ Hid (Below B w wr)) (fun i _ => n - (intOf i).toNat)
      case atStart => exact ⟨0, vi, es, Nat.zero_le _, rfl, by omega, hK, hW⟩
      case round =>
        clear hK hW hes
        obtain ⟨k, vi, es, hk, rfl, hes, hK, hW⟩ := hrel
        by_cases hlt : k < n
        · obtain ⟨b, o, kd, x, y, v1, v2, v3, n1, n2, n3, z1, z2, z3, rfl, hO⟩ := HOP.out k hlt
          have HO := hid hO
          have hbB : b < B := by rw [HB.out]; exact World.block_lt_of_cell? w _ hO.c0
          have d0 : wr.cell? ⟨b, o + k * 6, none⟩ = some (.int .i64 kd) := (hW.out.cell hbB).trans hO.c0
          have d1 : wr.cell? ⟨b, o + k * 6 + 1, none⟩ = some v1 := (hW.out.cell hbB).trans hO.c1
          have d2 : wr.cell? ⟨b, o + k * 6 + 2, none⟩ = some v2 := (hW.out.cell hbB).trans hO.c2
          have d3 : wr.cell? ⟨b, o + k * 6 + 3, none⟩ = some v3 := (hW.out.cell hbB).trans hO.c3
          have d4 : wr.cell? ⟨b, o + k * 6 + 4, none⟩ = some (.int .i64 x) := (hW.out.cell hbB).trans hO.c4
          have d5 : wr.cell? ⟨b, o + k * 6 + 5, none⟩ = some (.int .i64 y) := (hW.out.cell hbB).trans hO.c5
          obtain ⟨p1, c1, rfl⟩ : ∃ p c, v1 = .slice p n1 c := by obtain ⟨_, p, c, e, _⟩ := hO.s1; exact ⟨p, c, e⟩
          obtain ⟨p2, c2, rfl⟩ : ∃ p c, v2 = .slice p n2 c := by obtain ⟨_, p, c, e, _⟩ := hO.s2; exact ⟨p, c, e⟩
          obtain ⟨p3, c3, rfl⟩ : ∃ p c, v3 = .slice p n3 c := by obtain ⟨_, p, c, e, _⟩ := hO.s3; exact ⟨p, c, e⟩
          have i0 : (k : Int) < n := by omega
          have BEL1 : Hid (Below B w (wr.alloc (.cells #[.int .i64 kd, .slice p1 n1 c1, .slice p2 n2 c2, .slice p3 n3 c3, .int .i64 x, .int .i64 y] 62))) := hid (hW.out.alloc (by have := hK.out.bS; omega) _)
          have BK1 : Hid (Bt (wr.alloc (.cells #[.int .i64 kd, .slice p1 n1 c1, .slice p2 n2 c2, .slice p3 n3 c3, .int .i64 x, .int .i64 y] 62)) B (wr.alloc (.cells #[.int .i64 kd, .slice p1 n1 c1, .slice p2 n2 c2, .slice p3 n3 c3, .int .i64 x, .int .i64 y] 62)).heap.size B vi es) :=
            hid (hK.out.below ((Below.refl _ _).alloc (Nat.le_refl _) _) (by rw [size_new]; omega) (Nat.le_refl _))
          clear hO
          rcases (by omega : kd = 3 ∨ kd < 3 ∨ 3 < kd) with rfl | hkd | hkd
          · go_wp2_with fail
            obtain ⟨W3, hW3⟩ : ∃ W3 : World, W3 = wr.alloc (.cells #[.int .i64 3, .slice p1 n1 c1, .slice p2 n2 c2, .slice p3 n3 c3, .int .i64 x, .int .i64 y] 62) := ⟨_, rfl⟩
            rw [← hW3] at BEL1 BK1 ⊢
            clear hW3 d0 d1 d2 d3 d4 d5
            have BW : Hid (Below w.heap.size w W3) := by rw [HB.out] at BEL1; exact BEL1
            refine (plays3 W3 B B vi es x y (.slice p1 n1 c1) (.slice p2 n2 c2) (.slice p3 n3 c3) n1 n2 n3 z1 z2 z3 HO.out.h1 HO.out.h2 HO.out.h3 BK1.out (by omega) (HO.out.s1.below BW.out) (HO.out.s2.below BW.out) (HO.out.s3.below BW.out) ?hq).mono ?_
            case hq =>
              intro v hv a n c e hn
              have hlt : a.block < w.heap.size := by
                simp at hv
                rcases hv with rfl | rfl | rfl
                · rw [e] at HO; exact HO.out.s1.lt (by omega) hn
                · rw [e] at HO; exact HO.out.s2.lt (by omega) hn
                · rw [e] at HO; exact HO.out.s3.lt (by omega) hn
              have := bt_ge BK1.out (k := a.block) (by rw [HB.out]; exact hlt)
              exact ⟨Nat.lt_of_lt_of_le hlt BW.out.size, this⟩
            rintro e W4 ⟨rfl, vi', e', bk4, kp4, _⟩
            have BK4 := hid bk4
            have BEL4 := hid (BEL1.out.trans (kpt_below BK1.out kp4))
            clear bk4 kp4
            go_wp2_with fail
            refine (looksT_any W4 B W4.heap.size B vi' (es ++ [e']) BK4.out (by simp; omega)).mono ?_
            rintro e W5 ⟨rfl, bel5⟩
            have BK5 := hid (BK4.out.below bel5 bel5.size (Nat.le_refl _))
            have BEL5 := hid (BEL4.out.trans (bel5.mono (Nat.le_of_lt BK4.out.bS)))
            clear bel5
            go_wp2_with fail
            exact ⟨⟨k + 1, vi', es ++ [e'], by omega, by go_num, by simp; omega, BK5, BEL5⟩, by simp [intOf]; omega⟩
          · have j1 : ¬ (3 : Int) ≤ kd := by omega
            go_wp2_with fail
            exact ⟨⟨k + 1, vi, es, by omega, by go_num, by omega, BK1, BEL1⟩, by simp [intOf]; omega⟩
          · have j1 : (3 : Int) ≤ kd := by omega
            have j2 : ¬ kd ≤ 3 := by omega
            go_wp2_with fail
            exact ⟨⟨k + 1, vi, es, by omega, by go_num, by omega, BK1, BEL1⟩, by simp [intOf]; omega⟩
        · have hkn : k = n := by omega
          subst hkn
          go_wp2_with fail
          go_ret
          exact ⟨rfl, by rw [← HB.out]; exact hW.out⟩

set_option maxRecDepth 100000 in
theorem bounds_any (w : World) (p : Option Addr) (n c : Nat) (hops : Ops w p n) :
    Calls Tryz.prog 9 #[.slice p n c] w fun e w' => e = .returned (.bool true) ∧ Below w.heap.size w w' := by
  have H := hid (upTo3 w p n c hops)
  clear hops
  go_enter Tryz.func9, Tryz.ntmps9
  go_wp2_with fail
  refine H.out.mono ?_
  rintro e w' ⟨rfl, hb⟩
  go_wp2_with fail
  go_ret
  exact ⟨rfl, hb⟩
end Go.Proofs.YtdbebbbceeopaaaGreat
