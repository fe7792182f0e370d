import Derived.Test.YtdbebbbceeopaaaGreatL29
import Derived.Test.YtdbebbbceeopaaaGreatL28
set_option linter.unusedSimpArgs false
namespace Go.Proofs.YtdbebbbceeopaaaGreat
open Go.RowKit

theorem cr_eq (px py : Nat → Int) (a b c d : Nat) : (opp (tw (px a) (py a) (px b) (py b) (px c) (py c)) (tw (px a) (py a) (px b) (py b) (px d) (py d)) && opp (tw (px c) (py c) (px d) (py d) (px a) (py a)) (tw (px c) (py c) (px d) (py d) (px b) (py b))) = crossB px py a b c d := by
  rw [opp_mul, opp_mul]
  rfl

theorem btw_eq (px py : Nat → Int) (a b p : Nat) : btwB (px a) (py a) (px b) (py b) (px p) (py p) = betwB px py a b p := by
  unfold btwB betwB
  by_cases h0 : T px py a b p = 0
  · have h0' : tw (px a) (py a) (px b) (py b) (px p) (py p) = 0 := h0
    rw [decide_eq_true h0, decide_eq_true h0']
    have dt : Geo.dt px py p a b = (px p - px a) * (px p - px b) + (py p - py a) * (py p - py b) := by unfold Geo.dt; grind
    have cross : (px p - px a) * (py p - py b) = (py p - py a) * (px p - px b) := by unfold T tw at h0; grind
    obtain ⟨X, hX⟩ : ∃ X, X = (px p - px a) * (px p - px b) := ⟨_, rfl⟩
    obtain ⟨Y, hY⟩ : ∃ Y, Y = (py p - py a) * (py p - py b) := ⟨_, rfl⟩
    have sameSign : 0 ≤ X * Y := by
      have e : X * Y = ((px p - px a) * (py p - py b)) * ((px p - px a) * (py p - py b)) := by rw [hX, hY]; grind
      rw [e]
      exact Geo.mul_self_nonneg' _
    rw [dt, ← hX, ← hY]
    have key : (X + Y < 0) ↔ (¬ (px p = px a ∧ py p = py a)) ∧ (¬ (px p = px b ∧ py p = py b)) ∧ X ≤ 0 ∧ Y ≤ 0 := by
      constructor
      · intro h
        refine ⟨?_, ?_, ?_, ?_⟩
        · rintro ⟨e1, e2⟩
          rw [e1, Int.sub_self, Int.zero_mul] at hX
          rw [e2, Int.sub_self, Int.zero_mul] at hY
          omega
        · rintro ⟨e1, e2⟩
          rw [e1, Int.sub_self, Int.mul_zero] at hX
          rw [e2, Int.sub_self, Int.mul_zero] at hY
          omega
        · rcases Int.lt_or_le 0 X with k | k
          · have : X * Y < 0 := Int.mul_neg_of_pos_of_neg k (by omega)
            omega
          · exact k
        · rcases Int.lt_or_le 0 Y with k | k
          · have : X * Y < 0 := Int.mul_neg_of_neg_of_pos (by omega) k
            omega
          · exact k
      · rintro ⟨n1, n2, x1, y1⟩
        rcases Int.lt_or_le (X + Y) 0 with k | k
        · exact k
        · exfalso
          have x0 : X = 0 := by omega
          have y0 : Y = 0 := by omega
          rw [hX] at x0
          rw [hY] at y0
          rcases Int.mul_eq_zero.1 x0 with ex | ex
          · rcases Int.mul_eq_zero.1 y0 with ey | ey
            · exact n1 ⟨by omega, by omega⟩
            · rw [ex, Int.zero_mul] at cross
              rcases Int.mul_eq_zero.1 cross.symm with q | q
              · exact n1 ⟨by omega, by omega⟩
              · exact n2 ⟨by omega, by omega⟩
          · rcases Int.mul_eq_zero.1 y0 with ey | ey
            · rw [ex, Int.mul_zero] at cross
              rcases Int.mul_eq_zero.1 cross with q | q
              · exact n1 ⟨by omega, by omega⟩
              · exact n2 ⟨by omega, by omega⟩
            · exact n2 ⟨by omega, by omega⟩
    by_cases hk : X + Y < 0
    · obtain ⟨n1, n2, x1, y1⟩ := key.1 hk
      have e1 : (px p == px a && py p == py a) = false := by
        cases h : (px p == px a && py p == py a) with
        | false => rfl
        | true => simp at h; exact absurd h n1
      have e2 : (px p == px b && py p == py b) = false := by
        cases h : (px p == px b && py p == py b) with
        | false => rfl
        | true => simp at h; exact absurd h n2
      rw [decide_eq_true hk, e1, e2, decide_eq_true x1, decide_eq_true y1]
      rfl
    · rw [decide_eq_false hk]
      cases hh : (true && !(px p == px a && py p == py a) && !(px p == px b && py p == py b) && decide (X ≤ 0) && decide (Y ≤ 0)) with
      | false => rfl
      | true =>
        exfalso
        simp at hh
        refine hk (key.2 ⟨?_, ?_, hh.1.2, hh.2⟩)
        · rintro ⟨q1, q2⟩
          rcases hh.1.1.1 with h | h
          · exact h q1
          · exact h q2
        · rintro ⟨q1, q2⟩
          rcases hh.1.1.2 with h | h
          · exact h q1
          · exact h q2
  · have h0' : ¬ tw (px a) (py a) (px b) (py b) (px p) (py p) = 0 := h0
    rw [decide_eq_false h0, decide_eq_false h0']
    rfl

set_option maxHeartbeats 1000000 in
/-- Points that are refused are so with lines, too. -/
theorem refLines_err {v la : Value} {w : World} {x : Int} (hx : x ≠ 0) (hc : Calls Tryz.prog 49 #[v] w fun e w' => e = .returned (.int .i64 x) ∧ Below w.heap.size w w') :
    Calls Tryz.prog 52 #[v, la] w fun e w' => e = .returned (.int .i64 x) ∧ Below w.heap.size w w' := by
  have C := hid hc
  have d : (x != 0) = true := by simpa using hx
  clear hc hx
  go_enter Tryz.func52, Tryz.ntmps52
  go_wp2_with fail
  refine C.out.mono ?_
  rintro e w1 ⟨rfl, hb⟩
  have HB := hid hb
  clear hb
  go_wp2_with fail
  go_ret
  exact ⟨rfl, HB.out⟩

theorem cr88 {px py : Nat → Int} {n : Nat} (hb : Bds n px py) {a b c d : Nat} (ha : a < n) (hb' : b < n) (hc : c < n) (hd : d < n) (w : World) :
    Calls Tryz.prog 88 #[.agg #[.int .i64 (px a), .int .i64 (py a)], .agg #[.int .i64 (px b), .int .i64 (py b)], .agg #[.int .i64 (px c), .int .i64 (py c)], .agg #[.int .i64 (px d), .int .i64 (py d)]] w fun r w' => r = .returned (.bool (crossB px py a b c d)) ∧ Below w.heap.size w w' := by
  have := crosses_any (px a) (py a) (px b) (py b) (px c) (py c) (px d) (py d) w (hb a ha).1 (hb a ha).2 (hb b hb').1 (hb b hb').2 (hb c hc).1 (hb c hc).2 (hb d hd).1 (hb d hd).2
  rw [cr_eq] at this
  exact this

theorem bt83 {px py : Nat → Int} {n : Nat} (hb : Bds n px py) {a b p : Nat} (ha : a < n) (hb' : b < n) (hp : p < n) (w : World) :
    Calls Tryz.prog 83 #[.agg #[.int .i64 (px a), .int .i64 (py a)], .agg #[.int .i64 (px b), .int .i64 (py b)], .agg #[.int .i64 (px p), .int .i64 (py p)]] w fun r w' => r = .returned (.bool (betwB px py a b p)) ∧ Below w.heap.size w w' := by
  have := between_any (px a) (py a) (px b) (py b) (px p) (py p) (hb a ha).1 (hb a ha).2 (hb b hb').1 (hb b hb').2 (hb p hp).1 (hb p hp).2 w
  rw [btw_eq] at this
  exact this

set_option maxRecDepth 100000 in
set_option maxHeartbeats 8000000 in
theorem refLines_any (px py : Nat → Int) (n qb qo cap lcap : Nat) (la : Option Addr) (xs : List (Int × Int)) (w : World) (hp : Pts w qb qo n px py) (h3 : 3 ≤ n) (hn : n ≤ 40) (h0 : refI px py n = 0) (hl : LnI w la xs) (hk : xs.length ≤ 2000000) :
    Calls Tryz.prog 52 #[.slice (some ⟨qb, qo, none⟩) n cap, .slice la xs.length lcap] w fun e w' => e = .returned (.int .i64 (lineI px py n xs)) ∧ Below w.heap.size w w' := by
  have c1 := check_any px py n qb qo cap w hp h3 hn
  rw [h0] at c1
  have C1 := hid c1
  have HP := hid hp
  have HL := hid hl
  have BDS := hid (refI_bds h0)
  obtain ⟨r, hr⟩ : ∃ r, r = lineI px py n xs := ⟨_, rfl⟩
  have R1 : Hid (20 < xs.length → r = 1) := hid (fun h => by rw [hr]; rw [lineI_eq]; rw [if_pos h])
  have R5 : Hid (¬ 20 < xs.length → (¬ ∀ x ∈ xs, Jn n x) → r = 5) := hid (fun h h' => by rw [hr]; rw [lineI_eq]; rw [if_neg h, if_pos h'])
  have R6 : Hid (¬ 20 < xs.length → (∀ x ∈ xs, Jn n x) → (∃ i, i < (toN xs).length ∧ wayB px py n (toN xs) i) → r = 6) := hid (fun h h' h'' => by rw [hr]; rw [lineI_eq]; rw [if_neg h, if_neg (fun k => k h'), if_pos h''])
  have R0 : Hid (¬ 20 < xs.length → (∀ x ∈ xs, Jn n x) → (¬ ∃ i, i < (toN xs).length ∧ wayB px py n (toN xs) i) → r = 0) := hid (fun h h' h'' => by rw [hr]; rw [lineI_eq]; rw [if_neg h, if_neg (fun k => k h'), if_neg h''])
  rw [← hr]
  obtain ⟨k, hkk⟩ : ∃ k, k = xs.length := ⟨_, rfl⟩
  have HK := hid hkk
  rw [← hkk] at hk R1 R5 R6 R0 ⊢
  clear hr hp hl hkk c1 h0
  by_cases h20 : 20 < k
  · have e := R1.out h20
    subst e
    have h20' : (20 : Int) < k := by omega
    go_enter Tryz.func52, Tryz.ntmps52
    go_wp2_with fail
    refine C1.out.mono ?_
    rintro e w1 ⟨rfl, hb⟩
    have HB := hid hb
    clear hb
    go_wp2_with fail
    go_ret
    exact ⟨rfl, HB.out⟩
  · have h20' : ¬ (20 : Int) < k := by omega
    go_enter Tryz.func52, Tryz.ntmps52
    go_wp2_with fail
    refine C1.out.mono ?_
    rintro e w1 ⟨rfl, hb⟩
    have HB1 := hid hb
    clear hb C1 R1
    go_wp2_with fail
    go_loopw [6] (fun ix wr => ∃ i : Nat, i ≤ k ∧ ix = .int .i64 i ∧ Hid (∀ r, (hr : r < xs.length) → r < i → Jn n xs[r]) ∧ Hid (Below w.heap.size w wr)) (fun ix _ => k - (intOf ix).toNat)
    case atStart => exact ⟨0, Nat.zero_le _, rfl, hid (fun r _ h => by omega), HB1⟩
    case round =>
      obtain ⟨i, hi, rfl, HJ, HB⟩ := hrel
      clear HB1
      by_cases hik : i < k
      · have hik' : (i : Int) < k := by omega
        have hix : i < xs.length := by rw [← HK.out]; exact hik
        obtain ⟨lg, lo, hla, hlg, hlc⟩ : ∃ lg lo, la = some ⟨lg, lo, none⟩ ∧ lg < w.heap.size ∧ (w.cell? ⟨lg, lo + i * 2, none⟩ = some (.int .i64 xs[i].1) ∧ w.cell? ⟨lg, lo + i * 2 + 1, none⟩ = some (.int .i64 xs[i].2)) := by
          rcases HL.out with h | ⟨g, o, e, h1, h2⟩
          · rw [h] at hix; simp at hix
          · exact ⟨g, o, e, h1, h2 i hix⟩
        subst hla
        have xc := (HB.out.cell (p := ⟨lg, lo + i * 2, none⟩) hlg).trans hlc.1
        have yc := (HB.out.cell (p := ⟨lg, lo + i * 2 + 1, none⟩) hlg).trans hlc.2
        have HNO : Hid (¬ Jn n xs[i] → ¬ ∀ x ∈ xs, Jn n x) := hid (fun h h' => h (h' _ (List.getElem_mem hix)))
        have HYES : Hid (Jn n xs[i] → ∀ r, (hr : r < xs.length) → r < i + 1 → Jn n xs[r]) := hid (fun h r hr hri => by
          rcases Nat.lt_or_ge r i with q | q
          · exact HJ.out r hr q
          · have : r = i := by omega
            subst this; exact h)
        obtain ⟨a, ha⟩ : ∃ a, a = xs[i].1 := ⟨_, rfl⟩
        obtain ⟨b, hb⟩ : ∃ b, b = xs[i].2 := ⟨_, rfl⟩
        have hab : xs[i] = (a, b) := by rw [ha, hb]
        rw [← ha] at xc
        rw [← hb] at yc
        rw [hab] at HNO HYES
        clear ha hb hab hlc
        have q1 : (0 : Int) ≤ (i : Int) := by omega
        have HB2 : Hid (∀ o, Below w.heap.size w (wr.alloc o)) := hid (fun o => HB.out.alloc HB.out.size o)
        by_cases hj : Jn n (a, b)
        · obtain ⟨⟨j1, j2⟩, ⟨j3, j4⟩, j5⟩ := id hj
          dsimp only at j1 j2 j3 j4 j5
          have g1 : ¬ a < 0 := by omega
          have g2 : ¬ (n : Int) ≤ a := by omega
          have g3 : ¬ b < 0 := by omega
          have g4 : ¬ (n : Int) ≤ b := by omega
          have g5 : (a == b) = false := by simpa using j5
          have YES := hid (HYES.out hj)
          clear hj j1 j2 j3 j4 j5 HNO HYES
          go_wp2_with fail
          go_roundw
          case rel => exact ⟨i + 1, by omega, by go_num, YES, hid (HB2.out _)⟩
          case measure => simp [intOf]; omega
        · have e := R5.out h20 (HNO.out hj)
          subst e
          clear HNO HYES R5 R6 R0
          by_cases g1 : a < 0
          · clear hj
            go_wp2_with fail
            go_ret
            exact ⟨rfl, HB2.out _⟩
          · by_cases g2 : (n : Int) ≤ a
            · clear hj
              go_wp2_with fail
              go_ret
              exact ⟨rfl, HB2.out _⟩
            · by_cases g3 : b < 0
              · clear hj
                go_wp2_with fail
                go_ret
                exact ⟨rfl, HB2.out _⟩
              · by_cases g4 : (n : Int) ≤ b
                · clear hj
                  go_wp2_with fail
                  go_ret
                  exact ⟨rfl, HB2.out _⟩
                · have g5 : (a == b) = true := by
                    cases h : (a == b) with
                    | true => rfl
                    | false => exact absurd ⟨⟨by dsimp only; omega, by dsimp only; omega⟩, ⟨by dsimp only; omega, by dsimp only; omega⟩, by simpa using h⟩ hj
                  clear hj
                  go_wp2_with fail
                  go_ret
                  exact ⟨rfl, HB2.out _⟩
      · have hii : k = i := by omega
        subst hii
        have ALL : Hid (∀ x ∈ xs, Jn n x) := hid (fun x hx => by
          obtain ⟨r, hr, rfl⟩ := List.getElem_of_mem hx
          exact HJ.out r hr (by rw [HK.out]; exact hr))
        clear R5 HJ
        obtain ⟨W9, rfl⟩ : ∃ W9, W9 = wr := ⟨wr, rfl⟩
        go_wp2_with fail
        go_loopw [8] (fun ix wr => ∃ i : Nat, i ≤ k ∧ ix = .int .i64 i ∧ Hid (∀ r, r < i → ¬ wayB px py n (toN xs) r) ∧ Hid (Below w.heap.size w wr)) (fun ix _ => k - (intOf ix).toNat)
        case atStart => exact ⟨0, Nat.zero_le _, rfl, hid (fun r h => by omega), HB⟩
        case round =>
          clear HB
          obtain ⟨i, hi, rfl, HJ, HB⟩ := hrel
          by_cases hik : i < k
          · have hik' : (i : Int) < k := by omega
            have hix : i < xs.length := by rw [← HK.out]; exact hik
            obtain ⟨lg, lo, hla, hlg, hlc⟩ : ∃ lg lo, la = some ⟨lg, lo, none⟩ ∧ lg < w.heap.size ∧ ∀ i, (hi : i < xs.length) → w.cell? ⟨lg, lo + i * 2, none⟩ = some (.int .i64 xs[i].1) ∧ w.cell? ⟨lg, lo + i * 2 + 1, none⟩ = some (.int .i64 xs[i].2) := by
              rcases HL.out with h | ⟨g, o, e, h1, h2⟩
              · rw [h] at hix; simp at hix
              · exact ⟨g, o, e, h1, h2⟩
            subst hla
            have HLC : Hid (∀ j, (hj : j < xs.length) → w.cell? ⟨lg, lo + j * 2, none⟩ = some (.int .i64 (((toN xs).getD j (0, 0)).1 : Nat)) ∧ w.cell? ⟨lg, lo + j * 2 + 1, none⟩ = some (.int .i64 (((toN xs).getD j (0, 0)).2 : Nat)) ∧ ((toN xs).getD j (0, 0)).1 < n ∧ ((toN xs).getD j (0, 0)).2 < n) := hid (fun j hj => by
              have jj := ALL.out xs[j] (List.getElem_mem hj)
              have e : (toN xs).getD j (0, 0) = (xs[j].1.toNat, xs[j].2.toNat) := by simp [toN, List.getD_eq_getElem?_getD, hj]
              have c := hlc j hj
              rw [e]
              have e1 : ((xs[j].1.toNat : Nat) : Int) = xs[j].1 := Int.toNat_of_nonneg jj.1.1
              have e2 : ((xs[j].2.toNat : Nat) : Int) = xs[j].2 := Int.toNat_of_nonneg jj.2.1.1
              obtain ⟨j1, j2, j3⟩ := jj
              dsimp only
              rw [e1, e2]
              exact ⟨c.1, c.2, by omega, by omega⟩)
            obtain ⟨cu, cv, un, vn⟩ := HLC.out i hix
            have HWB : Hid (wayB px py n (toN xs) i ↔ (∃ p, p < n ∧ betwB px py ((toN xs).getD i (0, 0)).1 ((toN xs).getD i (0, 0)).2 p = true) ∨ ∃ j, j < i ∧ crossB px py ((toN xs).getD i (0, 0)).1 ((toN xs).getD i (0, 0)).2 ((toN xs).getD j (0, 0)).1 ((toN xs).getD j (0, 0)).2 = true) := hid Iff.rfl
            obtain ⟨u, hu⟩ : ∃ u, u = ((toN xs).getD i (0, 0)).1 := ⟨_, rfl⟩
            obtain ⟨v, hv⟩ : ∃ v, v = ((toN xs).getD i (0, 0)).2 := ⟨_, rfl⟩
            rw [← hu] at cu un HWB
            rw [← hv] at cv vn HWB
            have xc := (HB.out.cell (p := ⟨lg, lo + i * 2, none⟩) hlg).trans cu
            have yc := (HB.out.cell (p := ⟨lg, lo + i * 2 + 1, none⟩) hlg).trans cv
            clear hu hv hlc cu cv
            obtain ⟨W2, hW2⟩ : ∃ W2, W2 = wr.alloc (.cells #[.int .i64 (u : Nat), .int .i64 (v : Nat)] 54) := ⟨_, rfl⟩
            have b2 : Below wr.heap.size wr W2 := by rw [hW2]; exact (Below.refl _ _).alloc (Nat.le_refl _) _
            have X0 : Hid (W2.cell? ⟨wr.heap.size, 0, none⟩ = some (.int .i64 (u : Nat))) := hid (by rw [hW2]; exact World.cell?_alloc_at _ _ _ _ rfl)
            have X1 : Hid (W2.cell? ⟨wr.heap.size, 1, none⟩ = some (.int .i64 (v : Nat))) := hid (by rw [hW2]; exact World.cell?_alloc_at _ _ _ _ rfl)
            have HB2 := hid (HB.out.trans (b2.mono HB.out.size))
            have BXL := hid (World.block_lt_of_cell? W2 _ X0.out)
            have q1 : (0 : Int) ≤ (i : Int) := by omega
            clear b2
            go_wp2_with fail
            rw [← hW2]
            clear hW2 xc yc
            obtain ⟨bx, hbx⟩ : ∃ bx, bx = wr.heap.size := ⟨_, rfl⟩
            rw [← hbx] at X0 X1 BXL ⊢
            clear hbx HB
            have KP : Hid (∀ W, Below W2.heap.size W2 W → ∀ p, p < n → W.cell? ⟨qb, qo + p * 2, none⟩ = some (.int .i64 (px p)) ∧ W.cell? ⟨qb, qo + p * 2 + 1, none⟩ = some (.int .i64 (py p))) := hid (fun W hW p hp => by
              have hpw := HP.out.below (HB2.out.trans (hW.mono HB2.out.size)) HP.out.lt
              exact ⟨hpw.x p hp, hpw.y p hp⟩)
            go_loopw [10] (fun ix wr => ∃ k' : Nat, k' ≤ i ∧ ix = .int .i64 k' ∧ Hid (∀ r, r < k' → crossB px py u v ((toN xs).getD r (0, 0)).1 ((toN xs).getD r (0, 0)).2 = false) ∧ Hid (Below W2.heap.size W2 wr)) (fun ix _ => i - (intOf ix).toNat)
            case atStart => exact ⟨0, Nat.zero_le _, rfl, hid (fun r h => by omega), hid (Below.refl _ _)⟩
            case round =>
              obtain ⟨k', hk', rfl, HC, HB⟩ := hrel
              by_cases hki : k' < i
              · have hki' : (k' : Int) < i := by omega
                have hkx : k' < xs.length := by omega
                have hkk2 : (k' : Int) < k := by omega
                obtain ⟨cu', cv', un', vn'⟩ := HLC.out k' hkx
                have HX0 : Hid (∀ b, b = crossB px py u v ((toN xs).getD k' (0, 0)).1 ((toN xs).getD k' (0, 0)).2 → (b = true → wayB px py n (toN xs) i) ∧ (b = false → ∀ r, r < k' + 1 → crossB px py u v ((toN xs).getD r (0, 0)).1 ((toN xs).getD r (0, 0)).2 = false)) := hid (fun b hb => ⟨fun h => HWB.out.2 (.inr ⟨k', hki, by rw [← hb]; exact h⟩), fun h r hr => by
                  rcases Nat.lt_or_ge r k' with q | q
                  · exact HC.out r q
                  · have : r = k' := by omega
                    subst this; rw [← hb]; exact h⟩)
                obtain ⟨u', hu'⟩ : ∃ u', u' = ((toN xs).getD k' (0, 0)).1 := ⟨_, rfl⟩
                obtain ⟨v', hv'⟩ : ∃ v', v' = ((toN xs).getD k' (0, 0)).2 := ⟨_, rfl⟩
                rw [← hu'] at cu' un' HX0
                rw [← hv'] at cv' vn' HX0
                have HBW := hid (HB2.out.trans (HB.out.mono HB2.out.size))
                have lgl : lg < wr.heap.size := Nat.lt_of_lt_of_le hlg HBW.out.size
                have qbl : qb < wr.heap.size := Nat.lt_of_lt_of_le HP.out.lt HBW.out.size
                have bxl : bx < wr.heap.size := Nat.lt_of_lt_of_le BXL.out HB.out.size
                have z1 := (HBW.out.cell (p := ⟨lg, lo + k' * 2, none⟩) hlg).trans cu'
                have z2 := (HBW.out.cell (p := ⟨lg, lo + k' * 2 + 1, none⟩) hlg).trans cv'
                have z3 := (HB.out.cell (p := ⟨bx, 0, none⟩) BXL.out).trans X0.out
                have z4 := (HB.out.cell (p := ⟨bx, 1, none⟩) BXL.out).trans X1.out
                have pu := KP.out wr HB.out u un
                have pv := KP.out wr HB.out v vn
                have pu' := KP.out wr HB.out u' un'
                have pv' := KP.out wr HB.out v' vn'
                have KEEP : Hid (∀ W, Below wr.heap.size wr W → W.cell? ⟨bx, 0, none⟩ = some (.int .i64 (u : Nat)) ∧ W.cell? ⟨bx, 1, none⟩ = some (.int .i64 (v : Nat)) ∧ W.cell? ⟨lg, lo + k' * 2, none⟩ = some (.int .i64 (u' : Nat)) ∧ W.cell? ⟨lg, lo + k' * 2 + 1, none⟩ = some (.int .i64 (v' : Nat)) ∧ W.cell? ⟨qb, qo + u * 2, none⟩ = some (.int .i64 (px u)) ∧ W.cell? ⟨qb, qo + u * 2 + 1, none⟩ = some (.int .i64 (py u)) ∧ W.cell? ⟨qb, qo + v * 2, none⟩ = some (.int .i64 (px v)) ∧ W.cell? ⟨qb, qo + v * 2 + 1, none⟩ = some (.int .i64 (py v)) ∧ W.cell? ⟨qb, qo + u' * 2, none⟩ = some (.int .i64 (px u')) ∧ W.cell? ⟨qb, qo + u' * 2 + 1, none⟩ = some (.int .i64 (py u')) ∧ W.cell? ⟨qb, qo + v' * 2, none⟩ = some (.int .i64 (px v')) ∧ W.cell? ⟨qb, qo + v' * 2 + 1, none⟩ = some (.int .i64 (py v'))) := hid fun W hW => ⟨(hW.cell (by exact bxl)).trans z3, (hW.cell (by exact bxl)).trans z4, (hW.cell (by exact lgl)).trans z1, (hW.cell (by exact lgl)).trans z2, (hW.cell (by exact qbl)).trans pu.1, (hW.cell (by exact qbl)).trans pu.2, (hW.cell (by exact qbl)).trans pv.1, (hW.cell (by exact qbl)).trans pv.2, (hW.cell (by exact qbl)).trans pu'.1, (hW.cell (by exact qbl)).trans pu'.2, (hW.cell (by exact qbl)).trans pv'.1, (hW.cell (by exact qbl)).trans pv'.2⟩
                have START := KEEP.out wr.drew (Below.refl _ _).drew
                have CR := hid (fun W => cr88 BDS.out un vn un' vn' W)
                obtain ⟨cb, hcb⟩ : ∃ cb, cb = crossB px py u v u' v' := ⟨_, rfl⟩
                rw [← hcb] at CR
                have HX1 := hid (HX0.out cb hcb)
                have e1 : (u : Int) < n := by omega
                have e2 : (v : Int) < n := by omega
                have e3 : (u' : Int) < n := by omega
                have e4 : (v' : Int) < n := by omega
                have e5 : (0 : Int) ≤ u := by omega
                have e6 : (0 : Int) ≤ v := by omega
                have e7 : (0 : Int) ≤ u' := by omega
                have e8 : (0 : Int) ≤ v' := by omega
                have e9 : (0 : Int) ≤ k' := by omega
                clear hu' hv' hcb HX0 z1 z2 z3 z4 pu pv pu' pv' cu' cv'
                go_wp2_with fail
                go_region_held3 (fun W => W.cell? ⟨bx, 0, none⟩ = some (.int .i64 (u : Nat)) ∧ W.cell? ⟨bx, 1, none⟩ = some (.int .i64 (v : Nat)) ∧ W.cell? ⟨lg, lo + k' * 2, none⟩ = some (.int .i64 (u' : Nat)) ∧ W.cell? ⟨lg, lo + k' * 2 + 1, none⟩ = some (.int .i64 (v' : Nat)) ∧ W.cell? ⟨qb, qo + u * 2, none⟩ = some (.int .i64 (px u)) ∧ W.cell? ⟨qb, qo + u * 2 + 1, none⟩ = some (.int .i64 (py u)) ∧ W.cell? ⟨qb, qo + v * 2, none⟩ = some (.int .i64 (px v)) ∧ W.cell? ⟨qb, qo + v * 2 + 1, none⟩ = some (.int .i64 (py v)) ∧ W.cell? ⟨qb, qo + u' * 2, none⟩ = some (.int .i64 (px u')) ∧ W.cell? ⟨qb, qo + u' * 2 + 1, none⟩ = some (.int .i64 (py u')) ∧ W.cell? ⟨qb, qo + v' * 2, none⟩ = some (.int .i64 (px v')) ∧ W.cell? ⟨qb, qo + v' * 2 + 1, none⟩ = some (.int .i64 (py v'))) (assumption)
                  ((go_at_call 88; refine (CR.out _).mono ?_; rintro e w6 ⟨rfl, hb6⟩; have HB6 : Hid (Below wr.heap.size wr w6) := hid ((Below.refl _ _).drew.trans hb6); have HK6 := KEEP.out w6 HB6.out; clear hb6))
                have HB7 := hid (HB.out.trans (HB6.out.mono HB.out.size))
                clear HK6 START KEEP CR HB6
                cases cb with
                | true =>
                  have e := R6.out h20 ALL.out ⟨i, by rw [toN_len]; exact hix, HX1.out.1 rfl⟩
                  subst e
                  go_wp2_with fail
                  go_ret
                  exact ⟨rfl, HB2.out.trans (HB7.out.mono HB2.out.size)⟩
                | false =>
                  have HN := hid (HX1.out.2 rfl)
                  clear HX1
                  go_wp2_with fail
                  go_roundw
                  case rel => exact ⟨k' + 1, by omega, by go_num, HN, HB7⟩
                  case measure => simp [intOf]; omega
              · have hkk' : i = k' := by omega
                subst hkk'
                obtain ⟨W8, rfl⟩ : ∃ W8, W8 = wr := ⟨wr, rfl⟩
                go_wp2_with fail
                go_loopw [12] (fun ix wr => ∃ p : Nat, p ≤ n ∧ ix = .int .i64 p ∧ Hid (∀ r, r < p → betwB px py u v r = false) ∧ Hid (Below W2.heap.size W2 wr)) (fun ix _ => n - (intOf ix).toNat)
                case atStart => exact ⟨0, Nat.zero_le _, rfl, hid (fun r h => by omega), HB⟩
                case round =>
                  clear HB
                  obtain ⟨p, hp, rfl, HF, HB⟩ := hrel
                  by_cases hpn : p < n
                  · have hpn' : (p : Int) < n := by omega
                    have HX0 : Hid (∀ b, b = betwB px py u v p → (b = true → wayB px py n (toN xs) i) ∧ (b = false → ∀ r, r < p + 1 → betwB px py u v r = false)) := hid (fun b hb => ⟨fun h => HWB.out.2 (.inl ⟨p, hpn, by rw [← hb]; exact h⟩), fun h r hr => by
                      rcases Nat.lt_or_ge r p with q | q
                      · exact HF.out r q
                      · have : r = p := by omega
                        subst this; rw [← hb]; exact h⟩)
                    have HBW := hid (HB2.out.trans (HB.out.mono HB2.out.size))
                    have qbl : qb < wr.heap.size := Nat.lt_of_lt_of_le HP.out.lt HBW.out.size
                    have bxl : bx < wr.heap.size := Nat.lt_of_lt_of_le BXL.out HB.out.size
                    have z3 := (HB.out.cell (p := ⟨bx, 0, none⟩) BXL.out).trans X0.out
                    have z4 := (HB.out.cell (p := ⟨bx, 1, none⟩) BXL.out).trans X1.out
                    have pu := KP.out wr HB.out u un
                    have pv := KP.out wr HB.out v vn
                    have pp := KP.out wr HB.out p hpn
                    have KEEP : Hid (∀ W, Below wr.heap.size wr W → W.cell? ⟨bx, 0, none⟩ = some (.int .i64 (u : Nat)) ∧ W.cell? ⟨bx, 1, none⟩ = some (.int .i64 (v : Nat)) ∧ W.cell? ⟨qb, qo + u * 2, none⟩ = some (.int .i64 (px u)) ∧ W.cell? ⟨qb, qo + u * 2 + 1, none⟩ = some (.int .i64 (py u)) ∧ W.cell? ⟨qb, qo + v * 2, none⟩ = some (.int .i64 (px v)) ∧ W.cell? ⟨qb, qo + v * 2 + 1, none⟩ = some (.int .i64 (py v)) ∧ W.cell? ⟨qb, qo + p * 2, none⟩ = some (.int .i64 (px p)) ∧ W.cell? ⟨qb, qo + p * 2 + 1, none⟩ = some (.int .i64 (py p))) := hid fun W hW => ⟨(hW.cell (by exact bxl)).trans z3, (hW.cell (by exact bxl)).trans z4, (hW.cell (by exact qbl)).trans pu.1, (hW.cell (by exact qbl)).trans pu.2, (hW.cell (by exact qbl)).trans pv.1, (hW.cell (by exact qbl)).trans pv.2, (hW.cell (by exact qbl)).trans pp.1, (hW.cell (by exact qbl)).trans pp.2⟩
                    have START := KEEP.out wr.drew (Below.refl _ _).drew
                    have CR := hid (fun W => bt83 BDS.out un vn hpn W)
                    obtain ⟨cb, hcb⟩ : ∃ cb, cb = betwB px py u v p := ⟨_, rfl⟩
                    rw [← hcb] at CR
                    have HX1 := hid (HX0.out cb hcb)
                    have e1 : (u : Int) < n := by omega
                    have e2 : (v : Int) < n := by omega
                    have e5 : (0 : Int) ≤ u := by omega
                    have e6 : (0 : Int) ≤ v := by omega
                    have e9 : (0 : Int) ≤ p := by omega
                    clear hcb HX0 z3 z4 pu pv pp
                    go_wp2_with fail
                    go_region_held3 (fun W => W.cell? ⟨bx, 0, none⟩ = some (.int .i64 (u : Nat)) ∧ W.cell? ⟨bx, 1, none⟩ = some (.int .i64 (v : Nat)) ∧ W.cell? ⟨qb, qo + u * 2, none⟩ = some (.int .i64 (px u)) ∧ W.cell? ⟨qb, qo + u * 2 + 1, none⟩ = some (.int .i64 (py u)) ∧ W.cell? ⟨qb, qo + v * 2, none⟩ = some (.int .i64 (px v)) ∧ W.cell? ⟨qb, qo + v * 2 + 1, none⟩ = some (.int .i64 (py v)) ∧ W.cell? ⟨qb, qo + p * 2, none⟩ = some (.int .i64 (px p)) ∧ W.cell? ⟨qb, qo + p * 2 + 1, none⟩ = some (.int .i64 (py p))) (assumption)
                      ((go_at_call 83; refine (CR.out _).mono ?_; rintro e w6 ⟨rfl, hb6⟩; have HB6 : Hid (Below wr.heap.size wr w6) := hid ((Below.refl _ _).drew.trans hb6); have HK6 := KEEP.out w6 HB6.out; clear hb6))
                    have HB7 := hid (HB.out.trans (HB6.out.mono HB.out.size))
                    clear HK6 START KEEP CR HB6
                    cases cb with
                    | true =>
                      have e := R6.out h20 ALL.out ⟨i, by rw [toN_len]; exact hix, HX1.out.1 rfl⟩
                      subst e
                      go_wp2_with fail
                      go_ret
                      exact ⟨rfl, HB2.out.trans (HB7.out.mono HB2.out.size)⟩
                    | false =>
                      have HN := hid (HX1.out.2 rfl)
                      clear HX1
                      go_wp2_with fail
                      go_roundw
                      case rel => exact ⟨p + 1, by omega, by go_num, HN, HB7⟩
                      case measure => simp [intOf]; omega
                  · have hpp : n = p := by omega
                    subst hpp
                    have HN : Hid (∀ r, r < i + 1 → ¬ wayB px py n (toN xs) r) := hid (fun r hr h => by
                      rcases Nat.lt_or_ge r i with q | q
                      · exact HJ.out r q h
                      · have : r = i := by omega
                        subst this
                        rcases HWB.out.1 h with ⟨p, hp, g⟩ | ⟨j, hj, g⟩
                        · rw [HF.out p hp] at g; cases g
                        · rw [HC.out j hj] at g; cases g)
                    go_wp2_with fail
                    go_roundw
                    case rel => exact ⟨i + 1, by omega, by go_num, HN, hid (HB2.out.trans (HB.out.mono HB2.out.size))⟩
                    case measure => simp [intOf]; omega
          · have hii : k = i := by omega
            subst hii
            have e := R0.out h20 ALL.out (fun ⟨r, hr, h⟩ => HJ.out r (by rw [toN_len, ← HK.out] at hr; exact hr) h)
            subst e
            go_wp2_with fail
            go_ret
            exact ⟨rfl, HB.out⟩

end Go.Proofs.YtdbebbbceeopaaaGreat

set_option linter.unusedSimpArgs false
namespace Go.Proofs.YtdbebbbceeopaaaGreat
open Go.RowKit
open Geo (Mesh)
variable {px py : Nat → Int} {n m : Nat} {M : Nat → Nat → Option Nat} {A B C : Nat → Nat} {z : List Int}

theorem acr_last (z : List Int) (a b : Int) : ∀ k, ((acr z a b k).1 = 0) ∨ ∃ j, j < k ∧ 0 ≤ thirdZ z j a b ∧ (acr z a b k).2 = thirdZ z j a b
  | 0 => .inl rfl
  | k + 1 => by
    unfold acr
    by_cases h : 0 ≤ thirdZ z k a b
    · rw [if_pos h]
      exact .inr ⟨k, by omega, h, rfl⟩
    · rw [if_neg h]
      rcases acr_last z a b k with g | ⟨j, hj, g1, g2⟩
      · exact .inl g
      · exact .inr ⟨j, by omega, g1, g2⟩

theorem Lists.acr_some (h : Lists M m A B C) (hm : Mesh px py n M) (hr : Row3 n m z A B C) {a b c : Nat} (e : M a b = some c) : (acr z a b m).1 = 1 ∧ (acr z a b m).2 = (c : Nat) := by
  have one := h.one hm hr a b
  have bd := acr_bd z a b m
  have nz : (acr z a b m).1 ≠ 0 := fun k => by have := h.none_of hm hr a b k; rw [e] at this; cases this
  refine ⟨by omega, ?_⟩
  rcases acr_last z a b m with g | ⟨j, hj, g1, g2⟩
  · exact absurd g nz
  · rw [g2]
    have k := (third_hit hr hj a b).1 g1
    obtain ⟨c', e', q⟩ := h.side hm hj k
    rw [e] at e'
    cases e'
    obtain ⟨z0, z1, z2⟩ := hr.z j hj
    have p := hm.pos _ _ _ (h.tri j hj).1
    have n1 := Geo.T_ne12 p
    have n2 := Geo.T_ne13 p
    have n3 := Geo.T_ne23 p
    unfold thirdZ
    rw [z0, z1, z2]
    unfold thirdI
    rcases q with ⟨q1, q2, q3⟩ | ⟨q1, q2, q3⟩ | ⟨q1, q2, q3⟩
    · rw [if_pos (by omega)]; omega
    · rw [if_neg (by omega), if_pos (by omega)]; omega
    · rw [if_neg (by omega), if_neg (by omega), if_pos (by omega)]; omega

theorem Lists.acr_none (h : Lists M m A B C) (hm : Mesh px py n M) (hr : Row3 n m z A B C) {a b : Nat} (e : M a b = none) : (acr z a b m).1 = 0 := by
  have one := h.one hm hr a b
  have bd := acr_bd z a b m
  rcases Classical.em ((acr z a b m).1 = 0) with k | k
  · exact k
  · obtain ⟨c, e'⟩ := h.some_of hm hr a b (by omega)
    rw [e] at e'
    cases e'

/-- Is there such a line? -/
def IsL (xs : List (Int × Int)) (a b : Int) : Prop := ∃ x ∈ xs, (x.1 = a ∧ x.2 = b) ∨ (x.1 = b ∧ x.2 = a)

def IsLR (xs : List (Int × Int)) (a b : Int) (e : Ending) : Prop := ∃ r : Bool, e = .returned (.bool r) ∧ (r = true ↔ IsL xs a b)

set_option maxRecDepth 100000 in
set_option maxHeartbeats 4000000 in
theorem isLine_any (lcap : Nat) (la : Option Addr) (xs : List (Int × Int)) (a b : Int) (w : World) (hl : LnI w la xs) (hk : xs.length ≤ 2000000) :
    Calls Tryz.prog 90 #[.slice la xs.length lcap, .int .i64 a, .int .i64 b] w fun e w' => IsLR xs a b e ∧ Below w.heap.size w w' := by
  have HL := hid hl
  obtain ⟨k, hkk⟩ : ∃ k, k = xs.length := ⟨_, rfl⟩
  have HK := hid hkk
  rw [← hkk] at hk ⊢
  clear hl hkk
  go_enter Tryz.func90, Tryz.ntmps90
  go_wp2_with fail
  go_loopw [7] (fun ix wr => ∃ i : Nat, i ≤ k ∧ ix = .int .i64 i ∧ Hid (∀ r, (hr : r < xs.length) → r < i → ¬ ((xs[r].1 = a ∧ xs[r].2 = b) ∨ (xs[r].1 = b ∧ xs[r].2 = a))) ∧ Hid (Below w.heap.size w wr)) (fun ix _ => k - (intOf ix).toNat)
  case atStart => exact ⟨0, Nat.zero_le _, rfl, hid (fun r _ h => by omega), hid (Below.refl _ _)⟩
  case round =>
    obtain ⟨i, hi, rfl, HJ, HB⟩ := hrel
    by_cases hik : i < k
    · have hik' : (i : Int) < k := by omega
      have hix : i < xs.length := by rw [← HK.out]; exact hik
      obtain ⟨lg, lo, hla, hlg, hlc⟩ : ∃ lg lo, la = some ⟨lg, lo, none⟩ ∧ lg < w.heap.size ∧ (w.cell? ⟨lg, lo + i * 2, none⟩ = some (.int .i64 xs[i].1) ∧ w.cell? ⟨lg, lo + i * 2 + 1, none⟩ = some (.int .i64 xs[i].2)) := by
        rcases HL.out with h | ⟨g, o, e, h1, h2⟩
        · rw [h] at hix; simp at hix
        · exact ⟨g, o, e, h1, h2 i hix⟩
      subst hla
      have xc := (HB.out.cell (p := ⟨lg, lo + i * 2, none⟩) hlg).trans hlc.1
      have yc := (HB.out.cell (p := ⟨lg, lo + i * 2 + 1, none⟩) hlg).trans hlc.2
      have HNO : Hid ((¬ ((xs[i].1 = a ∧ xs[i].2 = b) ∨ (xs[i].1 = b ∧ xs[i].2 = a))) → ∀ r, (hr : r < xs.length) → r < i + 1 → ¬ ((xs[r].1 = a ∧ xs[r].2 = b) ∨ (xs[r].1 = b ∧ xs[r].2 = a))) := hid (fun h r hr hri => by
        rcases Nat.lt_or_ge r i with q | q
        · exact HJ.out r hr q
        · have : r = i := by omega
          subst this; exact h)
      have HYES : Hid (((xs[i].1 = a ∧ xs[i].2 = b) ∨ (xs[i].1 = b ∧ xs[i].2 = a)) → IsL xs a b) := hid (fun h => ⟨xs[i], List.getElem_mem hix, h⟩)
      obtain ⟨u, hu⟩ : ∃ u, u = xs[i].1 := ⟨_, rfl⟩
      obtain ⟨v, hv⟩ : ∃ v, v = xs[i].2 := ⟨_, rfl⟩
      rw [← hu] at xc HNO HYES
      rw [← hv] at yc HNO HYES
      clear hu hv hlc
      have q1 : (0 : Int) ≤ (i : Int) := by omega
      obtain ⟨c1, hc1⟩ : ∃ c, (u == a) = c := ⟨_, rfl⟩
      obtain ⟨c2, hc2⟩ : ∃ c, (v == b) = c := ⟨_, rfl⟩
      obtain ⟨c3, hc3⟩ : ∃ c, (u == b) = c := ⟨_, rfl⟩
      obtain ⟨c4, hc4⟩ : ∃ c, (v == a) = c := ⟨_, rfl⟩
      have HQ : Hid (((u = a ∧ v = b) ∨ (u = b ∧ v = a)) ↔ ((c1 && c2) || (c3 && c4)) = true) := hid (by rw [← hc1, ← hc2, ← hc3, ← hc4]; simp)
      rcases hcc : ((c1 && c2) || (c3 && c4)) with _ | _
      · have NO := hid (HNO.out (fun h => by have := HQ.out.1 h; rw [hcc] at this; cases this))
        clear HNO HYES HQ
        cases c1 <;> cases c2 <;> cases c3 <;> cases c4 <;> first | (simp at hcc; done) | skip
        all_goals
          clear hcc
          go_wp2_with fail
          first
            | go_quiet (fail)
            | skip
          go_wp2_with fail
          go_roundw
          case rel => exact ⟨i + 1, by omega, by go_num, NO, hid (by first | exact HB.out | exact below_drewN HB.out _)⟩
          case measure => simp [intOf]; omega
      · have YES := hid (HYES.out (HQ.out.2 hcc))
        clear HNO HYES HQ
        cases c1 <;> cases c2 <;> cases c3 <;> cases c4 <;> first | (simp at hcc; done) | skip
        all_goals
          clear hcc
          go_wp2_with fail
          first
            | go_quiet (fail)
            | skip
          go_wp2_with fail
          go_ret
          exact ⟨⟨true, rfl, ⟨fun _ => YES.out, fun _ => rfl⟩⟩, by first | exact HB.out | exact below_drewN HB.out _⟩
    · have hii : k = i := by omega
      subst hii
      go_wp2_with fail
      go_ret
      exact ⟨⟨false, rfl, ⟨fun h => (by cases h), fun ⟨x, hx, h⟩ => by
        obtain ⟨r, hr, rfl⟩ := List.getElem_of_mem hx
        exact absurd h (HJ.out r hr (by rw [HK.out]; exact hr))⟩⟩, HB.out⟩
end Go.Proofs.YtdbebbbceeopaaaGreat

set_option linter.unusedSimpArgs false
namespace Go.Proofs.YtdbebbbceeopaaaGreat
open Go.RowKit
open Geo (Mesh)

theorem toN_line {n : Nat} {xs : List (Int × Int)} (hj : ∀ x ∈ xs, Jn n x) {u v : Nat} (h : ¬ IsL xs u v) : ¬ ∃ y ∈ toN xs, (y.1 = u ∧ y.2 = v) ∨ (y.1 = v ∧ y.2 = u) := by
  rintro ⟨y, hy, k⟩
  obtain ⟨x, hx, rfl⟩ := List.mem_map.1 hy
  have j := hj x hx
  obtain ⟨j1, j2, _⟩ := j
  dsimp only at k
  exact h ⟨x, hx, by omega⟩

theorem wn87 {px py : Nat → Int} {n : Nat} (hb : Bds n px py) {a b c d : Nat} (ha : a < n) (hb' : b < n) (hc : c < n) (hd : d < n) (w : World) :
    Calls Tryz.prog 87 #[.agg #[.int .i64 (px a), .int .i64 (py a)], .agg #[.int .i64 (px b), .int .i64 (py b)], .agg #[.int .i64 (px c), .int .i64 (py c)], .agg #[.int .i64 (px d), .int .i64 (py d)]] w fun r w' => r = .returned (.int .i64 (Geo.Wn px py a b c d)) ∧ Below w.heap.size w w' := by
  have := rwithin_any (px a) (py a) (px b) (py b) (px c) (py c) (px d) (py d) (hb a ha).1 (hb a ha).2 (hb b hb').1 (hb b hb').2 (hb c hc).1 (hb c hc).2 (hb d hd).1 (hb d hd).2 w
  rw [wnR_Wn] at this
  exact this

set_option maxRecDepth 100000 in
set_option maxHeartbeats 8000000 in
theorem refBound_any (px py : Nat → Int) (n qb qo cap lcap g mm mcap : Nat) (la : Option Addr) (xs : List (Int × Int)) (z : List Int) (A B C : Nat → Nat) (M : Nat → Nat → Option Nat) (w : World) (hp : Pts w qb qo n px py) (ht : Trs w g 0 mm z) (hn : n ≤ 40) (hm : mm ≤ 2000) (hbd : Bds n px py) (hr : Row3 n mm z A B C) (hl : LnI w la xs) (hk : xs.length ≤ 1000) (hls : Lists M mm A B C) (hme : Mesh px py n M) (hj : ∀ x ∈ xs, Jn n x) (hlnd : Lnd px py M (toN xs)) :
    Calls Tryz.prog 53 #[.slice (some ⟨qb, qo, none⟩) n cap, .slice la xs.length lcap, .slice (some ⟨g, 0, none⟩) mm mcap] w fun e w' => e = .returned (.bool true) ∧ Below w.heap.size w w' := by
  have HP := hid hp
  have HT := hid ht
  have BDS := hid hbd
  have HL := hid hl
  have ISL := hid (fun (a b : Int) W (hW : Below w.heap.size w W) => isLine_any lcap la xs a b W (hl.below hW) (by omega))
  have ACR := hid (fun (a b : Int) W (hW : Below w.heap.size w W) => across_any mm mcap (some ⟨g, 0, none⟩) z a b W (by omega) (fun _ => ⟨g, 0, rfl, ht.below hW⟩))
  have SOME := hid (fun (a b c : Nat) (e : M a b = some c) => hls.acr_some hme hr e)
  have NONE := hid (fun (a b : Nat) (e : M a b = none) => hls.acr_none hme hr e)
  have JOI : Hid (∀ i, (hi : i < xs.length) → ∃ u v : Nat, xs[i].1 = u ∧ xs[i].2 = v ∧ (M u v ≠ none ∨ M v u ≠ none)) := hid (fun i hi => by
    have jj := hj xs[i] (List.getElem_mem hi)
    have hy : (xs[i].1.toNat, xs[i].2.toNat) ∈ toN xs := List.mem_map.2 ⟨xs[i], List.getElem_mem hi, rfl⟩
    exact ⟨xs[i].1.toNat, xs[i].2.toNat, (Int.toNat_of_nonneg jj.1.1).symm, (Int.toNat_of_nonneg jj.2.1.1).symm, hlnd.jo _ hy⟩)
  have RND := hid (fun (u v c d : Nat) (e1 : M u v = some c) (e2 : M v u = some d) (h : ¬ IsL xs u v) => hlnd.rd u v c d e1 e2 (toN_line hj h))
  have LTS := hid (fun (u v c : Nat) (e : M u v = some c) => hme.lts e)
  obtain ⟨kk, hkk⟩ : ∃ kk, kk = xs.length := ⟨_, rfl⟩
  have HK := hid hkk
  rw [← hkk] at hk ISL ⊢
  clear hp ht hbd hr hl hls hme hj hlnd hkk
  go_enter Tryz.func53, Tryz.ntmps53
  go_wp2_with fail
  go_loopw [7] (fun ix wr => ∃ i : Nat, i ≤ kk ∧ ix = .int .i64 i ∧ Hid (Below w.heap.size w wr)) (fun ix _ => kk - (intOf ix).toNat)
  case atStart => exact ⟨0, Nat.zero_le _, rfl, hid (Below.refl _ _)⟩
  case round =>
    obtain ⟨i, hi, rfl, HB⟩ := hrel
    by_cases hik : i < kk
    · have hik' : (i : Int) < kk := by omega
      have hix : i < xs.length := by rw [← HK.out]; exact hik
      obtain ⟨lg, lo, hla, hlg, hlc⟩ : ∃ lg lo, la = some ⟨lg, lo, none⟩ ∧ lg < w.heap.size ∧ (w.cell? ⟨lg, lo + i * 2, none⟩ = some (.int .i64 xs[i].1) ∧ w.cell? ⟨lg, lo + i * 2 + 1, none⟩ = some (.int .i64 xs[i].2)) := by
        rcases HL.out with h | ⟨g, o, e, h1, h2⟩
        · rw [h] at hix; simp at hix
        · exact ⟨g, o, e, h1, h2 i hix⟩
      subst hla
      obtain ⟨u, v, eu, ev, hjo⟩ := JOI.out i hix
      rw [eu, ev] at hlc
      have xc := (HB.out.cell (p := ⟨lg, lo + i * 2, none⟩) hlg).trans hlc.1
      have yc := (HB.out.cell (p := ⟨lg, lo + i * 2 + 1, none⟩) hlg).trans hlc.2
      have lgl : lg < wr.heap.size := Nat.lt_of_lt_of_le hlg HB.out.size
      have HNZ : Hid ((acr z u v mm).1 + (acr z v u mm).1 ≠ 0 ∧ 0 ≤ (acr z u v mm).1 ∧ 0 ≤ (acr z v u mm).1 ∧ (acr z u v mm).1 ≤ mm ∧ (acr z v u mm).1 ≤ mm) := hid (by
        have b1 := acr_bd z u v mm
        have b2 := acr_bd z v u mm
        refine ⟨?_, b1.1, b2.1, b1.2, b2.2⟩
        rcases hjo with h | h
        · cases e : M u v with
          | none => exact absurd e h
          | some c => have := (SOME.out u v c e).1; omega
        · cases e : M v u with
          | none => exact absurd e h
          | some c => have := (SOME.out v u c e).1; omega)
      have AC1 := hid (ACR.out (u : Nat) (v : Nat))
      have AC2 := hid (ACR.out (v : Nat) (u : Nat))
      obtain ⟨s1, hs1⟩ : ∃ s1, s1 = (acr z u v mm).1 := ⟨_, rfl⟩
      obtain ⟨s2, hs2⟩ : ∃ s2, s2 = (acr z v u mm).1 := ⟨_, rfl⟩
      obtain ⟨r1, hr1⟩ : ∃ r1, r1 = (acr z u v mm).2 := ⟨_, rfl⟩
      obtain ⟨r2, hr2⟩ : ∃ r2, r2 = (acr z v u mm).2 := ⟨_, rfl⟩
      rw [← hs1, ← hr1] at AC1
      rw [← hs2, ← hr2] at AC2
      rw [← hs1, ← hs2] at HNZ
      have nz := HNZ.out
      have wr1 : IntKind.i64.wrap (s1 + s2) = s1 + s2 := by rw [IntKind.wrap_i64]; omega
      have dnz : (s1 + s2 == 0) = false := by simp; omega
      have KEEP : Hid (∀ W, Below wr.heap.size wr W → W.cell? ⟨lg, lo + i * 2, none⟩ = some (.int .i64 (u : Nat)) ∧ W.cell? ⟨lg, lo + i * 2 + 1, none⟩ = some (.int .i64 (v : Nat))) := hid fun W hW => ⟨(hW.cell (by exact lgl)).trans xc, (hW.cell (by exact lgl)).trans yc⟩
      have START := KEEP.out wr.drew (Below.refl _ _).drew
      have q1 : (0 : Int) ≤ (i : Int) := by omega
      have HBT : Hid (∀ W, Below wr.heap.size wr W → Below w.heap.size w W) := hid (fun W hW => HB.out.trans (hW.mono HB.out.size))
      clear hs1 hs2 hr1 hr2 nz eu ev hjo hlc
      go_wp2_with fail
      go_region_held3 (fun W => W.cell? ⟨lg, lo + i * 2, none⟩ = some (.int .i64 (u : Nat)) ∧ W.cell? ⟨lg, lo + i * 2 + 1, none⟩ = some (.int .i64 (v : Nat))) (assumption)
        ((go_at_call 89; refine (AC1.out _ (HBT.out _ (Below.refl _ _).drew)).mono ?_; rintro e w6 ⟨rfl, hb6⟩; have HB6 : Hid (Below wr.heap.size wr w6) := hid ((Below.refl _ _).drew.trans hb6); have HK6 := KEEP.out w6 HB6.out; clear hb6))
      have START := KEEP.out w6.drew HB6.out.drew
      clear HK6
      go_wp2_with fail
      go_region_held3 (fun W => W.cell? ⟨lg, lo + i * 2, none⟩ = some (.int .i64 (u : Nat)) ∧ W.cell? ⟨lg, lo + i * 2 + 1, none⟩ = some (.int .i64 (v : Nat))) (assumption)
        ((go_at_call 89; refine (AC2.out _ (HBT.out _ HB6.out.drew)).mono ?_; rintro e w8 ⟨rfl, hb8⟩; have HB8 : Hid (Below wr.heap.size wr w8) := hid (HB6.out.drew.trans (hb8.mono HB6.out.size)); have HK8 := KEEP.out w8 HB8.out; clear hb8))
      have HB9 := hid (HBT.out _ HB8.out)
      clear HK8 START KEEP HB6 HB8 HBT xc yc
      go_wp2_with fail
      go_roundw
      case rel => exact ⟨i + 1, by omega, by go_num, HB9⟩
      case measure => simp [intOf]; omega
    · have hii : kk = i := by omega
      subst hii
      obtain ⟨W9, rfl⟩ : ∃ W9, W9 = wr := ⟨wr, rfl⟩
      clear JOI
      go_wp2_with fail
      go_loopw [12] (fun ix wr => ∃ i : Nat, i ≤ n ∧ ix = .int .i64 i ∧ Hid (Below w.heap.size w wr)) (fun ix _ => n - (intOf ix).toNat)
      case atStart => exact ⟨0, Nat.zero_le _, rfl, HB⟩
      case round =>
        clear HB
        obtain ⟨i, hi, rfl, HB⟩ := hrel
        by_cases hin : i < n
        · have hin' : (i : Int) < n := by omega
          obtain ⟨W8, rfl⟩ : ∃ W8, W8 = wr := ⟨wr, rfl⟩
          go_wp2_with fail
          go_loopw [13] (fun ix wr => ∃ k : Nat, k ≤ n ∧ ix = .int .i64 k ∧ Hid (Below w.heap.size w wr)) (fun ix _ => n - (intOf ix).toNat)
          case atStart => exact ⟨0, Nat.zero_le _, rfl, HB⟩
          case round =>
            clear HB
            obtain ⟨k, hk', rfl, HB⟩ := hrel
            by_cases hkn : k < n
            · have hkn' : (k : Int) < n := by omega
              have AC1 := hid (ACR.out (i : Nat) (k : Nat))
              have AC2 := hid (ACR.out (k : Nat) (i : Nat))
              have F1 : Hid ((M i k = none ∧ (acr z i k mm).1 = 0) ∨ ∃ c : Nat, c < n ∧ M i k = some c ∧ (acr z i k mm).1 = 1 ∧ (acr z i k mm).2 = c) := hid (by
                cases e : M i k with
                | none => exact .inl ⟨rfl, NONE.out i k e⟩
                | some c => exact .inr ⟨c, (LTS.out i k c e).2.2, rfl, SOME.out i k c e⟩)
              have F2 : Hid ((M k i = none ∧ (acr z k i mm).1 = 0) ∨ ∃ c : Nat, c < n ∧ M k i = some c ∧ (acr z k i mm).1 = 1 ∧ (acr z k i mm).2 = c) := hid (by
                cases e : M k i with
                | none => exact .inl ⟨rfl, NONE.out k i e⟩
                | some c => exact .inr ⟨c, (LTS.out k i c e).2.2, rfl, SOME.out k i c e⟩)
              obtain ⟨s1, hs1⟩ : ∃ s1, s1 = (acr z i k mm).1 := ⟨_, rfl⟩
              obtain ⟨s2, hs2⟩ : ∃ s2, s2 = (acr z k i mm).1 := ⟨_, rfl⟩
              obtain ⟨r1, hr1⟩ : ∃ r1, r1 = (acr z i k mm).2 := ⟨_, rfl⟩
              obtain ⟨r2, hr2⟩ : ∃ r2, r2 = (acr z k i mm).2 := ⟨_, rfl⟩
              rw [← hs1, ← hr1] at AC1 F1
              rw [← hs2, ← hr2] at AC2 F2
              have IL := hid (ISL.out (i : Nat) (k : Nat))
              clear hs1 hs2 hr1 hr2
              go_wp2_with fail
              refine (AC1.out _ HB.out).mono ?_
              rintro e w2 ⟨rfl, hb2⟩
              have HB2 := hid (HB.out.trans (hb2.mono HB.out.size))
              clear hb2
              go_wp2_with fail
              refine (AC2.out _ HB2.out).mono ?_
              rintro e w3 ⟨rfl, hb3⟩
              have HB3 := hid (HB2.out.trans (hb3.mono HB2.out.size))
              clear hb3
              go_wp2_with fail
              refine (IL.out _ HB3.out).mono ?_
              rintro e w4 ⟨⟨lb, rfl, hlb⟩, hb4⟩
              have HB4 := hid (HB3.out.trans (hb4.mono HB3.out.size))
              have HLB := hid hlb
              clear hb4 hlb AC1 AC2 IL HB2 HB3
              rcases F1.out with ⟨_, e1⟩ | ⟨c, hc, m1, e1, e1'⟩
              · subst e1
                clear F1 F2
                go_wp2_with fail
                go_roundw
                case rel => exact ⟨k + 1, by omega, by go_num, HB4⟩
                case measure => simp [intOf]; omega
              · subst e1 e1'
                rcases F2.out with ⟨_, e2⟩ | ⟨d, hd, m2, e2, e2'⟩
                · subst e2
                  clear F1 F2 m1
                  go_wp2_with fail
                  go_roundw
                  case rel => exact ⟨k + 1, by omega, by go_num, HB4⟩
                  case measure => simp [intOf]; omega
                · subst e2 e2'
                  clear F1 F2
                  cases lb with
                  | true =>
                    clear m1 m2
                    go_wp2_with fail
                    go_roundw
                    case rel => exact ⟨k + 1, by omega, by go_num, HB4⟩
                    case measure => simp [intOf]; omega
                  | false =>
                    have wle := RND.out i k c d m1 m2 (fun h => by have := HLB.out.2 h; cases this)
                    have CW := hid (fun W => wn87 BDS.out hin hkn hc hd W)
                    obtain ⟨wv, hwv⟩ : ∃ wv, wv = Geo.Wn px py i k c d := ⟨_, rfl⟩
                    rw [← hwv] at CW wle
                    have hpw := HP.out.below HB4.out HP.out.lt
                    have qbl := hpw.lt
                    have KEEP : Hid (∀ W, Below w4.heap.size w4 W → W.cell? ⟨qb, qo + i * 2, none⟩ = some (.int .i64 (px i)) ∧ W.cell? ⟨qb, qo + i * 2 + 1, none⟩ = some (.int .i64 (py i)) ∧ W.cell? ⟨qb, qo + k * 2, none⟩ = some (.int .i64 (px k)) ∧ W.cell? ⟨qb, qo + k * 2 + 1, none⟩ = some (.int .i64 (py k)) ∧ W.cell? ⟨qb, qo + c * 2, none⟩ = some (.int .i64 (px c)) ∧ W.cell? ⟨qb, qo + c * 2 + 1, none⟩ = some (.int .i64 (py c)) ∧ W.cell? ⟨qb, qo + d * 2, none⟩ = some (.int .i64 (px d)) ∧ W.cell? ⟨qb, qo + d * 2 + 1, none⟩ = some (.int .i64 (py d))) := hid fun W hW => ⟨(hW.cell (by exact qbl)).trans (hpw.x i hin), (hW.cell (by exact qbl)).trans (hpw.y i hin), (hW.cell (by exact qbl)).trans (hpw.x k hkn), (hW.cell (by exact qbl)).trans (hpw.y k hkn), (hW.cell (by exact qbl)).trans (hpw.x c hc), (hW.cell (by exact qbl)).trans (hpw.y c hc), (hW.cell (by exact qbl)).trans (hpw.x d hd), (hW.cell (by exact qbl)).trans (hpw.y d hd)⟩
                    have START := KEEP.out w4.drew (Below.refl _ _).drew
                    have e1 : (0 : Int) ≤ i := by omega
                    have e2 : (0 : Int) ≤ k := by omega
                    have e3 : (0 : Int) ≤ c := by omega
                    have e4 : (0 : Int) ≤ d := by omega
                    have e5 : (c : Int) < n := by omega
                    have e6 : (d : Int) < n := by omega
                    have hle : ¬ 0 < wv := by omega
                    clear hpw hwv m1 m2 wle
                    go_wp2_with fail
                    go_region_held3 (fun W => W.cell? ⟨qb, qo + i * 2, none⟩ = some (.int .i64 (px i)) ∧ W.cell? ⟨qb, qo + i * 2 + 1, none⟩ = some (.int .i64 (py i)) ∧ W.cell? ⟨qb, qo + k * 2, none⟩ = some (.int .i64 (px k)) ∧ W.cell? ⟨qb, qo + k * 2 + 1, none⟩ = some (.int .i64 (py k)) ∧ W.cell? ⟨qb, qo + c * 2, none⟩ = some (.int .i64 (px c)) ∧ W.cell? ⟨qb, qo + c * 2 + 1, none⟩ = some (.int .i64 (py c)) ∧ W.cell? ⟨qb, qo + d * 2, none⟩ = some (.int .i64 (px d)) ∧ W.cell? ⟨qb, qo + d * 2 + 1, none⟩ = some (.int .i64 (py d))) (assumption)
                      ((go_at_call 87; refine (CW.out _).mono ?_; rintro e w6 ⟨rfl, hb6⟩; have HB6 : Hid (Below w4.heap.size w4 w6) := hid ((Below.refl _ _).drew.trans hb6); have HK6 := KEEP.out w6 HB6.out; clear hb6))
                    have HB7 := hid (HB4.out.trans (HB6.out.mono HB4.out.size))
                    clear HK6 START KEEP HB6
                    go_wp2_with fail
                    go_roundw
                    case rel => exact ⟨k + 1, by omega, by go_num, HB7⟩
                    case measure => simp [intOf]; omega
            · have hkk' : n = k := by omega
              subst hkk'
              go_wp2_with fail
              go_roundw
              case rel => exact ⟨i + 1, by omega, by go_num, HB⟩
              case measure => simp [intOf]; omega
        · have hii' : n = i := by omega
          subst hii'
          go_wp2_with fail
          go_ret
          exact ⟨rfl, HB.out⟩
end Go.Proofs.YtdbebbbceeopaaaGreat

set_option linter.unusedSimpArgs false
namespace Go.Proofs.YtdbebbbceeopaaaGreat
open Go.RowKit

/-- The lines of a list of whole numbers. -/
def lnz (z : List Int) (k : Nat) : List (Int × Int) := (List.range k).map fun j => (zx z j, zy z j)

theorem lnz_len (z : List Int) (k : Nat) : (lnz z k).length = k := by simp [lnz]

theorem lnz_pts {w : World} {g o k : Nat} {z : List Int} (h : Pts w g o k (zx z) (zy z)) : LnI w (some ⟨g, o, none⟩) (lnz z k) := by
  refine .inr ⟨g, o, rfl, h.lt, fun i hi => ?_⟩
  rw [lnz_len] at hi
  have e : (lnz z k)[i]'(by rw [lnz_len]; exact hi) = (zx z i, zy z i) := by simp [lnz]
  rw [e]
  exact ⟨h.x i hi, h.y i hi⟩

theorem lnz_src {w : World} {v : Value} {k : Nat} {z : List Int} (h : Src w v 2 k z) : ∃ p c, v = .slice p k c ∧ LnI w p (lnz z k) := by
  by_cases hk : 0 < k
  · obtain ⟨b, o, c, e, hP⟩ := h.pts hk
    exact ⟨_, c, e, lnz_pts hP⟩
  · obtain ⟨_, p, c, e, _⟩ := h
    have : k = 0 := by omega
    subst this
    exact ⟨p, c, e, .inl (by simp [lnz])⟩

set_option maxHeartbeats 1000000 in
theorem bound_err {arg la : Value} {w : World} {x : Int} (hx : x ≠ 0) (hc : Calls Tryz.prog 33 #[arg] w fun e w' => e = .returned (.int .i64 x) ∧ Below w.heap.size w w') :
    Calls Tryz.prog 25 #[arg, la] w fun e w' => e = .returned (.tuple #[.slice none 0 0, .int .i64 x]) ∧ Below w.heap.size w w' := by
  have C := hid hc
  have d : (x != 0) = true := by simpa using hx
  clear hc hx
  go_enter Tryz.func25, Tryz.ntmps25
  go_wp2_with fail
  refine C.out.mono ?_
  rintro e w1 ⟨rfl, hb⟩
  have HB := hid hb
  clear hb
  go_wp2_with fail
  go_ret2
  exact ⟨rfl, HB.out⟩

set_option maxHeartbeats 1000000 in
theorem bound_err2 {arg la : Value} {w : World} {x : Int} (hx : x ≠ 0) (hc : Calls Tryz.prog 33 #[arg] w fun e w' => e = .returned (.int .i64 0) ∧ Below w.heap.size w w') (hl : ∀ W, Below w.heap.size w W → Calls Tryz.prog 40 #[arg, la] W fun e w' => e = .returned (.int .i64 x) ∧ Below W.heap.size W w') :
    Calls Tryz.prog 25 #[arg, la] w fun e w' => e = .returned (.tuple #[.slice none 0 0, .int .i64 x]) ∧ Below w.heap.size w w' := by
  have C := hid hc
  have L := hid hl
  have d : (x != 0) = true := by simpa using hx
  clear hc hx hl
  go_enter Tryz.func25, Tryz.ntmps25
  go_wp2_with fail
  refine C.out.mono ?_
  rintro e w1 ⟨rfl, hb⟩
  have HB := hid hb
  clear hb
  go_wp2_with fail
  refine (L.out w1 HB.out).mono ?_
  rintro e w2 ⟨rfl, hb⟩
  have HB2 := hid (HB.out.trans (hb.mono HB.out.size))
  clear hb
  go_wp2_with fail
  go_ret2
  exact ⟨rfl, HB2.out⟩

set_option maxHeartbeats 1000000 in
theorem lineRef_big (pa la : Option Addr) (n cap k lcap : Nat) (w : World) (hk : 20 < k) (hk' : k ≤ 2000000) :
    Calls Tryz.prog 40 #[.slice pa n cap, .slice la k lcap] w fun e w' => e = .returned (.int .i64 1) ∧ Below w.heap.size w w' := by
  have h20 : (20 : Int) < k := by omega
  go_enter Tryz.func40, Tryz.ntmps40
  go_wp2_with fail
  go_ret
  exact ⟨rfl, Below.refl _ _⟩

/-- What the law asks of a list of triangles, of the points v and the lines vl, in a world that has all. -/
structure Good3 (v vl u : Value) (x : Int) (W : World) : Prop where
  chk : Calls Tryz.prog 52 #[v, vl] W fun e w' => e = .returned (.int .i64 x) ∧ Below W.heap.size W w'
  fil : x = 0 → Calls Tryz.prog 84 #[v, u] W fun e w' => e = .returned (.bool true) ∧ Below W.heap.size W w'
  bnd : x = 0 → Calls Tryz.prog 53 #[v, vl, u] W fun e w' => e = .returned (.bool true) ∧ Below W.heap.size W w'

theorem bound_step (zs zl : List Int) (n k g gl cap lcap : Nat) (v vl : Value) (W : World) (hn : n ≤ 2000000) (hk : k ≤ 2000000) (hcap : n ≤ cap) (hlc : k ≤ lcap) (hp : Pts W g 0 n (zx zs) (zy zs)) (hpl : Pts W gl 0 k (zx zl) (zy zl)) (hs : ∃ p c, v = .slice p n c) (hsl : ∃ p c, vl = .slice p k c) :
    Calls Tryz.prog 25 #[.slice (some ⟨g, 0, none⟩) n cap, .slice (some ⟨gl, 0, none⟩) k lcap] W fun e w' => ∃ u x m xs, e = .returned (.tuple #[u, .int .i64 x]) ∧ Below W.heap.size W w' ∧ w'.ownsRow W.heap.size 46 3 u m xs ∧ m ≤ 1600 ∧ (x ≠ 0 → m = 0) ∧
      ∀ W', Src W' v 2 n zs → Src W' vl 2 k zl → Below w'.heap.size w' W' → Good3 v vl u x W' := by
  by_cases hr : n < 3 ∨ 40 < n
  · refine (bound_err (x := 1) (by omega) ((refusal_count _ n cap W hr (by omega)).mono (by rintro e w' ⟨rfl, rfl⟩; exact ⟨rfl, Below.refl _ _⟩))).mono ?_
    rintro e w' ⟨rfl, hb⟩
    obtain ⟨p, c, rfl⟩ := hs
    exact ⟨_, 1, 0, [], rfl, hb, World.ownsRow_nil _ _ _ _, by simp, fun _ => rfl, fun W' _ _ _ => ⟨refLines_err (by omega) ((check_count p n c W' hr (by omega)).mono (by rintro e w' ⟨rfl, rfl⟩; exact ⟨rfl, Below.refl _ _⟩)), fun h => by omega, fun h => by omega⟩⟩
  · by_cases h0 : refI (zx zs) (zy zs) n = 0
    · have hz : NeZero n := ⟨by omega⟩
      have hbd := refI_bds h0
      have hl := lnz_pts hpl
      by_cases h1 : lineI (zx zs) (zy zs) n (lnz zl k) = 0
      · have LO := lineI_ok h1
        have bl := bound_lines (zx zs) (zy zs) n g 0 cap lcap (some ⟨gl, 0, none⟩) (lnz zl k) W hp (by omega) (by omega) hcap h0 hl (by rw [lnz_len]; exact hlc) h1
        rw [lnz_len] at bl
        refine bl.mono ?_
        rintro e w2 ⟨hb2, g2, cp, d, M, hh, rfl, hg2, hd, hown, hT, hM, hL⟩
        refine ⟨_, 0, d.size, _, rfl, hb2, hown, hd, fun h => by omega, fun W' hS hSl hb => ?_⟩
        obtain ⟨b, o, c, rfl, hP⟩ := hS.pts (by omega)
        obtain ⟨pl, cl, rfl, hLl⟩ := lnz_src hSl
        have ht := (trs_own hown).below hb
        have r1 := refLines_any (zx zs) (zy zs) n b o c cl pl (lnz zl k) W' hP (by omega) (by omega) h0 hLl (by rw [lnz_len]; omega)
        have r2 := refBound_any (zx zs) (zy zs) n b o c cl g2 d.size cp pl (lnz zl k) (dz d) (dA d) (dB d) (dC d) M W' hP ht (by omega) (by omega) hbd (hT.row3 hM.mesh) hLl (by have := LO.1; omega) hT.lists hM.mesh LO.2.1 hL
        rw [lnz_len, h1] at r1
        rw [lnz_len] at r2
        exact ⟨r1, fun _ => fills_msh _ _ n b o c g2 cp d M hh W' hP (by omega) (by omega) h0 ht hd hT hM, fun _ => r2⟩
      · have lr : ∀ W', Below W.heap.size W W' → Calls Tryz.prog 40 #[.slice (some ⟨g, 0, none⟩) n cap, .slice (some ⟨gl, 0, none⟩) k lcap] W' fun e w' => e = .returned (.int .i64 (lineI (zx zs) (zy zs) n (lnz zl k))) ∧ Below W'.heap.size W' w' := fun W' hW => by
          by_cases hbig : 20 < k
          · have e : lineI (zx zs) (zy zs) n (lnz zl k) = 1 := by rw [lineI_eq]; rw [if_pos (by rw [lnz_len]; exact hbig)]
            rw [e]
            exact lineRef_big _ _ n cap k lcap W' hbig hk
          · have := lineRef_any (zx zs) (zy zs) n g 0 cap lcap (some ⟨gl, 0, none⟩) (lnz zl k) W' (hp.below hW hp.lt) (by omega) hbd (hl.below hW) (by rw [lnz_len]; omega) (by rw [lnz_len]; exact hlc)
            rw [lnz_len] at this
            exact this
        have rf := refusal_any (zx zs) (zy zs) n g 0 cap W hp (by omega) (by omega) hcap
        rw [h0] at rf
        refine (bound_err2 h1 rf lr).mono ?_
        rintro e w' ⟨rfl, hb⟩
        refine ⟨_, _, 0, [], rfl, hb, World.ownsRow_nil _ _ _ _, by simp, fun _ => rfl, fun W' hS hSl _ => ?_⟩
        obtain ⟨b, o, c, rfl, hP⟩ := hS.pts (by omega)
        obtain ⟨pl, cl, rfl, hLl⟩ := lnz_src hSl
        have r1 := refLines_any (zx zs) (zy zs) n b o c cl pl (lnz zl k) W' hP (by omega) (by omega) h0 hLl (by rw [lnz_len]; omega)
        rw [lnz_len] at r1
        exact ⟨r1, fun h => absurd h h1, fun h => absurd h h1⟩
    · refine (bound_err h0 (refusal_any (zx zs) (zy zs) n g 0 cap W hp (by omega) (by omega) hcap)).mono ?_
      rintro e w' ⟨rfl, hb⟩
      refine ⟨_, _, 0, [], rfl, hb, World.ownsRow_nil _ _ _ _, by simp, fun _ => rfl, fun W' hS _ _ => ?_⟩
      obtain ⟨b, o, c, rfl, hP⟩ := hS.pts (by omega)
      exact ⟨refLines_err h0 (check_any (zx zs) (zy zs) n b o c W' hP (by omega) (by omega)), fun h => absurd h h0, fun h => absurd h h0⟩

end Go.Proofs.YtdbebbbceeopaaaGreat
