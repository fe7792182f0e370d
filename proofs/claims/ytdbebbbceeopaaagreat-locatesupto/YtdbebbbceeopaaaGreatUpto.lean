import Derived.Test.YtdbebbbceeopaaaGreatPlay
set_option linter.unusedSimpArgs false
namespace Go.Proofs.YtdbebbbceeopaaaGreat
open Go.RowKit

theorem Src.lt {w : World} {a : Addr} {sz n c m : Nat} {zs : List Int} (h : Src w (.slice (some a) n c) sz m zs) (hs : 0 < sz) (hn : 0 < n) : a.block < w.heap.size := by
  obtain ⟨h1, p, c', h2, h3, h4⟩ := h
  cases h2
  have hlen : 0 < zs.length := by rw [h1]; exact Nat.mul_pos hn hs
  have h0 := h4 a rfl 0 zs[0] (List.getElem?_eq_getElem hlen)
  have := World.block_lt_of_cell? w _ h0
  simpa [Addr.add] using this

/-- One step of a script, as it lies in memory. -/
structure OpAt (w : World) (b o : Nat) (kd x y : Int) (v1 v2 v3 : Value) (n1 n2 n3 : Nat) (z1 z2 z3 : List Int) : Prop where
  c0 : w.cell? ⟨b, o, none⟩ = some (.int .i64 kd)
  c1 : w.cell? ⟨b, o + 1, none⟩ = some v1
  c2 : w.cell? ⟨b, o + 2, none⟩ = some v2
  c3 : w.cell? ⟨b, o + 3, none⟩ = some v3
  c4 : w.cell? ⟨b, o + 4, none⟩ = some (.int .i64 x)
  c5 : w.cell? ⟨b, o + 5, none⟩ = some (.int .i64 y)
  h1 : n1 ≤ 2000000
  h2 : n2 ≤ 2000000
  h3 : n3 ≤ 2000000
  s1 : Src w v1 2 n1 z1
  s2 : Src w v2 2 n2 z2
  s3 : Src w v3 3 n3 z3

/-- A script. -/
def Ops (w : World) (p : Option Addr) (n : Nat) : Prop :=
  n ≤ 2000000 ∧ ∀ i, i < n → ∃ b o kd x y v1 v2 v3 n1 n2 n3 z1 z2 z3, p = some ⟨b, o, none⟩ ∧ OpAt w b (o + i * 6) kd x y v1 v2 v3 n1 n2 n3 z1 z2 z3

theorem kp_below {w w' : World} {S B bk : Nat} {vi : Value} {es : List (List Value)} (hB : Bk w B S bk vi es) (h : Kp w w' S bk vi) : Below B w w' := by
  have h1 := hB.bB
  have h2 := hB.bS
  refine ⟨h.os, h.tape, h.output, h.size, fun k hk => h.block k (by omega) (by omega) (fun e => ?_)⟩
  rcases hB.own.2 with ⟨h0, _⟩ | ⟨g, cap, cur, h0, hb, _⟩
  · rw [h0] at e; cases e
  · rw [h0] at e; simp [Value.ownBlock] at e; omega

theorem bk_ge {w : World} {S B bk : Nat} {vi : Value} {es : List (List Value)} (hB : Bk w B S bk vi es) {k : Nat} (hk : k < B) : k ≠ bk ∧ vi.ownBlock ≠ some k := by
  have h1 := hB.bB
  refine ⟨by omega, fun e => ?_⟩
  rcases hB.own.2 with ⟨h0, _⟩ | ⟨g, cap, cur, h0, hb, _⟩
  · rw [h0] at e; cases e
  · rw [h0] at e; simp [Value.ownBlock] at e; omega

/-- The document's example: three corners. -/
theorem src_corners {w : World} {g : Nat} (h : ∀ j, w.cell? ⟨g, j, none⟩ = #[Value.int .i64 0, .int .i64 0, .int .i64 0, .int .i64 4, .int .i64 4, .int .i64 0][j]?) : Src w (.slice (some ⟨g, 0, none⟩) 3 3) 2 3 [0, 0, 0, 4, 4, 0] := by
  refine ⟨rfl, _, _, rfl, (fun e => by cases e), ?_⟩
  rintro a ha j z hj
  cases ha
  have e : (⟨g, 0, none⟩ : Addr).add j = ⟨g, j, none⟩ := by unfold Addr.add; split <;> simp_all
  rw [e, h j]
  have hl : j < 6 := by
    rcases Nat.lt_or_ge j 6 with h | h
    · exact h
    · rw [List.getElem?_eq_none (by simpa using h)] at hj; cases hj
  rcases (by omega : j = 0 ∨ j = 1 ∨ j = 2 ∨ j = 3 ∨ j = 4 ∨ j = 5) with rfl | rfl | rfl | rfl | rfl | rfl <;> (simp at hj; subst hj; rfl)

theorem src_one {w : World} {g : Nat} (h : ∀ j, w.cell? ⟨g, j, none⟩ = #[Value.int .i64 0, .int .i64 2, .int .i64 1][j]?) : Src w (.slice (some ⟨g, 0, none⟩) 1 1) 3 1 [0, 2, 1] := by
  refine ⟨rfl, _, _, rfl, (fun e => by cases e), ?_⟩
  rintro a ha j z hj
  cases ha
  have e : (⟨g, 0, none⟩ : Addr).add j = ⟨g, j, none⟩ := by unfold Addr.add; split <;> simp_all
  rw [e, h j]
  have hl : j < 3 := by
    rcases Nat.lt_or_ge j 3 with h | h
    · exact h
    · rw [List.getElem?_eq_none (by simpa using h)] at hj; cases hj
  rcases (by omega : j = 0 ∨ j = 1 ∨ j = 2) with rfl | rfl | rfl <;> (simp at hj; subst hj; rfl)

theorem src_nil (w : World) (sz : Nat) : Src w (.slice none 0 0) sz 0 [] := ⟨by simp, none, 0, rfl, fun _ => rfl, fun a h => by cases h⟩

set_option maxRecDepth 100000 in
set_option maxHeartbeats 4000000 in
theorem upTo1 (w : World) (p : Option Addr) (n c : Nat) (hops : Ops w p n) :
    Calls Tryz.prog 13 #[.slice p n c, .int .i64 1, .int .i64 1] w fun e w' => e = .returned (.bool true) ∧ Below w.heap.size w w' := by
  have hn := hops.1
  have HOP := hid hops.2
  clear hops
  go_enter Tryz.func13, Tryz.ntmps13
  go_wp2_with fail
  obtain ⟨B, hB⟩ : ∃ B, B = w.heap.size := ⟨_, rfl⟩
  obtain ⟨W, hW⟩ : ∃ W : World, W = w.alloc (.cells #[.slice none 0 0, .slice none 0 0] 59) := ⟨_, rfl⟩
  rw [← hW]
  have bk0 : Bk W B W.heap.size B (.slice none 0 0) [] := by
    have hh : W.heap[B]? = some (.cells #[.slice none 0 0, .slice none 0 0] 59 (0, 0)) := by rw [hW, hB]; exact heap_new _ _
    exact ⟨Nat.le_refl _, heap_lt hh, Nat.le_refl _, heap_cell hh 0, heap_free hh 0, heap_cell hh 1, World.ownsRow_nil _ _ _ _, (fun g hg => by cases hg), fun i e he => by simp at he⟩
  have bel0 : Below B w W := by rw [hW, hB]; exact (Below.refl _ _).alloc (Nat.le_refl _) _
  have HB := hid hB
  rw [← hB]
  have BK0 := hid bk0
  have BEL0 := hid bel0
  clear hB hW bk0 bel0
  go_loopw [8] (fun i wr => ∃ (m : Nat) (vi : Value) (es : List (List Value)), m ≤ 1 ∧ i = .int .i64 (1 + (m : Int)) ∧ es.length = m ∧ Hid (Bk wr B wr.heap.size B vi es) ∧ Hid (Below B w wr)) (fun i _ => 2 - (intOf i).toNat)
  case atStart => exact ⟨0, _, [], Nat.zero_le _, rfl, rfl, BK0, BEL0⟩
  case round =>
    obtain ⟨m, vi, es, hm, rfl, hes, hK, hW⟩ := hrel
    rcases (by omega : m = 0 ∨ m = 1) with rfl | rfl
    · go_wp2_with fail
      refine (corners_law wr).mono ?_
      rintro e W2 ⟨bel2, siz2, rfl, ce1, ce2⟩
      have bk2 : Bk W2 B W2.heap.size B vi es := hK.out.below bel2 bel2.size (Nat.le_refl _)
      go_wp2_with fail
      have hbk := hK.out.bS
      refine (plays1 W2 B B vi es 1 1 _ _ _ 3 0 1 [0, 0, 0, 4, 4, 0] [] [0, 2, 1] (by omega) (by omega) (by omega) bk2 (by omega) (src_corners ce1) (src_nil _ _) (src_one ce2) ?hq).mono ?_
      case hq =>
        intro v hv a n c e hn
        simp at hv
        rcases hv with rfl | rfl | rfl
        · cases e
          exact ⟨by show wr.heap.size + 1 < _; omega, by show wr.heap.size + 1 ≠ _; omega, fun e => by have := (hK.out.vS _ e).1; simp at this; omega⟩
        · cases e
        · cases e
          exact ⟨by show wr.heap.size + 2 < _; omega, by show wr.heap.size + 2 ≠ _; omega, fun e => by have := (hK.out.vS _ e).1; simp at this; omega⟩
      rintro e W3 ⟨rfl, vi', e', bk3, kp3⟩
      have hB3 : Below B w W3 := hW.out.trans ((bel2.mono (Nat.le_of_lt hbk)).trans (kp_below bk2 kp3))
      have BK3 := hid bk3
      have BEL3 := hid hB3
      clear bk2 bk3 kp3 hB3 ce1 ce2 bel2 siz2 hbk
      go_wp2_with fail
      exact ⟨⟨1, vi', es ++ [e'], Nat.le_refl _, rfl, by simp [hes], BK3, BEL3⟩, by simp [intOf]⟩
    · rw [show (1 + ((1 : Nat) : Int)) = 2 from rfl]
      go_wp2_with fail
      obtain ⟨W2, rfl⟩ : ∃ W2, W2 = wr := ⟨wr, rfl⟩
      go_loopw [10] (fun i wr => ∃ (k : Nat) (vi : Value) (es : List (List Value)), k ≤ n ∧ i = .int .i64 k ∧ es.length ≤ k + 1 ∧ Hid (Bk wr B wr.heap.size B vi es) ∧ Hid (Below B w wr)) (fun i _ => n - (intOf i).toNat)
      case atStart => exact ⟨0, vi, es, Nat.zero_le _, rfl, by omega, hK, hW⟩
      case round =>
        clear hK hW hes
        obtain ⟨k, vi, es, hk, rfl, hes, hK, hW⟩ := hrel
        by_cases hlt : k < n
        · obtain ⟨b, o, kd, x, y, v1, v2, v3, n1, n2, n3, z1, z2, z3, rfl, hO⟩ := HOP.out k hlt
          have HO := hid hO
          have hbB : b < B := by rw [HB.out]; exact World.block_lt_of_cell? w _ hO.c0
          have d0 : wr.cell? ⟨b, o + k * 6, none⟩ = some (.int .i64 kd) := (hW.out.cell hbB).trans hO.c0
          have d1 : wr.cell? ⟨b, o + k * 6 + 1, none⟩ = some v1 := (hW.out.cell hbB).trans hO.c1
          have d2 : wr.cell? ⟨b, o + k * 6 + 2, none⟩ = some v2 := (hW.out.cell hbB).trans hO.c2
          have d3 : wr.cell? ⟨b, o + k * 6 + 3, none⟩ = some v3 := (hW.out.cell hbB).trans hO.c3
          have d4 : wr.cell? ⟨b, o + k * 6 + 4, none⟩ = some (.int .i64 x) := (hW.out.cell hbB).trans hO.c4
          have d5 : wr.cell? ⟨b, o + k * 6 + 5, none⟩ = some (.int .i64 y) := (hW.out.cell hbB).trans hO.c5
          obtain ⟨p1, c1, rfl⟩ : ∃ p c, v1 = .slice p n1 c := by obtain ⟨_, p, c, e, _⟩ := hO.s1; exact ⟨p, c, e⟩
          obtain ⟨p2, c2, rfl⟩ : ∃ p c, v2 = .slice p n2 c := by obtain ⟨_, p, c, e, _⟩ := hO.s2; exact ⟨p, c, e⟩
          obtain ⟨p3, c3, rfl⟩ : ∃ p c, v3 = .slice p n3 c := by obtain ⟨_, p, c, e, _⟩ := hO.s3; exact ⟨p, c, e⟩
          have i0 : (k : Int) < n := by omega
          have BEL1 : Hid (Below B w (wr.alloc (.cells #[.int .i64 kd, .slice p1 n1 c1, .slice p2 n2 c2, .slice p3 n3 c3, .int .i64 x, .int .i64 y] 62))) := hid (hW.out.alloc (by have := hK.out.bS; omega) _)
          have BK1 : Hid (Bk (wr.alloc (.cells #[.int .i64 kd, .slice p1 n1 c1, .slice p2 n2 c2, .slice p3 n3 c3, .int .i64 x, .int .i64 y] 62)) B (wr.alloc (.cells #[.int .i64 kd, .slice p1 n1 c1, .slice p2 n2 c2, .slice p3 n3 c3, .int .i64 x, .int .i64 y] 62)).heap.size B vi es) :=
            hid (hK.out.below ((Below.refl _ _).alloc (Nat.le_refl _) _) (by rw [size_new]; omega) (Nat.le_refl _))
          clear hO
          rcases (by omega : kd = 1 ∨ kd < 1 ∨ 1 < kd) with rfl | hkd | hkd
          · go_wp2_with fail
            obtain ⟨W3, hW3⟩ : ∃ W3 : World, W3 = wr.alloc (.cells #[.int .i64 1, .slice p1 n1 c1, .slice p2 n2 c2, .slice p3 n3 c3, .int .i64 x, .int .i64 y] 62) := ⟨_, rfl⟩
            rw [← hW3] at BEL1 BK1 ⊢
            clear hW3 d0 d1 d2 d3 d4 d5
            have BW : Hid (Below w.heap.size w W3) := by rw [HB.out] at BEL1; exact BEL1
            refine (plays1 W3 B B vi es x y (.slice p1 n1 c1) (.slice p2 n2 c2) (.slice p3 n3 c3) n1 n2 n3 z1 z2 z3 HO.out.h1 HO.out.h2 HO.out.h3 BK1.out (by omega) (HO.out.s1.below BW.out) (HO.out.s2.below BW.out) (HO.out.s3.below BW.out) ?hq).mono ?_
            case hq =>
              intro v hv a n c e hn
              have hlt : a.block < w.heap.size := by
                simp at hv
                rcases hv with rfl | rfl | rfl
                · rw [e] at HO; exact HO.out.s1.lt (by omega) hn
                · rw [e] at HO; exact HO.out.s2.lt (by omega) hn
                · rw [e] at HO; exact HO.out.s3.lt (by omega) hn
              have := bk_ge BK1.out (k := a.block) (by rw [HB.out]; exact hlt)
              exact ⟨Nat.lt_of_lt_of_le hlt BW.out.size, this⟩
            rintro e W4 ⟨rfl, vi', e', bk4, kp4⟩
            have BK4 := hid bk4
            have BEL4 := hid (BEL1.out.trans (kp_below BK1.out kp4))
            clear bk4 kp4
            go_wp2_with fail
            refine (looks_any W4 B W4.heap.size B vi' (es ++ [e']) BK4.out (by simp; omega)).mono ?_
            rintro e W5 ⟨rfl, bel5⟩
            have BK5 := hid (BK4.out.below bel5 bel5.size (Nat.le_refl _))
            have BEL5 := hid (BEL4.out.trans (bel5.mono (Nat.le_of_lt BK4.out.bS)))
            clear bel5
            go_wp2_with fail
            exact ⟨⟨k + 1, vi', es ++ [e'], by omega, by go_num, by simp; omega, BK5, BEL5⟩, by simp [intOf]; omega⟩
          · have j1 : ¬ (1 : Int) ≤ kd := by omega
            go_wp2_with fail
            exact ⟨⟨k + 1, vi, es, by omega, by go_num, by omega, BK1, BEL1⟩, by simp [intOf]; omega⟩
          · have j1 : (1 : Int) ≤ kd := by omega
            have j2 : ¬ kd ≤ 1 := by omega
            go_wp2_with fail
            exact ⟨⟨k + 1, vi, es, by omega, by go_num, by omega, BK1, BEL1⟩, by simp [intOf]; omega⟩
        · have hkn : k = n := by omega
          subst hkn
          go_wp2_with fail
          go_ret
          exact ⟨rfl, by rw [← HB.out]; exact hW.out⟩

set_option maxRecDepth 100000 in
theorem hulls_any (w : World) (p : Option Addr) (n c : Nat) (hops : Ops w p n) :
    Calls Tryz.prog 3 #[.slice p n c] w fun e w' => e = .returned (.bool true) ∧ Below w.heap.size w w' := by
  have H := hid (upTo1 w p n c hops)
  clear hops
  go_enter Tryz.func3, Tryz.ntmps3
  go_wp2_with fail
  refine H.out.mono ?_
  rintro e w' ⟨rfl, hb⟩
  go_wp2_with fail
  go_ret
  exact ⟨rfl, hb⟩
end Go.Proofs.YtdbebbbceeopaaaGreat
