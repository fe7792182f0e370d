import Derived.Test.YtdbebbbceeopaaaGreatH32
import Derived.Test.YtdbebbbceeopaaaGreatH29
import Derived.Test.YtdbebbbceeopaaaGreatH22
set_option linter.unusedSimpArgs false
namespace Go.Proofs.YtdbebbbceeopaaaGreat
open Go.RowKit

/-- The whole book: the lists of numbers and those of triangles. -/
structure Bb (w : World) (B S bk : Nat) (vi : Value) (es : List (List Value)) (vt : Value) (ts : List (List Value)) : Prop where
  k : Bk w B S bk vi es vt
  t : Bt w B S bk vt ts vi
  d : ∀ g, vi.ownBlock = some g → vt.ownBlock ≠ some g
  de : ∀ e ∈ es, ∀ x ∈ e, ∀ g, x.ownBlock = some g → vt.ownBlock ≠ some g
  dt : ∀ e ∈ ts, ∀ x ∈ e, ∀ g, x.ownBlock = some g → vi.ownBlock ≠ some g

theorem Bb.below {w w' : World} {B S S' bk : Nat} {vi vt : Value} {es ts : List (List Value)} (h : Bb w B S bk vi es vt ts) (hb : Below S w w') (hS : S ≤ S') (hw : S' ≤ w'.heap.size) : Bb w' B S' bk vi es vt ts :=
  ⟨h.k.below hb hS hw, h.t.below hb hS hw, h.d, h.de, h.dt⟩

theorem Bb.ints {w w' : World} {B bk : Nat} {vi vi' vt : Value} {es ts : List (List Value)} {e' : List Value} (h : Bb w B w.heap.size bk vi es vt ts) (hk : Bk w' B w'.heap.size bk vi' (es ++ [e']) vt) (kp : Kp w w' w.heap.size bk vi) (ap : Ap w.heap.size vi vi' e') : Bb w' B w'.heap.size bk vi' (es ++ [e']) vt ts := by
  have hv : ∀ g, vt.ownBlock = some g → g < w.heap.size ∧ w'.heap[g]? = w.heap[g]? := fun g hg => ⟨(h.t.vS g hg).1, kp.block g (h.t.vS g hg).1 (h.t.vS g hg).2 fun e => h.d g e hg⟩
  have ht : ∀ e ∈ ts, ∀ x ∈ e, ∀ g, x.ownBlock = some g → g < w.heap.size ∧ w'.heap[g]? = w.heap[g]? := fun e he x hx g hg => ⟨(entT_lt h.t he hx hg).1, kp.block g (entT_lt h.t he hx hg).1 (entT_lt h.t he hx hg).2 (h.dt e he x hx g hg)⟩
  refine ⟨hk, ⟨hk.bB, hk.bS, hk.Sw, hk.c1, hk.f0, hk.c0, owns_kept h.t.own fun g hg => (hv g hg).2, fun g hg => ⟨Nat.lt_of_lt_of_le (hv g hg).1 kp.size, (h.t.vS g hg).2⟩, fun i e hi => ?_⟩, fun g hg hg' => ?_, fun e he x hx g hg hg' => ?_, fun e he x hx g hg hg' => ?_⟩
  · obtain ⟨l, a, b, c, rfl, hx⟩ := h.t.ent i e hi
    refine ⟨l, a, b, c, rfl, fun x hx' => ?_⟩
    obtain ⟨h1, h2⟩ := hx x hx'
    have hm : x ∈ [l, a, b, c, .int .i64 (-1000 - (i : Int))] := by simp at hx' ⊢; rcases hx' with h | h | h | h <;> simp [h]
    refine ⟨h1.kept kp.size fun g hg => (ht _ (List.mem_of_getElem? hi) x hm g hg).2, fun g hg => ?_⟩
    have := h2 g hg
    exact ⟨Nat.lt_of_lt_of_le this.1 kp.size, this.2⟩
  · rcases ap.list g hg with e | e
    · exact h.d g e hg'
    · have := (hv g hg').1; omega
  · rcases List.mem_append.1 he with e1 | e1
    · exact h.de e e1 x hx g hg hg'
    · simp at e1
      subst e1
      have := ap.ent x hx g hg
      have := (hv g hg').1
      omega
  · rcases ap.list g hg' with e1 | e1
    · exact h.dt e he x hx g hg e1
    · have := (ht e he x hx g hg).1; omega

theorem Bb.threes {w w' : World} {B bk : Nat} {vi vt vt' : Value} {es ts : List (List Value)} {e' : List Value} (h : Bb w B w.heap.size bk vi es vt ts) (hk : Bt w' B w'.heap.size bk vt' (ts ++ [e']) vi) (kp : Kp w w' w.heap.size bk vt) (ap : Ap w.heap.size vt vt' e') : Bb w' B w'.heap.size bk vi es vt' (ts ++ [e']) := by
  have hv : ∀ g, vi.ownBlock = some g → g < w.heap.size ∧ w'.heap[g]? = w.heap[g]? := fun g hg => ⟨(h.k.vS g hg).1, kp.block g (h.k.vS g hg).1 (h.k.vS g hg).2 (h.d g hg)⟩
  have ht : ∀ e ∈ es, ∀ x ∈ e, ∀ g, x.ownBlock = some g → g < w.heap.size ∧ w'.heap[g]? = w.heap[g]? := fun e he x hx g hg => ⟨(ent_lt h.k he hx hg).1, kp.block g (ent_lt h.k he hx hg).1 (ent_lt h.k he hx hg).2 (h.de e he x hx g hg)⟩
  refine ⟨⟨hk.bB, hk.bS, hk.Sw, hk.c0, hk.f1, hk.c1, owns_kept h.k.own fun g hg => (hv g hg).2, fun g hg => ⟨Nat.lt_of_lt_of_le (hv g hg).1 kp.size, (h.k.vS g hg).2⟩, fun i e hi => ?_⟩, hk, fun g hg hg' => ?_, fun e he x hx g hg hg' => ?_, fun e he x hx g hg hg' => ?_⟩
  · obtain ⟨l, a, b, c, rfl, hx⟩ := h.k.ent i e hi
    refine ⟨l, a, b, c, rfl, fun x hx' => ?_⟩
    obtain ⟨h1, h2⟩ := hx x hx'
    have hm : x ∈ [l, a, b, c, .int .i64 (-1000 - (i : Int))] := by simp at hx' ⊢; rcases hx' with h | h | h | h <;> simp [h]
    refine ⟨h1.kept kp.size fun g hg => (ht _ (List.mem_of_getElem? hi) x hm g hg).2, fun g hg => ?_⟩
    have := h2 g hg
    exact ⟨Nat.lt_of_lt_of_le this.1 kp.size, this.2⟩
  · rcases ap.list g hg' with e | e
    · exact h.d g hg e
    · have := (hv g hg).1; omega
  · rcases ap.list g hg' with e1 | e1
    · exact h.de e he x hx g hg e1
    · have := (ht e he x hx g hg).1; omega
  · rcases List.mem_append.1 he with e1 | e1
    · exact h.dt e e1 x hx g hg hg'
    · simp at e1
      subst e1
      have := ap.ent x hx g hg
      have := (hv g hg').1
      omega

set_option maxRecDepth 100000 in
set_option maxHeartbeats 2000000 in
theorem looksB_any (w : World) (B S bk : Nat) (vi vt : Value) (es ts : List (List Value)) (hBB : Bb w B S bk vi es vt ts) (he : es.length ≤ 1466015504000) (ht : ts.length ≤ 1466015504000) :
    Calls Tryz.prog 31 #[.pointer (some ⟨bk, 0, none⟩)] w fun e w' => e = .returned (.bool true) ∧ Below w.heap.size w w' := by
  have hB := hBB.k
  obtain ⟨a1, c1, hvi⟩ := owns_len68 hB.own
  obtain ⟨a2, c2, hvt⟩ := owns_len89 hBB.t.own
  have HBT := hid hBB.t
  have HVT := hid hvt
  have HBK := hid hB
  have hbk : bk < w.heap.size := Nat.lt_of_lt_of_le hB.bS hB.Sw
  have HC0 : Hid (w.cell? ⟨bk, 0, none⟩ = some (.slice a1 es.length c1)) := by rw [← hvi]; exact hB.c0
  have HC1 : Hid (w.cell? ⟨bk, 1, none⟩ = some (.slice a2 ts.length c2)) := by rw [← hvt]; exact hB.c1
  have HVI := hid hvi
  clear hB hvi hBB hvt
  obtain ⟨N, hN⟩ : ∃ N, N = es.length := ⟨_, rfl⟩
  have HN := hid hN
  rw [← hN] at HC0 he
  clear hN
  obtain ⟨M, hM⟩ : ∃ M, M = ts.length := ⟨_, rfl⟩
  have HM := hid hM
  rw [← hM] at HC1 ht
  clear hM
  go_enter Tryz.func31, Tryz.ntmps31
  go_wp2
  go_loopw [3] (fun i wr => ∃ k : Nat, k ≤ N ∧ i = .int .i64 k ∧ Below w.heap.size w wr) (fun i _ => N - (intOf i).toNat)
  case atStart => exact ⟨0, Nat.zero_le _, rfl, Below.refl _ _⟩
  case round =>
    obtain ⟨k, hk, rfl, hb⟩ := hrel
    have cb := (hb.cell (p := ⟨bk, 0, none⟩) hbk).trans HC0.out
    have cb1 := (hb.cell (p := ⟨bk, 1, none⟩) hbk).trans HC1.out
    by_cases hkN : k < N
    · obtain ⟨e, hek⟩ : ∃ e, es[k]? = some e := ⟨_, List.getElem?_eq_getElem (by rw [← HN.out]; exact hkN)⟩
      obtain ⟨l, a, b, c, rfl, hx⟩ := HBK.out.ent k e hek
      have h5 : ∀ (i : Nat) (e : List Value), es[i]? = some e → e.length = 5 := by
        intro i e h
        obtain ⟨_, _, _, _, rfl, _⟩ := HBK.out.ent i e h
        rfl
      have hfl := flat_get es h5 k _ hek
      have hown := HBK.out.own
      rcases hown.2 with ⟨_, h0⟩ | ⟨gi, cap, cur, hv, _, hh, _⟩
      · have := HN.out; omega
      · have hvv : (Value.slice a1 es.length c1) = .slice (some ⟨gi, 0, none⟩) es.length cap := by rw [← HVI.out]; exact hv
        simp only [Value.slice.injEq, true_and] at hvv
        obtain ⟨rfl, rfl⟩ := hvv
        rw [hv] at hown
        have hgi := (Array.getElem?_eq_some_iff.1 hh).1
        have ec : ∀ j, j < 5 → wr.cell? ⟨gi, k * 5 + j, none⟩ = [l, a, b, c, .int .i64 (-1000 - (k : Int))][j]? := by
          intro j hj
          rw [hb.cell (by exact hgi), hown.cellAt (k * 5 + j) (by rw [← HN.out]; omega), hfl j hj]
        have e0 : wr.cell? ⟨gi, k * 5, none⟩ = some l := ec 0 (by omega)
        have e1 : wr.cell? ⟨gi, k * 5 + 1, none⟩ = some a := ec 1 (by omega)
        have e2 : wr.cell? ⟨gi, k * 5 + 2, none⟩ = some b := ec 2 (by omega)
        have e3 : wr.cell? ⟨gi, k * 5 + 3, none⟩ = some c := ec 3 (by omega)
        have e4 : wr.cell? ⟨gi, k * 5 + 4, none⟩ = some (.int .i64 (-1000 - (k : Int))) := ec 4 (by omega)
        have fl := (hx l (by simp)).1
        have fa := (hx a (by simp)).1
        have fb := (hx b (by simp)).1
        have fc := (hx c (by simp)).1
        obtain ⟨p1, n1, q1, rfl⟩ := fl.shape
        obtain ⟨p2, n2, q2, rfl⟩ := fa.shape
        obtain ⟨p3, n3, q3, rfl⟩ := fb.shape
        obtain ⟨p4, n4, q4, rfl⟩ := fc.shape
        have F := hid (fun (W : World) (hW : Below w.heap.size w W) => And.intro (fullInts_any _ _ W (fl.below hW)) (And.intro (fullInts_any _ _ W (fa.below hW)) (And.intro (fullInts_any _ _ W (fb.below hW)) (fullInts_any _ _ W (fc.below hW)))))
        generalize -1000 - (k : Int) = m at *
        have HB := hid hb
        have hk' : (k : Int) < N := by omega
        clear hfl hown hh ec fl fa fb fc hx hek h5 hv hb
        have G := hid (F.out (wr.alloc (.cells #[.slice p1 n1 q1, .slice p2 n2 q2, .slice p3 n3 q3, .slice p4 n4 q4, .int .i64 m] 87)) (HB.out.alloc HB.out.size _))
        go_wp2_with fail
        refine (G.out.1).mono ?_
        rintro e w' ⟨rfl, rfl⟩
        go_wp2_with fail
        refine (G.out.2.1).mono ?_
        rintro e w' ⟨rfl, rfl⟩
        go_wp2_with fail
        refine (G.out.2.2.1).mono ?_
        rintro e w' ⟨rfl, rfl⟩
        go_wp2_with fail
        refine (G.out.2.2.2).mono ?_
        rintro e w' ⟨rfl, rfl⟩
        go_wp2_with fail
        go_roundw
        case rel => exact ⟨k + 1, by omega, by go_num, HB.out.alloc HB.out.size _⟩
        case measure => simp [intOf]; omega
    · have : k = N := by omega
      subst this
      have HB := hid hb
      have i0 : ¬ (k : Int) < k := by omega
      clear hb
      go_wp2_with fail
      obtain ⟨W2, rfl⟩ : ∃ W2, W2 = wr := ⟨wr, rfl⟩
      go_loopw [5] (fun i wr => ∃ k : Nat, k ≤ M ∧ i = .int .i64 k ∧ Below w.heap.size w wr) (fun i _ => M - (intOf i).toNat)
      case atStart => exact ⟨0, Nat.zero_le _, rfl, HB.out⟩
      case round =>
        clear HB
        obtain ⟨k, hk, rfl, hb⟩ := hrel
        have cb := (hb.cell (p := ⟨bk, 1, none⟩) hbk).trans HC1.out
        by_cases hkM : k < M
        · obtain ⟨e, hek⟩ : ∃ e, ts[k]? = some e := ⟨_, List.getElem?_eq_getElem (by rw [← HM.out]; exact hkM)⟩
          obtain ⟨l, a, b, c, rfl, hx⟩ := HBT.out.ent k e hek
          have h5 : ∀ (i : Nat) (e : List Value), ts[i]? = some e → e.length = 5 := by
            intro i e h
            obtain ⟨_, _, _, _, rfl, _⟩ := HBT.out.ent i e h
            rfl
          have hfl := flat_get ts h5 k _ hek
          have hown := HBT.out.own
          rcases hown.2 with ⟨_, h0⟩ | ⟨gi, cap, cur, hv, _, hh, _⟩
          · have := HM.out; omega
          · have hvv : (Value.slice a2 ts.length c2) = .slice (some ⟨gi, 0, none⟩) ts.length cap := by rw [← HVT.out]; exact hv
            simp only [Value.slice.injEq, true_and] at hvv
            obtain ⟨rfl, rfl⟩ := hvv
            rw [hv] at hown
            have hgi := (Array.getElem?_eq_some_iff.1 hh).1
            have ec : ∀ j, j < 5 → wr.cell? ⟨gi, k * 5 + j, none⟩ = [l, a, b, c, .int .i64 (-1000 - (k : Int))][j]? := by
              intro j hj
              rw [hb.cell (by exact hgi), hown.cellAt (k * 5 + j) (by rw [← HM.out]; omega), hfl j hj]
            have e0 : wr.cell? ⟨gi, k * 5, none⟩ = some l := ec 0 (by omega)
            have e1 : wr.cell? ⟨gi, k * 5 + 1, none⟩ = some a := ec 1 (by omega)
            have e2 : wr.cell? ⟨gi, k * 5 + 2, none⟩ = some b := ec 2 (by omega)
            have e3 : wr.cell? ⟨gi, k * 5 + 3, none⟩ = some c := ec 3 (by omega)
            have e4 : wr.cell? ⟨gi, k * 5 + 4, none⟩ = some (.int .i64 (-1000 - (k : Int))) := ec 4 (by omega)
            have fl := (hx l (by simp)).1
            have fa := (hx a (by simp)).1
            have fb := (hx b (by simp)).1
            have fc := (hx c (by simp)).1
            obtain ⟨p1, n1, q1, rfl⟩ := fl.shape
            obtain ⟨p2, n2, q2, rfl⟩ := fa.shape
            obtain ⟨p3, n3, q3, rfl⟩ := fb.shape
            obtain ⟨p4, n4, q4, rfl⟩ := fc.shape
            have F := hid (fun (W : World) (hW : Below w.heap.size w W) => And.intro (fullThrees_any _ _ W (fl.below hW)) (And.intro (fullThrees_any _ _ W (fa.below hW)) (And.intro (fullThrees_any _ _ W (fb.below hW)) (fullThrees_any _ _ W (fc.below hW)))))
            generalize -1000 - (k : Int) = m at *
            have HB := hid hb
            have hk' : (k : Int) < M := by omega
            clear hfl hown hh ec fl fa fb fc hx hek h5 hv hb
            have G := hid (F.out (wr.alloc (.cells #[.slice p1 n1 q1, .slice p2 n2 q2, .slice p3 n3 q3, .slice p4 n4 q4, .int .i64 m] 89)) (HB.out.alloc HB.out.size _))
            go_wp2_with fail
            refine (G.out.1).mono ?_
            rintro e w' ⟨rfl, rfl⟩
            go_wp2_with fail
            refine (G.out.2.1).mono ?_
            rintro e w' ⟨rfl, rfl⟩
            go_wp2_with fail
            refine (G.out.2.2.1).mono ?_
            rintro e w' ⟨rfl, rfl⟩
            go_wp2_with fail
            refine (G.out.2.2.2).mono ?_
            rintro e w' ⟨rfl, rfl⟩
            go_wp2_with fail
            go_roundw
            case rel => exact ⟨k + 1, by omega, by go_num, HB.out.alloc HB.out.size _⟩
            case measure => simp [intOf]; omega
        · have : k = M := by omega
          subst this
          have HB := hid hb
          clear hb
          go_wp2
          go_ret
          exact ⟨rfl, HB.out⟩
end Go.Proofs.YtdbebbbceeopaaaGreat

set_option linter.unusedSimpArgs false
namespace Go.Proofs.YtdbebbbceeopaaaGreat
open Go.RowKit

set_option maxRecDepth 100000 in
set_option maxHeartbeats 8000000 in
theorem upToAll (w : World) (p : Option Addr) (n c : Nat) (hops : Ops w p n) :
    Calls Tryz.prog 13 #[.slice p n c, .int .i64 1, .int .i64 4] w fun e w' => e = .returned (.bool true) ∧ Below w.heap.size w w' := by
  have hn := hops.1
  have HOP := hid hops.2
  clear hops
  go_enter Tryz.func13, Tryz.ntmps13
  go_wp2_with fail
  obtain ⟨B, hB⟩ : ∃ B, B = w.heap.size := ⟨_, rfl⟩
  obtain ⟨W, hW⟩ : ∃ W : World, W = w.alloc (.cells #[.slice none 0 0, .slice none 0 0] 59) := ⟨_, rfl⟩
  rw [← hW]
  have bk0 : Bb W B W.heap.size B (.slice none 0 0) [] (.slice none 0 0) [] := by
    have hh : W.heap[B]? = some (.cells #[.slice none 0 0, .slice none 0 0] 59 (0, 0)) := by rw [hW, hB]; exact heap_new _ _
    exact ⟨⟨Nat.le_refl _, heap_lt hh, Nat.le_refl _, heap_cell hh 0, fun o => heap_free hh o, heap_cell hh 1, World.ownsRow_nil _ _ _ _, (fun g hg => by cases hg), fun i e he => by simp at he⟩,
      ⟨Nat.le_refl _, heap_lt hh, Nat.le_refl _, heap_cell hh 1, fun o => heap_free hh o, heap_cell hh 0, World.ownsRow_nil _ _ _ _, (fun g hg => by cases hg), fun i e he => by simp at he⟩,
      (fun g hg => by cases hg), (fun e he => by cases he), (fun e he => by cases he)⟩
  have bel0 : Below B w W := by rw [hW, hB]; exact (Below.refl _ _).alloc (Nat.le_refl _) _
  have HB := hid hB
  rw [← hB]
  have BK0 := hid bk0
  have BEL0 := hid bel0
  clear hB hW bk0 bel0
  go_loopw [8] (fun i wr => ∃ (m : Nat) (vi : Value) (es : List (List Value)) (vt : Value) (ts : List (List Value)), m ≤ 4 ∧ i = .int .i64 (1 + (m : Int)) ∧ es.length ≤ m ∧ ts.length ≤ m ∧ Hid (Bb wr B wr.heap.size B vi es vt ts) ∧ Hid (Below B w wr)) (fun i _ => 5 - (intOf i).toNat)
  case atStart => exact ⟨0, _, [], _, [], Nat.zero_le _, rfl, Nat.le_refl _, Nat.le_refl _, BK0, BEL0⟩
  case round =>
    obtain ⟨m, vi, es, vt, ts, hm, rfl, hes, hts, hK, hW⟩ := hrel
    rcases (by omega : m = 0 ∨ m = 1 ∨ m = 2 ∨ m = 3 ∨ m = 4) with rfl | rfl | rfl | rfl | rfl
    · rw [show (1 + ((0 : Nat) : Int)) = 1 from rfl]
      go_wp2_with fail
      refine (corners_kd 1 wr).mono ?_
      rintro e W2 ⟨bel2, siz2, rfl, ce1, ce2⟩
      have bk2 : Bb W2 B W2.heap.size B vi es vt ts := hK.out.below bel2 bel2.size (Nat.le_refl _)
      go_wp2_with fail
      have hbk := hK.out.k.bS
      refine (plays1 W2 B B vi es 1 1 _ _ _ 3 0 1 [0, 0, 0, 4, 4, 0] [] [0, 2, 1] (by omega) (by omega) (by omega) bk2.k (by omega) (src_corners ce1) (src_nil _ _) (src_one ce2) ?hq).mono ?_
      case hq =>
        intro v hv a n c e hn
        simp at hv
        rcases hv with rfl | rfl | rfl
        · cases e
          exact ⟨by show wr.heap.size + 1 < _; omega, by show wr.heap.size + 1 ≠ _; omega, fun e => by have := (hK.out.k.vS _ e).1; simp at this; omega⟩
        · cases e
        · cases e
          exact ⟨by show wr.heap.size + 2 < _; omega, by show wr.heap.size + 2 ≠ _; omega, fun e => by have := (hK.out.k.vS _ e).1; simp at this; omega⟩
      rintro e W3 ⟨rfl, v', e', bk3, kp3, ap3⟩
      have hB3 : Below B w W3 := hW.out.trans ((bel2.mono (Nat.le_of_lt hbk)).trans (kp_below bk2.k kp3))
      have BK3 := hid (bk2.ints bk3 kp3 ap3)
      have BEL3 := hid hB3
      clear bk2 bk3 kp3 ap3 hB3 ce1 ce2 bel2 siz2 hbk
      go_wp2_with fail
      exact ⟨⟨1, v', es ++ [e'], vt, ts, by omega, rfl, by rw [List.length_append, List.length_singleton]; omega, by omega, BK3, BEL3⟩, by simp [intOf]⟩
    · rw [show (1 + ((1 : Nat) : Int)) = 2 from rfl]
      go_wp2_with fail
      refine (corners_kd 2 wr).mono ?_
      rintro e W2 ⟨bel2, siz2, rfl, ce1, ce2⟩
      have bk2 : Bb W2 B W2.heap.size B vi es vt ts := hK.out.below bel2 bel2.size (Nat.le_refl _)
      go_wp2_with fail
      have hbk := hK.out.k.bS
      refine (plays2 W2 B B vt ts 1 1 _ _ _ 3 0 1 [0, 0, 0, 4, 4, 0] [] [0, 2, 1] (by omega) (by omega) (by omega) bk2.t (by omega) (src_corners ce1) (src_nil _ _) (src_one ce2) ?hq).mono ?_
      case hq =>
        intro v hv a n c e hn
        simp at hv
        rcases hv with rfl | rfl | rfl
        · cases e
          exact ⟨by show wr.heap.size + 1 < _; omega, by show wr.heap.size + 1 ≠ _; omega, fun e => by have := (hK.out.t.vS _ e).1; simp at this; omega⟩
        · cases e
        · cases e
          exact ⟨by show wr.heap.size + 2 < _; omega, by show wr.heap.size + 2 ≠ _; omega, fun e => by have := (hK.out.t.vS _ e).1; simp at this; omega⟩
      rintro e W3 ⟨rfl, v', e', bk3, kp3, ap3⟩
      have hB3 : Below B w W3 := hW.out.trans ((bel2.mono (Nat.le_of_lt hbk)).trans (kpt_below bk2.t kp3))
      have BK3 := hid (bk2.threes bk3 kp3 ap3)
      have BEL3 := hid hB3
      clear bk2 bk3 kp3 ap3 hB3 ce1 ce2 bel2 siz2 hbk
      go_wp2_with fail
      exact ⟨⟨2, vi, es, v', ts ++ [e'], by omega, rfl, by omega, by rw [List.length_append, List.length_singleton]; omega, BK3, BEL3⟩, by simp [intOf]⟩
    · rw [show (1 + ((2 : Nat) : Int)) = 3 from rfl]
      go_wp2_with fail
      refine (corners_kd 3 wr).mono ?_
      rintro e W2 ⟨bel2, siz2, rfl, ce1, ce2⟩
      have bk2 : Bb W2 B W2.heap.size B vi es vt ts := hK.out.below bel2 bel2.size (Nat.le_refl _)
      go_wp2_with fail
      have hbk := hK.out.k.bS
      refine (plays3 W2 B B vt ts 1 1 _ _ _ 3 0 1 [0, 0, 0, 4, 4, 0] [] [0, 2, 1] (by omega) (by omega) (by omega) bk2.t (by omega) (src_corners ce1) (src_nil _ _) (src_one ce2) ?hq).mono ?_
      case hq =>
        intro v hv a n c e hn
        simp at hv
        rcases hv with rfl | rfl | rfl
        · cases e
          exact ⟨by show wr.heap.size + 1 < _; omega, by show wr.heap.size + 1 ≠ _; omega, fun e => by have := (hK.out.t.vS _ e).1; simp at this; omega⟩
        · cases e
        · cases e
          exact ⟨by show wr.heap.size + 2 < _; omega, by show wr.heap.size + 2 ≠ _; omega, fun e => by have := (hK.out.t.vS _ e).1; simp at this; omega⟩
      rintro e W3 ⟨rfl, v', e', bk3, kp3, ap3⟩
      have hB3 : Below B w W3 := hW.out.trans ((bel2.mono (Nat.le_of_lt hbk)).trans (kpt_below bk2.t kp3))
      have BK3 := hid (bk2.threes bk3 kp3 ap3)
      have BEL3 := hid hB3
      clear bk2 bk3 kp3 ap3 hB3 ce1 ce2 bel2 siz2 hbk
      go_wp2_with fail
      exact ⟨⟨3, vi, es, v', ts ++ [e'], by omega, rfl, by omega, by rw [List.length_append, List.length_singleton]; omega, BK3, BEL3⟩, by simp [intOf]⟩
    · rw [show (1 + ((3 : Nat) : Int)) = 4 from rfl]
      go_wp2_with fail
      refine (corners_kd 4 wr).mono ?_
      rintro e W2 ⟨bel2, siz2, rfl, ce1, ce2⟩
      have bk2 : Bb W2 B W2.heap.size B vi es vt ts := hK.out.below bel2 bel2.size (Nat.le_refl _)
      go_wp2_with fail
      have hbk := hK.out.k.bS
      refine (plays4 W2 B 1 1 _ _ _ 3 0 1 [0, 0, 0, 4, 4, 0] [] [0, 2, 1] (by omega) (by omega) (by omega) (src_corners ce1) (src_nil _ _) (src_one ce2)).mono ?_
      rintro e W3 ⟨rfl, bel3⟩
      have BK3 := hid (bk2.below bel3 bel3.size (Nat.le_refl _))
      have BEL3 : Hid (Below B w W3) := hid (hW.out.trans ((bel2.mono (Nat.le_of_lt hbk)).trans (bel3.mono (Nat.le_trans (Nat.le_of_lt hbk) bel2.size))))
      clear bk2 bel3 ce1 ce2 bel2 siz2 hbk
      go_wp2_with fail
      exact ⟨⟨4, vi, es, vt, ts, by omega, rfl, by omega, by omega, BK3, BEL3⟩, by simp [intOf]⟩
    · rw [show (1 + ((4 : Nat) : Int)) = 5 from rfl]
      go_wp2_with fail
      obtain ⟨W2, rfl⟩ : ∃ W2, W2 = wr := ⟨wr, rfl⟩
      go_loopw [10] (fun i wr => ∃ (k : Nat) (vi : Value) (es : List (List Value)) (vt : Value) (ts : List (List Value)), k ≤ n ∧ i = .int .i64 k ∧ es.length ≤ k + 4 ∧ ts.length ≤ k + 4 ∧ Hid (Bb wr B wr.heap.size B vi es vt ts) ∧ Hid (Below B w wr)) (fun i _ => n - (intOf i).toNat)
      case atStart => exact ⟨0, vi, es, vt, ts, Nat.zero_le _, rfl, by omega, by omega, hK, hW⟩
      case round =>
        clear hK hW hes hts
        obtain ⟨k, vi, es, vt, ts, hk, rfl, hes, hts, hK, hW⟩ := hrel
        by_cases hlt : k < n
        · obtain ⟨b, o, kd, x, y, v1, v2, v3, n1, n2, n3, z1, z2, z3, rfl, hO⟩ := HOP.out k hlt
          have HO := hid hO
          have hbB : b < B := by rw [HB.out]; exact World.block_lt_of_cell? w _ hO.c0
          have d0 : wr.cell? ⟨b, o + k * 6, none⟩ = some (.int .i64 kd) := (hW.out.cell hbB).trans hO.c0
          have d1 : wr.cell? ⟨b, o + k * 6 + 1, none⟩ = some v1 := (hW.out.cell hbB).trans hO.c1
          have d2 : wr.cell? ⟨b, o + k * 6 + 2, none⟩ = some v2 := (hW.out.cell hbB).trans hO.c2
          have d3 : wr.cell? ⟨b, o + k * 6 + 3, none⟩ = some v3 := (hW.out.cell hbB).trans hO.c3
          have d4 : wr.cell? ⟨b, o + k * 6 + 4, none⟩ = some (.int .i64 x) := (hW.out.cell hbB).trans hO.c4
          have d5 : wr.cell? ⟨b, o + k * 6 + 5, none⟩ = some (.int .i64 y) := (hW.out.cell hbB).trans hO.c5
          obtain ⟨p1, c1, rfl⟩ : ∃ p c, v1 = .slice p n1 c := by obtain ⟨_, p, c, e, _⟩ := hO.s1; exact ⟨p, c, e⟩
          obtain ⟨p2, c2, rfl⟩ : ∃ p c, v2 = .slice p n2 c := by obtain ⟨_, p, c, e, _⟩ := hO.s2; exact ⟨p, c, e⟩
          obtain ⟨p3, c3, rfl⟩ : ∃ p c, v3 = .slice p n3 c := by obtain ⟨_, p, c, e, _⟩ := hO.s3; exact ⟨p, c, e⟩
          have i0 : (k : Int) < n := by omega
          have BEL1 : Hid (Below B w (wr.alloc (.cells #[.int .i64 kd, .slice p1 n1 c1, .slice p2 n2 c2, .slice p3 n3 c3, .int .i64 x, .int .i64 y] 62))) := hid (hW.out.alloc (by have := hK.out.k.bS; omega) _)
          have BK1 : Hid (Bb (wr.alloc (.cells #[.int .i64 kd, .slice p1 n1 c1, .slice p2 n2 c2, .slice p3 n3 c3, .int .i64 x, .int .i64 y] 62)) B (wr.alloc (.cells #[.int .i64 kd, .slice p1 n1 c1, .slice p2 n2 c2, .slice p3 n3 c3, .int .i64 x, .int .i64 y] 62)).heap.size B vi es vt ts) :=
            hid (hK.out.below ((Below.refl _ _).alloc (Nat.le_refl _) _) (by rw [size_new]; omega) (Nat.le_refl _))
          clear hO
          rcases (by omega : kd = 1 ∨ kd = 2 ∨ kd = 3 ∨ kd = 4 ∨ kd < 1 ∨ 4 < kd) with rfl | rfl | rfl | rfl | hkd | hkd
          · go_wp2_with fail
            obtain ⟨W3, hW3⟩ : ∃ W3 : World, W3 = wr.alloc (.cells #[.int .i64 1, .slice p1 n1 c1, .slice p2 n2 c2, .slice p3 n3 c3, .int .i64 x, .int .i64 y] 62) := ⟨_, rfl⟩
            rw [← hW3] at BEL1 BK1 ⊢
            clear hW3 d0 d1 d2 d3 d4 d5
            have BW : Hid (Below w.heap.size w W3) := by rw [HB.out] at BEL1; exact BEL1
            refine (plays1 W3 B B vi es x y (.slice p1 n1 c1) (.slice p2 n2 c2) (.slice p3 n3 c3) n1 n2 n3 z1 z2 z3 HO.out.h1 HO.out.h2 HO.out.h3 BK1.out.k (by omega) (HO.out.s1.below BW.out) (HO.out.s2.below BW.out) (HO.out.s3.below BW.out) ?hq).mono ?_
            case hq =>
              intro v hv a n c e hn
              have hlt : a.block < w.heap.size := by
                simp at hv
                rcases hv with rfl | rfl | rfl
                · rw [e] at HO; exact HO.out.s1.lt (by omega) hn
                · rw [e] at HO; exact HO.out.s2.lt (by omega) hn
                · rw [e] at HO; exact HO.out.s3.lt (by omega) hn
              have := bk_ge BK1.out.k (k := a.block) (by rw [HB.out]; exact hlt)
              exact ⟨Nat.lt_of_lt_of_le hlt BW.out.size, this⟩
            rintro e W4 ⟨rfl, v', e', bk4, kp4, ap4⟩
            have BK4 := hid (BK1.out.ints bk4 kp4 ap4)
            have BEL4 := hid (BEL1.out.trans (kp_below BK1.out.k kp4))
            clear bk4 kp4 ap4
            go_wp2_with fail
            refine (looksB_any W4 B W4.heap.size B v' vt (es ++ [e']) ts BK4.out (by rw [List.length_append, List.length_singleton]; omega) (by omega)).mono ?_
            rintro e W5 ⟨rfl, bel5⟩
            have BK5 := hid (BK4.out.below bel5 bel5.size (Nat.le_refl _))
            have BEL5 := hid (BEL4.out.trans (bel5.mono (Nat.le_of_lt BK4.out.k.bS)))
            clear bel5
            go_wp2_with fail
            exact ⟨⟨k + 1, v', es ++ [e'], vt, ts, by omega, by go_num, by rw [List.length_append, List.length_singleton]; omega, by omega, BK5, BEL5⟩, by simp [intOf]; omega⟩
          · go_wp2_with fail
            obtain ⟨W3, hW3⟩ : ∃ W3 : World, W3 = wr.alloc (.cells #[.int .i64 2, .slice p1 n1 c1, .slice p2 n2 c2, .slice p3 n3 c3, .int .i64 x, .int .i64 y] 62) := ⟨_, rfl⟩
            rw [← hW3] at BEL1 BK1 ⊢
            clear hW3 d0 d1 d2 d3 d4 d5
            have BW : Hid (Below w.heap.size w W3) := by rw [HB.out] at BEL1; exact BEL1
            refine (plays2 W3 B B vt ts x y (.slice p1 n1 c1) (.slice p2 n2 c2) (.slice p3 n3 c3) n1 n2 n3 z1 z2 z3 HO.out.h1 HO.out.h2 HO.out.h3 BK1.out.t (by omega) (HO.out.s1.below BW.out) (HO.out.s2.below BW.out) (HO.out.s3.below BW.out) ?hq).mono ?_
            case hq =>
              intro v hv a n c e hn
              have hlt : a.block < w.heap.size := by
                simp at hv
                rcases hv with rfl | rfl | rfl
                · rw [e] at HO; exact HO.out.s1.lt (by omega) hn
                · rw [e] at HO; exact HO.out.s2.lt (by omega) hn
                · rw [e] at HO; exact HO.out.s3.lt (by omega) hn
              have := bt_ge BK1.out.t (k := a.block) (by rw [HB.out]; exact hlt)
              exact ⟨Nat.lt_of_lt_of_le hlt BW.out.size, this⟩
            rintro e W4 ⟨rfl, v', e', bk4, kp4, ap4⟩
            have BK4 := hid (BK1.out.threes bk4 kp4 ap4)
            have BEL4 := hid (BEL1.out.trans (kpt_below BK1.out.t kp4))
            clear bk4 kp4 ap4
            go_wp2_with fail
            refine (looksB_any W4 B W4.heap.size B vi v' es (ts ++ [e']) BK4.out (by omega) (by rw [List.length_append, List.length_singleton]; omega)).mono ?_
            rintro e W5 ⟨rfl, bel5⟩
            have BK5 := hid (BK4.out.below bel5 bel5.size (Nat.le_refl _))
            have BEL5 := hid (BEL4.out.trans (bel5.mono (Nat.le_of_lt BK4.out.k.bS)))
            clear bel5
            go_wp2_with fail
            exact ⟨⟨k + 1, vi, es, v', ts ++ [e'], by omega, by go_num, by omega, by rw [List.length_append, List.length_singleton]; omega, BK5, BEL5⟩, by simp [intOf]; omega⟩
          · go_wp2_with fail
            obtain ⟨W3, hW3⟩ : ∃ W3 : World, W3 = wr.alloc (.cells #[.int .i64 3, .slice p1 n1 c1, .slice p2 n2 c2, .slice p3 n3 c3, .int .i64 x, .int .i64 y] 62) := ⟨_, rfl⟩
            rw [← hW3] at BEL1 BK1 ⊢
            clear hW3 d0 d1 d2 d3 d4 d5
            have BW : Hid (Below w.heap.size w W3) := by rw [HB.out] at BEL1; exact BEL1
            refine (plays3 W3 B B vt ts x y (.slice p1 n1 c1) (.slice p2 n2 c2) (.slice p3 n3 c3) n1 n2 n3 z1 z2 z3 HO.out.h1 HO.out.h2 HO.out.h3 BK1.out.t (by omega) (HO.out.s1.below BW.out) (HO.out.s2.below BW.out) (HO.out.s3.below BW.out) ?hq).mono ?_
            case hq =>
              intro v hv a n c e hn
              have hlt : a.block < w.heap.size := by
                simp at hv
                rcases hv with rfl | rfl | rfl
                · rw [e] at HO; exact HO.out.s1.lt (by omega) hn
                · rw [e] at HO; exact HO.out.s2.lt (by omega) hn
                · rw [e] at HO; exact HO.out.s3.lt (by omega) hn
              have := bt_ge BK1.out.t (k := a.block) (by rw [HB.out]; exact hlt)
              exact ⟨Nat.lt_of_lt_of_le hlt BW.out.size, this⟩
            rintro e W4 ⟨rfl, v', e', bk4, kp4, ap4⟩
            have BK4 := hid (BK1.out.threes bk4 kp4 ap4)
            have BEL4 := hid (BEL1.out.trans (kpt_below BK1.out.t kp4))
            clear bk4 kp4 ap4
            go_wp2_with fail
            refine (looksB_any W4 B W4.heap.size B vi v' es (ts ++ [e']) BK4.out (by omega) (by rw [List.length_append, List.length_singleton]; omega)).mono ?_
            rintro e W5 ⟨rfl, bel5⟩
            have BK5 := hid (BK4.out.below bel5 bel5.size (Nat.le_refl _))
            have BEL5 := hid (BEL4.out.trans (bel5.mono (Nat.le_of_lt BK4.out.k.bS)))
            clear bel5
            go_wp2_with fail
            exact ⟨⟨k + 1, vi, es, v', ts ++ [e'], by omega, by go_num, by omega, by rw [List.length_append, List.length_singleton]; omega, BK5, BEL5⟩, by simp [intOf]; omega⟩
          · go_wp2_with fail
            obtain ⟨W3, hW3⟩ : ∃ W3 : World, W3 = wr.alloc (.cells #[.int .i64 4, .slice p1 n1 c1, .slice p2 n2 c2, .slice p3 n3 c3, .int .i64 x, .int .i64 y] 62) := ⟨_, rfl⟩
            rw [← hW3] at BEL1 BK1 ⊢
            clear hW3 d0 d1 d2 d3 d4 d5
            have BW : Hid (Below w.heap.size w W3) := by rw [HB.out] at BEL1; exact BEL1
            refine (plays4 W3 B x y (.slice p1 n1 c1) (.slice p2 n2 c2) (.slice p3 n3 c3) n1 n2 n3 z1 z2 z3 HO.out.h1 HO.out.h2 HO.out.h3 (HO.out.s1.below BW.out) (HO.out.s2.below BW.out) (HO.out.s3.below BW.out)).mono ?_
            rintro e W4 ⟨rfl, bel4⟩
            have BK4 := hid (BK1.out.below bel4 bel4.size (Nat.le_refl _))
            have BEL4 := hid (BEL1.out.trans (bel4.mono (Nat.le_of_lt BK1.out.k.bS)))
            clear bel4
            go_wp2_with fail
            refine (looksB_any W4 B W4.heap.size B vi vt es ts BK4.out (by omega) (by omega)).mono ?_
            rintro e W5 ⟨rfl, bel5⟩
            have BK5 := hid (BK4.out.below bel5 bel5.size (Nat.le_refl _))
            have BEL5 := hid (BEL4.out.trans (bel5.mono (Nat.le_of_lt BK4.out.k.bS)))
            clear bel5
            go_wp2_with fail
            exact ⟨⟨k + 1, vi, es, vt, ts, by omega, by go_num, by omega, by omega, BK5, BEL5⟩, by simp [intOf]; omega⟩
          · have j1 : ¬ (1 : Int) ≤ kd := by omega
            go_wp2_with fail
            exact ⟨⟨k + 1, vi, es, vt, ts, by omega, by go_num, by omega, by omega, BK1, BEL1⟩, by simp [intOf]; omega⟩
          · have j1 : (1 : Int) ≤ kd := by omega
            have j2 : ¬ kd ≤ 4 := by omega
            go_wp2_with fail
            exact ⟨⟨k + 1, vi, es, vt, ts, by omega, by go_num, by omega, by omega, BK1, BEL1⟩, by simp [intOf]; omega⟩
        · have hkn : k = n := by omega
          subst hkn
          go_wp2_with fail
          go_ret
          exact ⟨rfl, by rw [← HB.out]; exact hW.out⟩

set_option maxRecDepth 100000 in
theorem all_any (w : World) (p : Option Addr) (n c : Nat) (hops : Ops w p n) :
    Calls Tryz.prog 12 #[.slice p n c] w fun e w' => e = .returned (.bool true) ∧ Below w.heap.size w w' := by
  have H := hid (upToAll w p n c hops)
  clear hops
  go_enter Tryz.func12, Tryz.ntmps12
  go_wp2_with fail
  refine H.out.mono ?_
  rintro e w' ⟨rfl, hb⟩
  go_wp2_with fail
  go_ret
  exact ⟨rfl, hb⟩
end Go.Proofs.YtdbebbbceeopaaaGreat
