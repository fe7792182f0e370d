import Derived.Test.YtdbebbbceeopaaaGreatF6
import Derived.Deep.AppendLies
import Derived.Deep.RegionLaw
set_option linter.unusedSimpArgs false
namespace Go.Proofs.YtdbebbbceeopaaaGreat
open Go.RowKit

theorem owns_len68 {w : World} {base : Nat} {v : Value} {n : Nat} {xs : List Value} (h : w.ownsRow base 87 5 v n xs) : ∃ a c, v = .slice a n c := by
  rcases h.2 with ⟨rfl, rfl⟩ | ⟨g', cap', cur, h', _⟩
  · exact ⟨_, _, rfl⟩
  · exact ⟨_, _, h'⟩

/-- What the law's book knows: its lists, each full of its own mark, in arrays of their own. -/
structure Bk (w : World) (B S bk : Nat) (vi : Value) (es : List (List Value)) (vt : Value := .slice none 0 0) : Prop where
  bB : B ≤ bk
  bS : bk < S
  Sw : S ≤ w.heap.size
  c0 : w.cell? ⟨bk, 0, none⟩ = some vi
  f0 : ∀ o, w.frozen? ⟨bk, o, none⟩ = false
  c1 : w.cell? ⟨bk, 1, none⟩ = some vt
  own : w.ownsRow B 87 5 vi es.length es.flatten
  vS : ∀ g, vi.ownBlock = some g → g < S ∧ g ≠ bk
  ent : ∀ (i : Nat) (e : List Value), es[i]? = some e → ∃ l a b c, e = [l, a, b, c, .int .i64 (-1000 - (i : Int))] ∧ ∀ x ∈ [l, a, b, c], Full w x (-1000 - (i : Int)) ∧ ∀ g, x.ownBlock = some g → g < S ∧ g ≠ bk ∧ vi.ownBlock ≠ some g

end Go.Proofs.YtdbebbbceeopaaaGreat

set_option linter.unusedSimpArgs false
namespace Go.Proofs.YtdbebbbceeopaaaGreat
open Go.RowKit

theorem flat_get (es : List (List Value)) (h5 : ∀ (i : Nat) (e : List Value), es[i]? = some e → e.length = 5) : ∀ (i : Nat) (e : List Value), es[i]? = some e → ∀ j, j < 5 → es.flatten[i * 5 + j]? = e[j]? := by
  induction es with
  | nil => intro i e h; simp at h
  | cons x r ih =>
    intro i e hi j hj
    have hx : x.length = 5 := h5 0 x rfl
    have hr : ∀ (i : Nat) (e : List Value), r[i]? = some e → e.length = 5 := fun i e h => h5 (i + 1) e (by simpa using h)
    cases i with
    | zero =>
      simp at hi
      subst hi
      rw [List.flatten_cons, Nat.zero_mul, Nat.zero_add, List.getElem?_append_left (by omega)]
    | succ i =>
      have := ih hr i e (by simpa using hi) j hj
      rw [List.flatten_cons, List.getElem?_append_right (by omega), hx, show (i + 1) * 5 + j - 5 = i * 5 + j by omega]
      exact this

theorem Full.shape {w : World} {v : Value} {m : Int} (h : Full w v m) : ∃ p n c, v = .slice p n c := by
  rcases h with ⟨c, rfl⟩ | ⟨g, n, c, rfl, _⟩
  · exact ⟨_, _, _, rfl⟩
  · exact ⟨_, _, _, rfl⟩

theorem Full.below {w w' : World} {v : Value} {m : Int} (h : Full w v m) (hb : Below w.heap.size w w') : Full w' v m := by
  rcases h with h | ⟨g, n, c, h1, h2, h3, h4⟩
  · exact Or.inl h
  · exact Or.inr ⟨g, n, c, h1, h2, Nat.lt_of_lt_of_le h3 hb.size, fun j hj => (hb.cell (by exact h3)).trans (h4 j hj)⟩

set_option maxRecDepth 100000 in
set_option maxHeartbeats 2000000 in
theorem looks_any (w : World) (B S bk : Nat) (vi : Value) (es : List (List Value)) (hB : Bk w B S bk vi es) (he : es.length ≤ 10000000) :
    Calls Tryz.prog 31 #[.pointer (some ⟨bk, 0, none⟩)] w fun e w' => e = .returned (.bool true) ∧ Below w.heap.size w w' := by
  obtain ⟨a1, c1, hvi⟩ := owns_len68 hB.own
  have HBK := hid hB
  have hbk : bk < w.heap.size := Nat.lt_of_lt_of_le hB.bS hB.Sw
  have HC0 : Hid (w.cell? ⟨bk, 0, none⟩ = some (.slice a1 es.length c1)) := by rw [← hvi]; exact hB.c0
  have HC1 := hid hB.c1
  have HVI := hid hvi
  clear hB hvi
  obtain ⟨N, hN⟩ : ∃ N, N = es.length := ⟨_, rfl⟩
  have HN := hid hN
  rw [← hN] at HC0 he
  clear hN
  go_enter Tryz.func31, Tryz.ntmps31
  go_wp2
  go_loopw [3] (fun i wr => ∃ k : Nat, k ≤ N ∧ i = .int .i64 k ∧ Below w.heap.size w wr) (fun i _ => N - (intOf i).toNat)
  case atStart => exact ⟨0, Nat.zero_le _, rfl, Below.refl _ _⟩
  case round =>
    obtain ⟨k, hk, rfl, hb⟩ := hrel
    have cb := (hb.cell (p := ⟨bk, 0, none⟩) hbk).trans HC0.out
    have cb1 := (hb.cell (p := ⟨bk, 1, none⟩) hbk).trans HC1.out
    by_cases hkN : k < N
    · obtain ⟨e, hek⟩ : ∃ e, es[k]? = some e := ⟨_, List.getElem?_eq_getElem (by rw [← HN.out]; exact hkN)⟩
      obtain ⟨l, a, b, c, rfl, hx⟩ := HBK.out.ent k e hek
      have h5 : ∀ (i : Nat) (e : List Value), es[i]? = some e → e.length = 5 := by
        intro i e h
        obtain ⟨_, _, _, _, rfl, _⟩ := HBK.out.ent i e h
        rfl
      have hfl := flat_get es h5 k _ hek
      have hown := HBK.out.own
      rcases hown.2 with ⟨_, h0⟩ | ⟨gi, cap, cur, hv, _, hh, _⟩
      · have := HN.out; omega
      · have hvv : (Value.slice a1 es.length c1) = .slice (some ⟨gi, 0, none⟩) es.length cap := by rw [← HVI.out]; exact hv
        simp only [Value.slice.injEq, true_and] at hvv
        obtain ⟨rfl, rfl⟩ := hvv
        rw [hv] at hown
        have hgi := (Array.getElem?_eq_some_iff.1 hh).1
        have ec : ∀ j, j < 5 → wr.cell? ⟨gi, k * 5 + j, none⟩ = [l, a, b, c, .int .i64 (-1000 - (k : Int))][j]? := by
          intro j hj
          rw [hb.cell (by exact hgi), hown.cellAt (k * 5 + j) (by rw [← HN.out]; omega), hfl j hj]
        have e0 : wr.cell? ⟨gi, k * 5, none⟩ = some l := ec 0 (by omega)
        have e1 : wr.cell? ⟨gi, k * 5 + 1, none⟩ = some a := ec 1 (by omega)
        have e2 : wr.cell? ⟨gi, k * 5 + 2, none⟩ = some b := ec 2 (by omega)
        have e3 : wr.cell? ⟨gi, k * 5 + 3, none⟩ = some c := ec 3 (by omega)
        have e4 : wr.cell? ⟨gi, k * 5 + 4, none⟩ = some (.int .i64 (-1000 - (k : Int))) := ec 4 (by omega)
        have fl := (hx l (by simp)).1
        have fa := (hx a (by simp)).1
        have fb := (hx b (by simp)).1
        have fc := (hx c (by simp)).1
        obtain ⟨p1, n1, q1, rfl⟩ := fl.shape
        obtain ⟨p2, n2, q2, rfl⟩ := fa.shape
        obtain ⟨p3, n3, q3, rfl⟩ := fb.shape
        obtain ⟨p4, n4, q4, rfl⟩ := fc.shape
        have F := hid (fun (W : World) (hW : Below w.heap.size w W) => And.intro (fullInts_any _ _ W (fl.below hW)) (And.intro (fullInts_any _ _ W (fa.below hW)) (And.intro (fullInts_any _ _ W (fb.below hW)) (fullInts_any _ _ W (fc.below hW)))))
        generalize -1000 - (k : Int) = m at *
        have HB := hid hb
        have hk' : (k : Int) < N := by omega
        clear hfl hown hh ec fl fa fb fc hx hek h5 hv hb
        have G := hid (F.out (wr.alloc (.cells #[.slice p1 n1 q1, .slice p2 n2 q2, .slice p3 n3 q3, .slice p4 n4 q4, .int .i64 m] 87)) (HB.out.alloc HB.out.size _))
        go_wp2_with fail
        refine (G.out.1).mono ?_
        rintro e w' ⟨rfl, rfl⟩
        go_wp2_with fail
        refine (G.out.2.1).mono ?_
        rintro e w' ⟨rfl, rfl⟩
        go_wp2_with fail
        refine (G.out.2.2.1).mono ?_
        rintro e w' ⟨rfl, rfl⟩
        go_wp2_with fail
        refine (G.out.2.2.2).mono ?_
        rintro e w' ⟨rfl, rfl⟩
        go_wp2_with fail
        go_roundw
        case rel => exact ⟨k + 1, by omega, by go_num, HB.out.alloc HB.out.size _⟩
        case measure => simp [intOf]; omega
    · have : k = N := by omega
      subst this
      have HB := hid hb
      clear hb
      go_wp2
      refine wp_loop_rounds 1 ?_
      rw [rounds_succ]
      go_wp2
      go_ret
      exact ⟨rfl, HB.out⟩
end Go.Proofs.YtdbebbbceeopaaaGreat
