import Derived.Test.YtdbebbbceeopaaaGreatLob
import Derived.Test.YtdbebbbceeopaaaGreatP
set_option linter.unusedSimpArgs false
namespace Go.Proofs.YtdbebbbceeopaaaGreat
open Go.RowKit

/-- Whole numbers in cells. -/
def Cel (W : World) (l : List (Nat × Nat × Int)) : Prop := ∀ q ∈ l, W.cell? ⟨q.1, q.2.1, none⟩ = some (.int .i64 q.2.2)

theorem Cel.step {W W' : World} {l : List (Nat × Nat × Int)} (h : Cel W l) (hb : Below W.heap.size W W') : Cel W' l := fun q hq =>
  (hb.cell (World.block_lt_of_cell? W _ (h q hq))).trans (h q hq)

theorem Cel.new {W : World} {l : List (Nat × Nat × Int)} (h : Cel W l) (o : Obj) : Cel (W.alloc o) l := fun q hq => cell_new (h q hq)

theorem Cel.cons {W : World} {l : List (Nat × Nat × Int)} {b o : Nat} {v : Int} (h : W.cell? ⟨b, o, none⟩ = some (.int .i64 v)) (hl : Cel W l) : Cel W ((b, o, v) :: l) := by
  intro q hq
  rcases List.mem_cons.1 hq with rfl | h'
  · exact h
  · exact hl q h'

theorem Cel.get {W : World} {l : List (Nat × Nat × Int)} (h : Cel W l) (i : Nat) (q : Nat × Nat × Int) (hi : l[i]? = some q) : W.cell? ⟨q.1, q.2.1, none⟩ = some (.int .i64 q.2.2) := h q (List.mem_of_getElem? hi)

theorem hit_far {px py : Nat → Int} {n a b c : Nat} {x y : Int} (h : (nearB x && nearB y) = false ∨ (nearB (px a) && nearB (py a)) = false ∨ (nearB (px b) && nearB (py b)) = false ∨ (nearB (px c) && nearB (py c)) = false) :
    ((nearB x && nearB y) && liesB px py n x y (a, b, c)) = false := by
  rcases h with h | h | h | h <;> simp [liesB, usB, h]

theorem hit_near {px py : Nat → Int} {n a b c : Nat} {x y : Int} (h0 : (nearB x && nearB y) = true) (h1 : (nearB (px a) && nearB (py a)) = true) (h2 : (nearB (px b) && nearB (py b)) = true) (h3 : (nearB (px c) && nearB (py c)) = true) (ha : a < n) (hb : b < n) (hc : c < n) :
    ((nearB x && nearB y) && liesB px py n x y (a, b, c)) = (decide (0 < tw (px a) (py a) (px b) (py b) (px c) (py c)) && (decide (0 ≤ tw (px a) (py a) (px b) (py b) x y) && (decide (0 ≤ tw (px b) (py b) (px c) (py c) x y) && decide (0 ≤ tw (px c) (py c) (px a) (py a) x y)))) := by
  have e1 : usB px py n (a : Int) = true := by simp [usB, h1]; exact ha
  have e2 : usB px py n (b : Int) = true := by simp [usB, h2]; exact hb
  have e3 : usB px py n (c : Int) = true := by simp [usB, h3]; exact hc
  rw [h0]
  simp [liesB, e1, e2, e3]

def hitB (px py : Nat → Int) (n : Nat) (x y : Int) (t : Int × Int × Int) : Bool := (nearB x && nearB y) && liesB px py n x y t

theorem loc_miss {px py : Nat → Int} {n m : Nat} {z : List Int} {x y : Int} (h : ∀ j, j < m → hitB px py n x y (tris z m)[j]! = false) : locI px py n z m x y = -1 := by
  unfold locI
  cases hr : (nearB x && nearB y) with
  | false => rfl
  | true =>
    rw [if_pos rfl]
    have := Lib.idxBy_miss (fun (_ : Int × Int × Int) t => liesB px py n x y t) (tris z m) m default (fun j hj => by have := h j hj; unfold hitB at this; rw [hr] at this; simpa using this)
    rw [show (tris z m).take m = tris z m from List.take_of_length_le (by rw [tris_len]; exact Nat.le_refl _)] at this
    exact this

theorem loc_hit {px py : Nat → Int} {n m k : Nat} {z : List Int} {x y : Int} (hk : k < m) (h : hitB px py n x y (tris z m)[k]! = true) (h' : ∀ j, j < k → hitB px py n x y (tris z m)[j]! = false) : locI px py n z m x y = k := by
  unfold hitB at h h'
  rw [Bool.and_eq_true] at h
  unfold locI
  rw [h.1, if_pos rfl]
  have := Lib.idxBy_hit (fun (_ : Int × Int × Int) t => liesB px py n x y t) (tris z m) m k default hk (by rw [tris_len]; exact Nat.le_refl _) h.2 (fun j hj => by have := h' j hj; rw [h.1] at this; simpa using this)
  rw [show (tris z m).take m = tris z m from List.take_of_length_le (by rw [tris_len]; exact Nat.le_refl _)] at this
  exact this

set_option maxRecDepth 100000 in
set_option maxHeartbeats 4000000 in
theorem refLocate_any (px py : Nat → Int) (n cap m mcap : Nat) (pp pt : Option Addr) (z : List Int) (x y : Int) (w : World) (hn : n ≤ 2000000) (hm : m ≤ 2000000)
    (hp : 0 < n → ∃ qb qo, pp = some ⟨qb, qo, none⟩ ∧ Pts w qb qo n px py) (ht : 0 < m → ∃ g o, pt = some ⟨g, o, none⟩ ∧ Trs w g o m z) :
    Calls Tryz.prog 54 #[.slice pp n cap, .slice pt m mcap, .agg #[.int .i64 x, .int .i64 y]] w fun e w' => e = .returned (.int .i64 (locI px py n z m x y)) ∧ Below w.heap.size w w' := by
  have HP := hid hp
  have HT := hid ht
  have B0 := hid ((Below.refl w.heap.size w).alloc (Nat.le_refl _) (.cells #[.int .i64 x, .int .i64 y] 35))
  have C0 : Hid (Cel (w.alloc (.cells #[.int .i64 x, .int .i64 y] 35)) [(w.heap.size, 0, x), (w.heap.size, 1, y)]) := hid (Cel.cons (World.cell?_alloc_at _ _ _ _ rfl) (Cel.cons (World.cell?_alloc_at _ _ _ _ rfl) (fun q hq => by cases hq)))
  clear hp ht
  go_enter Tryz.func54, Tryz.ntmps54
  go_wp2
  go_loopw [7] (fun i wr => ∃ k : Nat, k ≤ m ∧ i = .int .i64 k ∧ Hid (Below w.heap.size w wr) ∧ Hid (Cel wr [(w.heap.size, 0, x), (w.heap.size, 1, y)]) ∧ Hid (∀ j, j < k → hitB px py n x y (tris z m)[j]! = false)) (fun i _ => m - (intOf i).toNat)
  case atStart => exact ⟨0, Nat.zero_le _, rfl, B0, C0, hid (fun j hj => absurd hj (Nat.not_lt_zero _))⟩
  case round =>
    clear B0 C0
    obtain ⟨k, hk, rfl, HB, HC, HA⟩ := hrel
    by_cases hlt : k < m
    · have hlt' : (k : Int) < m := by omega
      obtain ⟨g, o, rfl, hT⟩ := HT.out (by omega)
      obtain ⟨t0, t1, t2⟩ := (hT.below HB.out).2 k hlt
      have hN : Hid (∀ t : Int × Int × Int, hitB px py n x y t = false → t = (z.getD (k * 3) 0, z.getD (k * 3 + 1) 0, z.getD (k * 3 + 2) 0) → ∀ j, j < k + 1 → hitB px py n x y (tris z m)[j]! = false) := hid (by
        intro t h1 h2 j hj
        rcases Nat.lt_or_ge j k with h | h
        · exact HA.out j h
        · obtain rfl : j = k := by omega
          rw [tris_at z m j hlt, ← h2]; exact h1)
      have hY : Hid (∀ t : Int × Int × Int, hitB px py n x y t = true → t = (z.getD (k * 3) 0, z.getD (k * 3 + 1) 0, z.getD (k * 3 + 2) 0) → locI px py n z m x y = k) := hid (by
        intro t h1 h2
        exact loc_hit hlt (by rw [tris_at z m k hlt, ← h2]; exact h1) HA.out)
      generalize z.getD (k * 3) 0 = ta at *
      generalize z.getD (k * 3 + 1) 0 = tb at *
      generalize z.getD (k * 3 + 2) 0 = tc at *
      have HB1 := hid (HB.out.alloc HB.out.size (.cells #[.int .i64 ta, .int .i64 tb, .int .i64 tc] 46))
      have HC1 := hid (HC.out.new (.cells #[.int .i64 ta, .int .i64 tb, .int .i64 tc] 46))
      clear hT HT
      have out : Hid (¬ ((0 ≤ ta ∧ ta < n) ∧ (0 ≤ tb ∧ tb < n) ∧ (0 ≤ tc ∧ tc < n)) → hitB px py n x y (ta, tb, tc) = false) := hid (by
        intro h
        have : (usB px py n ta && (usB px py n tb && usB px py n tc)) = false := by
          cases h1 : (usB px py n ta && (usB px py n tb && usB px py n tc)) with
          | false => rfl
          | true =>
            rw [Bool.and_eq_true, Bool.and_eq_true] at h1
            obtain ⟨a, e1, h2, _⟩ := usB_true h1.1
            obtain ⟨b, e3, h4, _⟩ := usB_true h1.2.1
            obtain ⟨c, e5, h6, _⟩ := usB_true h1.2.2
            exact absurd (by omega) h
        simp only [hitB, liesB, this, Bool.false_and, Bool.and_false])
      have hcase : ta < 0 ∨ (¬ ta < 0 ∧ (n : Int) ≤ ta) ∨ (¬ ta < 0 ∧ ¬ (n : Int) ≤ ta ∧ tb < 0) ∨ (¬ ta < 0 ∧ ¬ (n : Int) ≤ ta ∧ ¬ tb < 0 ∧ (n : Int) ≤ tb) ∨ (¬ ta < 0 ∧ ¬ (n : Int) ≤ ta ∧ ¬ tb < 0 ∧ ¬ (n : Int) ≤ tb ∧ tc < 0) ∨
        (¬ ta < 0 ∧ ¬ (n : Int) ≤ ta ∧ ¬ tb < 0 ∧ ¬ (n : Int) ≤ tb ∧ ¬ tc < 0 ∧ (n : Int) ≤ tc) ∨ (¬ ta < 0 ∧ ¬ (n : Int) ≤ ta ∧ ¬ tb < 0 ∧ ¬ (n : Int) ≤ tb ∧ ¬ tc < 0 ∧ ¬ (n : Int) ≤ tc) := by omega
      rcases hcase with h1 | ⟨h1, h2⟩ | ⟨h1, h2, h3⟩ | ⟨h1, h2, h3, h4⟩ | ⟨h1, h2, h3, h4, h5⟩ | ⟨h1, h2, h3, h4, h5, h6⟩ | ⟨h1, h2, h3, h4, h5, h6⟩
      · go_wp2
        go_roundw
        case rel => exact ⟨k + 1, by omega, by go_num, HB1, HC1, hid (hN.out _ (out.out (by omega)) rfl)⟩
        case measure => simp [intOf]; omega
      · go_wp2
        go_roundw
        case rel => exact ⟨k + 1, by omega, by go_num, HB1, HC1, hid (hN.out _ (out.out (by omega)) rfl)⟩
        case measure => simp [intOf]; omega
      · go_wp2
        go_roundw
        case rel => exact ⟨k + 1, by omega, by go_num, HB1, HC1, hid (hN.out _ (out.out (by omega)) rfl)⟩
        case measure => simp [intOf]; omega
      · go_wp2
        go_roundw
        case rel => exact ⟨k + 1, by omega, by go_num, HB1, HC1, hid (hN.out _ (out.out (by omega)) rfl)⟩
        case measure => simp [intOf]; omega
      · go_wp2
        go_roundw
        case rel => exact ⟨k + 1, by omega, by go_num, HB1, HC1, hid (hN.out _ (out.out (by omega)) rfl)⟩
        case measure => simp [intOf]; omega
      · go_wp2
        go_roundw
        case rel => exact ⟨k + 1, by omega, by go_num, HB1, HC1, hid (hN.out _ (out.out (by omega)) rfl)⟩
        case measure => simp [intOf]; omega
      · obtain ⟨a, rfl⟩ : ∃ a : Nat, ta = a := ⟨ta.toNat, by omega⟩
        obtain ⟨b, rfl⟩ : ∃ b : Nat, tb = b := ⟨tb.toNat, by omega⟩
        obtain ⟨c, rfl⟩ : ∃ c : Nat, tc = c := ⟨tc.toNat, by omega⟩
        obtain ⟨qb, qo, rfl, hP⟩ := HP.out (by omega)
        have hPw := hP.below HB.out hP.lt
        have xa := cell_new (o := .cells #[.int .i64 a, .int .i64 b, .int .i64 c] 46) (hPw.x a (by omega))
        have ya := cell_new (o := .cells #[.int .i64 a, .int .i64 b, .int .i64 c] 46) (hPw.y a (by omega))
        have xb := cell_new (o := .cells #[.int .i64 (px a), .int .i64 (py a)] 35) (cell_new (o := .cells #[.int .i64 a, .int .i64 b, .int .i64 c] 46) (hPw.x b (by omega)))
        have yb := cell_new (o := .cells #[.int .i64 (px a), .int .i64 (py a)] 35) (cell_new (o := .cells #[.int .i64 a, .int .i64 b, .int .i64 c] 46) (hPw.y b (by omega)))
        have xc := cell_new (o := .cells #[.int .i64 (px b), .int .i64 (py b)] 35) (cell_new (o := .cells #[.int .i64 (px a), .int .i64 (py a)] 35) (cell_new (o := .cells #[.int .i64 a, .int .i64 b, .int .i64 c] 46) (hPw.x c (by omega))))
        have yc := cell_new (o := .cells #[.int .i64 (px b), .int .i64 (py b)] 35) (cell_new (o := .cells #[.int .i64 (px a), .int .i64 (py a)] 35) (cell_new (o := .cells #[.int .i64 a, .int .i64 b, .int .i64 c] 46) (hPw.y c (by omega))))
        have p0 := (HC1.out.new (.cells #[.int .i64 (px a), .int .i64 (py a)] 35)).new (.cells #[.int .i64 (px b), .int .i64 (py b)] 35) |>.new (.cells #[.int .i64 (px c), .int .i64 (py c)] 35)
        have p1 := p0 _ (List.mem_cons_self ..)
        have p2 := p0 _ (List.mem_cons_of_mem _ (List.mem_cons_self ..))
        have q1 : (a : Int) < n := by omega
        have q2 : (b : Int) < n := by omega
        have q3 : (c : Int) < n := by omega
        dsimp only at p1 p2
        clear hP hPw p0
        go_wp2_with fail
        obtain ⟨W4, hW4⟩ : ∃ W4 : World, W4 = (((wr.alloc (.cells #[.int .i64 a, .int .i64 b, .int .i64 c] 46)).alloc (.cells #[.int .i64 (px a), .int .i64 (py a)] 35)).alloc (.cells #[.int .i64 (px b), .int .i64 (py b)] 35)).alloc (.cells #[.int .i64 (px c), .int .i64 (py c)] 35) := ⟨_, rfl⟩
        rw [← hW4]
        have C4 : Hid (Cel W4 [(w.heap.size, 0, x), (w.heap.size, 1, y), (wr.heap.size + 1, 0, px a), (wr.heap.size + 1, 1, py a), (wr.heap.size + 1 + 1, 0, px b), (wr.heap.size + 1 + 1, 1, py b), (wr.heap.size + 1 + 1 + 1, 0, px c), (wr.heap.size + 1 + 1 + 1, 1, py c)]) := hid (by
          refine Cel.cons ?_ (Cel.cons ?_ (Cel.cons ?_ (Cel.cons ?_ (Cel.cons ?_ (Cel.cons ?_ (Cel.cons ?_ (Cel.cons ?_ (fun q hq => by cases hq))))))))
          · rw [hW4]; exact p1
          · rw [hW4]; exact p2
          · rw [hW4]; exact cell_new (cell_new ((World.cell?_alloc_at _ _ _ _ (by simp)).trans rfl))
          · rw [hW4]; exact cell_new (cell_new ((World.cell?_alloc_at _ _ _ _ (by simp)).trans rfl))
          · rw [hW4]; exact cell_new ((World.cell?_alloc_at _ _ _ _ (by simp)).trans rfl)
          · rw [hW4]; exact cell_new ((World.cell?_alloc_at _ _ _ _ (by simp)).trans rfl)
          · rw [hW4]; exact (World.cell?_alloc_at _ _ _ _ (by simp)).trans rfl
          · rw [hW4]; exact (World.cell?_alloc_at _ _ _ _ (by simp)).trans rfl)
        have B4 : Hid (Below w.heap.size w W4) := hid (by
          rw [hW4]
          have hs := HB.out.size
          exact ((HB1.out.alloc (by simp; omega) _).alloc (by simp; omega) _).alloc (by simp; omega) _)
        clear hW4 xa ya xb yb xc yc p1 p2 HB1 HC1 HP t0 t1 t2
        have F0 := hid (far_any x y W4)
        refine F0.out.mono ?_
        clear F0
        rintro e W5 ⟨rfl, hb5⟩
        have C5 := hid (C4.out.step hb5)
        have B5 := bstep B4 hb5
        clear hb5 C4 B4
        cases f0 : (nearB x && nearB y) with
        | false =>
          have hh := hid (hN.out (a, b, c) (hit_far (.inl f0)) rfl)
          have P5 := hid (show Cel W5 [(w.heap.size, 0, x), (w.heap.size, 1, y)] from Cel.cons (C5.out.get 0 _ rfl) (Cel.cons (C5.out.get 1 _ rfl) (fun q hq => by cases hq)))
          clear f0
          go_wp2_with fail
          go_roundw
          case rel => exact ⟨k + 1, by omega, by go_num, B5, P5, hh⟩
          case measure => simp [intOf]; omega
        | true =>
          have ax0 : W5.cell? ⟨wr.heap.size + 1, 0, none⟩ = some (.int .i64 (px a)) := C5.out.get 2 _ rfl
          have ay0 : W5.cell? ⟨wr.heap.size + 1, 1, none⟩ = some (.int .i64 (py a)) := C5.out.get 3 _ rfl
          go_wp2_with fail
          refine (far_any _ _ _).mono ?_
          rintro e W6 ⟨rfl, hbb⟩
          have C6 := hid (C5.out.step hbb)
          have B6 := bstep B5 hbb
          clear hbb C5 B5 ax0 ay0
          cases f1 : (nearB (px a) && nearB (py a)) with
          | false =>
            have hh := hid (hN.out (a, b, c) (hit_far (.inr (.inl f1))) rfl)
            have PP := hid (show Cel W6 [(w.heap.size, 0, x), (w.heap.size, 1, y)] from Cel.cons (C6.out.get 0 _ rfl) (Cel.cons (C6.out.get 1 _ rfl) (fun q hq => by cases hq)))
            go_wp2_with fail
            go_roundw
            case rel => exact ⟨k + 1, by omega, by go_num, B6, PP, hh⟩
            case measure => simp [intOf]; omega
          | true =>
            have bx0 : W6.cell? ⟨wr.heap.size + 1 + 1, 0, none⟩ = some (.int .i64 (px b)) := C6.out.get 4 _ rfl
            have by0 : W6.cell? ⟨wr.heap.size + 1 + 1, 1, none⟩ = some (.int .i64 (py b)) := C6.out.get 5 _ rfl
            go_wp2_with fail
            refine (far_any _ _ _).mono ?_
            rintro e W7 ⟨rfl, hbb⟩
            have C7 := hid (C6.out.step hbb)
            have B7 := bstep B6 hbb
            clear hbb C6 B6 bx0 by0
            cases f2 : (nearB (px b) && nearB (py b)) with
            | false =>
              have hh := hid (hN.out (a, b, c) (hit_far (.inr (.inr (.inl f2)))) rfl)
              have PP := hid (show Cel W7 [(w.heap.size, 0, x), (w.heap.size, 1, y)] from Cel.cons (C7.out.get 0 _ rfl) (Cel.cons (C7.out.get 1 _ rfl) (fun q hq => by cases hq)))
              go_wp2_with fail
              go_roundw
              case rel => exact ⟨k + 1, by omega, by go_num, B7, PP, hh⟩
              case measure => simp [intOf]; omega
            | true =>
              have cx0 : W7.cell? ⟨wr.heap.size + 1 + 1 + 1, 0, none⟩ = some (.int .i64 (px c)) := C7.out.get 6 _ rfl
              have cy0 : W7.cell? ⟨wr.heap.size + 1 + 1 + 1, 1, none⟩ = some (.int .i64 (py c)) := C7.out.get 7 _ rfl
              go_wp2_with fail
              refine (far_any _ _ _).mono ?_
              rintro e W8 ⟨rfl, hbb⟩
              have C8 := hid (C7.out.step hbb)
              have B8 := bstep B7 hbb
              clear hbb C7 B7 cx0 cy0
              cases f3 : (nearB (px c) && nearB (py c)) with
              | false =>
                have hh := hid (hN.out (a, b, c) (hit_far (.inr (.inr (.inr f3)))) rfl)
                have PP := hid (show Cel W8 [(w.heap.size, 0, x), (w.heap.size, 1, y)] from Cel.cons (C8.out.get 0 _ rfl) (Cel.cons (C8.out.get 1 _ rfl) (fun q hq => by cases hq)))
                go_wp2_with fail
                go_roundw
                case rel => exact ⟨k + 1, by omega, by go_num, B8, PP, hh⟩
                case measure => simp [intOf]; omega
              | true =>
                have HH := hid (hit_near (n := n) f0 f1 f2 f3 (by omega) (by omega) (by omega))
                rw [Bool.and_eq_true, nearB_iff, nearB_iff] at f0 f1 f2 f3
                have K1 := hid (rturn_any (px a) (py a) (px b) (py b) (px c) (py c) f1.1 f1.2 f2.1 f2.2 f3.1 f3.2)
                have K2 := hid (rturn_any (px a) (py a) (px b) (py b) x y f1.1 f1.2 f2.1 f2.2 f0.1 f0.2)
                have K3 := hid (rturn_any (px b) (py b) (px c) (py c) x y f2.1 f2.2 f3.1 f3.2 f0.1 f0.2)
                have K4 := hid (rturn_any (px c) (py c) (px a) (py a) x y f3.1 f3.2 f1.1 f1.2 f0.1 f0.2)
                clear f0 f1 f2 f3
                generalize tw (px a) (py a) (px b) (py b) (px c) (py c) = T1 at *
                generalize tw (px a) (py a) (px b) (py b) x y = T2 at *
                generalize tw (px b) (py b) (px c) (py c) x y = T3 at *
                generalize tw (px c) (py c) (px a) (py a) x y = T4 at *
                have ax0 : W8.cell? ⟨wr.heap.size + 1, 0, none⟩ = some (.int .i64 (px a)) := C8.out.get 2 _ rfl
                have ay0 : W8.cell? ⟨wr.heap.size + 1, 1, none⟩ = some (.int .i64 (py a)) := C8.out.get 3 _ rfl
                have bx0 : W8.cell? ⟨wr.heap.size + 1 + 1, 0, none⟩ = some (.int .i64 (px b)) := C8.out.get 4 _ rfl
                have by0 : W8.cell? ⟨wr.heap.size + 1 + 1, 1, none⟩ = some (.int .i64 (py b)) := C8.out.get 5 _ rfl
                have cx0 : W8.cell? ⟨wr.heap.size + 1 + 1 + 1, 0, none⟩ = some (.int .i64 (px c)) := C8.out.get 6 _ rfl
                have cy0 : W8.cell? ⟨wr.heap.size + 1 + 1 + 1, 1, none⟩ = some (.int .i64 (py c)) := C8.out.get 7 _ rfl
                go_wp2_with fail
                refine (K1.out _).mono ?_
                rintro e W9 ⟨rfl, hbb⟩
                have C9 := hid (C8.out.step hbb)
                have B9 := bstep B8 hbb
                clear hbb C8 B8 K1 ax0 ay0 bx0 by0 cx0 cy0
                have ax0 : W9.cell? ⟨wr.heap.size + 1, 0, none⟩ = some (.int .i64 (px a)) := C9.out.get 2 _ rfl
                have ay0 : W9.cell? ⟨wr.heap.size + 1, 1, none⟩ = some (.int .i64 (py a)) := C9.out.get 3 _ rfl
                have bx0 : W9.cell? ⟨wr.heap.size + 1 + 1, 0, none⟩ = some (.int .i64 (px b)) := C9.out.get 4 _ rfl
                have by0 : W9.cell? ⟨wr.heap.size + 1 + 1, 1, none⟩ = some (.int .i64 (py b)) := C9.out.get 5 _ rfl
                have px0 : W9.cell? ⟨w.heap.size, 0, none⟩ = some (.int .i64 x) := C9.out.get 0 _ rfl
                have py0 : W9.cell? ⟨w.heap.size, 1, none⟩ = some (.int .i64 y) := C9.out.get 1 _ rfl
                go_wp2_with fail
                refine (K2.out _).mono ?_
                rintro e W10 ⟨rfl, hbb⟩
                have C10 := hid (C9.out.step hbb)
                have B10 := bstep B9 hbb
                clear hbb C9 B9 K2 ax0 ay0 bx0 by0 px0 py0
                have bx0 : W10.cell? ⟨wr.heap.size + 1 + 1, 0, none⟩ = some (.int .i64 (px b)) := C10.out.get 4 _ rfl
                have by0 : W10.cell? ⟨wr.heap.size + 1 + 1, 1, none⟩ = some (.int .i64 (py b)) := C10.out.get 5 _ rfl
                have cx0 : W10.cell? ⟨wr.heap.size + 1 + 1 + 1, 0, none⟩ = some (.int .i64 (px c)) := C10.out.get 6 _ rfl
                have cy0 : W10.cell? ⟨wr.heap.size + 1 + 1 + 1, 1, none⟩ = some (.int .i64 (py c)) := C10.out.get 7 _ rfl
                have px0 : W10.cell? ⟨w.heap.size, 0, none⟩ = some (.int .i64 x) := C10.out.get 0 _ rfl
                have py0 : W10.cell? ⟨w.heap.size, 1, none⟩ = some (.int .i64 y) := C10.out.get 1 _ rfl
                go_wp2_with fail
                refine (K3.out _).mono ?_
                rintro e W11 ⟨rfl, hbb⟩
                have C11 := hid (C10.out.step hbb)
                have B11 := bstep B10 hbb
                clear hbb C10 B10 K3 bx0 by0 cx0 cy0 px0 py0
                have cx0 : W11.cell? ⟨wr.heap.size + 1 + 1 + 1, 0, none⟩ = some (.int .i64 (px c)) := C11.out.get 6 _ rfl
                have cy0 : W11.cell? ⟨wr.heap.size + 1 + 1 + 1, 1, none⟩ = some (.int .i64 (py c)) := C11.out.get 7 _ rfl
                have ax0 : W11.cell? ⟨wr.heap.size + 1, 0, none⟩ = some (.int .i64 (px a)) := C11.out.get 2 _ rfl
                have ay0 : W11.cell? ⟨wr.heap.size + 1, 1, none⟩ = some (.int .i64 (py a)) := C11.out.get 3 _ rfl
                have px0 : W11.cell? ⟨w.heap.size, 0, none⟩ = some (.int .i64 x) := C11.out.get 0 _ rfl
                have py0 : W11.cell? ⟨w.heap.size, 1, none⟩ = some (.int .i64 y) := C11.out.get 1 _ rfl
                go_wp2_with fail
                refine (K4.out _).mono ?_
                rintro e W12 ⟨rfl, hbb⟩
                have C12 := hid (C11.out.step hbb)
                have B12 := bstep B11 hbb
                clear hbb C11 B11 K4 cx0 cy0 ax0 ay0 px0 py0
                by_cases d1 : 0 < T1
                rotate_left
                · have hh := hid (hN.out (a, b, c) (HH.out.trans (by simp; omega)) rfl)
                  have PP := hid (show Cel W12 [(w.heap.size, 0, x), (w.heap.size, 1, y)] from Cel.cons (C12.out.get 0 _ rfl) (Cel.cons (C12.out.get 1 _ rfl) (fun q hq => by cases hq)))
                  go_wp2_with fail
                  go_roundw
                  case rel => exact ⟨k + 1, by omega, by go_num, B12, PP, hh⟩
                  case measure => simp [intOf]; omega
                by_cases d2 : 0 ≤ T2
                rotate_left
                · have hh := hid (hN.out (a, b, c) (HH.out.trans (by simp; omega)) rfl)
                  have PP := hid (show Cel W12 [(w.heap.size, 0, x), (w.heap.size, 1, y)] from Cel.cons (C12.out.get 0 _ rfl) (Cel.cons (C12.out.get 1 _ rfl) (fun q hq => by cases hq)))
                  go_wp2_with fail
                  go_roundw
                  case rel => exact ⟨k + 1, by omega, by go_num, B12, PP, hh⟩
                  case measure => simp [intOf]; omega
                by_cases d3 : 0 ≤ T3
                rotate_left
                · have hh := hid (hN.out (a, b, c) (HH.out.trans (by simp; omega)) rfl)
                  have PP := hid (show Cel W12 [(w.heap.size, 0, x), (w.heap.size, 1, y)] from Cel.cons (C12.out.get 0 _ rfl) (Cel.cons (C12.out.get 1 _ rfl) (fun q hq => by cases hq)))
                  go_wp2_with fail
                  go_roundw
                  case rel => exact ⟨k + 1, by omega, by go_num, B12, PP, hh⟩
                  case measure => simp [intOf]; omega
                by_cases d4 : 0 ≤ T4
                rotate_left
                · have hh := hid (hN.out (a, b, c) (HH.out.trans (by simp; omega)) rfl)
                  have PP := hid (show Cel W12 [(w.heap.size, 0, x), (w.heap.size, 1, y)] from Cel.cons (C12.out.get 0 _ rfl) (Cel.cons (C12.out.get 1 _ rfl) (fun q hq => by cases hq)))
                  go_wp2_with fail
                  go_roundw
                  case rel => exact ⟨k + 1, by omega, by go_num, B12, PP, hh⟩
                  case measure => simp [intOf]; omega
                have hh := hid (hY.out (a, b, c) (HH.out.trans (by simp; omega)) rfl)
                go_wp2_with fail
                go_ret
                exact ⟨by rw [hh.out]; rfl, B12.out⟩
    · have hkm : k = m := by omega
      subst hkm
      go_wp2
      go_ret
      exact ⟨by rw [loc_miss HA.out]; rfl, HB.out⟩
end Go.Proofs.YtdbebbbceeopaaaGreat
