import Derived.Test.YtdbebbbceeopaaaGreatShelf
import Derived.Test.YtdbebbbceeopaaaGreatE
import Derived.Deep.RegionWith
namespace Go.Proofs.YtdbebbbceeopaaaGreat
open Go.RowKit Go.Shelf
open Go.Sort (grow Holds putRow SWO PermIn SortedIn alloc_eq_grow cell?_grow cell?_putRow_other)
open Flt (Is)


theorem grow_any (n : Nat) (w : World) (h0 : 0 < n) (hn : n ≤ 1000) :
    Calls Tryz.prog 96 #[.slice none 0 0, .int .i64 n] w fun e w' => ∃ v, e = .returned v ∧ Below w.heap.size w w' ∧ w'.ownsRow w.heap.size 3 1 v 0 [] := by
  obtain ⟨i0, hi, hz0, hz1, hz2⟩ := info_parts Tryz.info3
  have h := Any8.slices_Grow_grow Tryz.growL i0 (.int .i64 0) hi hz0 (by omega) none 0 0 n [] w (Nat.le_refl _) (by omega) (by rw [hz2]; omega) (by omega) (by simp) (fun _ => rfl) (fun a ha => by cases ha)
  change Calls Tryz.prog 96 _ _ _ at h
  refine h.mono ?_
  rintro e w' ⟨rfl, rfl⟩
  have hge := grownCap_ge w (0 + n) 0 (Tryz.growL_ren.t 25)
  have hle := grownCap_le_maxLen w (0 + n) 0 (Tryz.growL_ren.t 25) (by unfold maxLen; omega)
  refine ⟨_, rfl, (Below.refl _ _).drew.alloc (Nat.le_refl _) _, rfl, .inr ⟨_, _, _, rfl, Nat.le_refl _, heap_alloc_new w.drew _, Nat.zero_le _, hle, ?_, by simp⟩⟩
  simp only [Array.size_append, size_zeroCells]
  show _ + _ * 1 + _ * 1 = _
  simp at hge ⊢
  omega

theorem addr_add0 (g j : Nat) : (⟨g, 0, none⟩ : Addr).add j = ⟨g, j, none⟩ := by
  unfold Addr.add
  split
  · rename_i h; subst h; rfl
  · simp

theorem own_ge {w : World} {base : Nat} {v : Value} {n : Nat} {xs : List Value} (h : w.ownsRow base 3 1 v n xs) : ∀ k, v.ownBlock = some k → base ≤ k := by
  intro k hk
  rcases h.2 with ⟨rfl, _⟩ | ⟨g', cap', cur, rfl, hbg, _⟩
  · cases hk
  · cases hk; exact hbg

set_option maxRecDepth 100000 in
set_option maxHeartbeats 2000000 in
theorem concat_any (w : World) (sb g1 g2 c1 c2 : Nat) (xs ys : List Nat) (hx : 0 < xs.length) (hy : 0 < ys.length) (hx' : xs.length ≤ 100) (hy' : ys.length ≤ 100) (hsb : sb < w.heap.size) (hg1 : g1 < w.heap.size) (hg2 : g2 < w.heap.size)
    (h1 : w.cell? ⟨sb, 0, none⟩ = some (.slice (some ⟨g1, 0, none⟩) xs.length c1)) (h2 : w.cell? ⟨sb, 1, none⟩ = some (.slice (some ⟨g2, 0, none⟩) ys.length c2))
    (hcx : ∀ j, (hj : j < xs.length) → w.cell? ⟨g1, j, none⟩ = some (encN xs[j])) (hcy : ∀ j, (hj : j < ys.length) → w.cell? ⟨g2, j, none⟩ = some (encN ys[j])) :
    Calls Tryz.prog 64 #[.slice (some ⟨sb, 0, none⟩) 2 2] w fun e w' => ∃ v, e = .returned v ∧ Below w.heap.size w w' ∧ w'.ownsRow w.heap.size 3 1 v (xs.length + ys.length) ((xs ++ ys).map encN) := by
  obtain ⟨i0, hi, hz0, hz1, hz2⟩ := info_parts Tryz.info3
  have HCX := hid hcx
  have HCY := hid hcy
  clear hcx hcy
  obtain ⟨n1, hn1⟩ : ∃ n1, n1 = xs.length := ⟨_, rfl⟩
  obtain ⟨n2, hn2⟩ : ∃ n2, n2 = ys.length := ⟨_, rfl⟩
  have HN1 := hid hn1
  have HN2 := hid hn2
  rw [← hn1] at h1 hx hx'
  rw [← hn2] at h2 hy hy'
  rw [← hn1, ← hn2]
  clear hn1 hn2
  have hgr := hid (grow_any (n1 + n2) w (by omega) (by omega))
  go_enter Tryz.func64, Tryz.ntmps64
  go_wp2
  refine wp_loop_rounds 3 ?_
  rw [rounds_succ]
  go_wp2
  rw [rounds_succ]
  go_wp2
  rw [rounds_succ]
  go_wp2_with fail
  refine (hgr.out).mono ?_
  rintro e w1 ⟨v, rfl, hb, ho⟩
  have k1 : w1.cell? ⟨sb, 0, none⟩ = some (.slice (some ⟨g1, 0, none⟩) n1 c1) := (hb.cell (by exact hsb)).trans h1
  have k2 : w1.cell? ⟨sb, 1, none⟩ = some (.slice (some ⟨g2, 0, none⟩) n2 c2) := (hb.cell (by exact hsb)).trans h2
  have HB := hid hb
  have HO := hid ho
  clear hb ho hgr h1 h2
  go_wp2
  refine wp_loop_rounds 3 ?_
  rw [rounds_succ]
  go_wp2_with (at_builtin; go_must (refine wpList_append_own _ rfl (.tmp 31) (.tmp 32) 25 rfl w.heap.size 3 i0 (.int .i64 0) 1 8 Tryz.underlying25 hi hz0 hz1 hz2 rfl (by decide) v 0 [] rfl HO.out ⟨g1, 0, none⟩ n1 c1 (xs.map encN) rfl (by rw [List.length_map, ← HN1.out]; omega) ?c1 ?c2 ?c3 ?c4 ?c5 ?_))
  case c1 =>
    intro j u hj
    rw [List.getElem?_map, Option.map_eq_some_iff] at hj
    obtain ⟨y, hy1, rfl⟩ := hj
    obtain ⟨hl, rfl⟩ := List.getElem?_eq_some_iff.1 hy1
    have := (HB.out.cell (p := ⟨g1, j, none⟩) (by exact hg1)).trans (HCX.out j hl)
    rw [addr_add0]; exact this
  case c2 => intro u hu; rw [List.mem_map] at hu; obtain ⟨y, _, rfl⟩ := hu; rfl
  case c3 => unfold maxLen; omega
  case c4 => omega
  case c5 => exact HB.out.size
  intro v2 w2 ho2 hg2' _
  have hb2 : Below w.heap.size w w2 := HB.out.grown hg2' HB.out.size (own_ge HO.out)
  have k3 : w2.cell? ⟨sb, 1, none⟩ = some (.slice (some ⟨g2, 0, none⟩) n2 c2) := (hb2.cell (by exact hsb)).trans ((HB.out.cell (by exact hsb)).symm.trans k2)
  have HB2 := hid hb2
  have HO2 := hid ho2
  clear hb2 ho2 hg2' HO HB k1 k2
  go_wp2
  rw [rounds_succ]
  go_wp2_with (at_builtin; go_must (refine wpList_append_own _ rfl (.tmp 31) (.tmp 32) 25 rfl w.heap.size 3 i0 (.int .i64 0) 1 8 Tryz.underlying25 hi hz0 hz1 hz2 rfl (by decide) v2 n1 _ rfl HO2.out ⟨g2, 0, none⟩ n2 c2 (ys.map encN) rfl (by rw [List.length_map, ← HN2.out]; omega) ?c1' ?c2' ?c3' ?c4' ?c5' ?_))
  case c1' =>
    intro j u hj
    rw [List.getElem?_map, Option.map_eq_some_iff] at hj
    obtain ⟨y, hy1, rfl⟩ := hj
    obtain ⟨hl, rfl⟩ := List.getElem?_eq_some_iff.1 hy1
    have := (HB2.out.cell (p := ⟨g2, j, none⟩) (by exact hg2)).trans (HCY.out j hl)
    rw [addr_add0]; exact this
  case c2' => intro u hu; rw [List.mem_map] at hu; obtain ⟨y, _, rfl⟩ := hu; rfl
  case c3' => unfold maxLen; omega
  case c4' => omega
  case c5' => exact HB2.out.size
  intro v3 w3 ho3 hg3' _
  have hb3 : Below w.heap.size w w3 := HB2.out.grown hg3' HB2.out.size (own_ge HO2.out)
  have ho4 : w3.ownsRow w.heap.size 3 1 v3 (n1 + n2) ((xs ++ ys).map encN) := by simpa using ho3
  have HB3 := hid hb3
  have HO3 := hid ho4
  clear hb3 ho3 ho4 hg3' HO2 HB2 k3
  go_wp2
  rw [rounds_succ]
  go_wp2
  go_ret
  exact ⟨_, rfl, HB3.out, HO3.out⟩
theorem leftTurns_len (px py : Nat → Int) (n pb po cap ob ocap len : Nat) (os : List Nat) (hlen : os.length = len) (w : World) (hp : Plc w pb po n px py) (hol : len ≤ 40) (hos : ∀ y ∈ os, y < n) (hob : ob < w.heap.size)
    (hoc : ∀ j, (hj : j < os.length) → w.cell? ⟨ob, j, none⟩ = some (.int .i64 (os[j] : Nat))) :
    Calls Tryz.prog 62 #[.slice (some ⟨pb, po, none⟩) n cap, .slice (some ⟨ob, 0, none⟩) len ocap] w fun e w' =>
      ∃ v, e = .returned v ∧ Below w.heap.size w w' ∧ w'.ownsRow w.heap.size 3 1 v (stk (T px py) os).length ((stk (T px py) os).reverse.map encN) := by
  subst hlen
  exact leftTurns_any px py n pb po cap ob ocap os w hp hol hos hob hoc

/-- The numbers that a row holds. -/
def nums {n : Nat} (d : Array (Fin n)) : List Nat := d.toList.map Fin.val

theorem nums_cell {n : Nat} [NeZero n] {w : World} {g : Nat} {d : Array (Fin n)} (h : Holds encF w g 0 d) : ∀ j, (hj : j < (nums d).length) → w.cell? ⟨g, j, none⟩ = some (.int .i64 ((nums d)[j] : Nat)) := by
  intro j hj
  have hj' : j < d.size := by simpa [nums] using hj
  have := (h j hj').1
  rw [Nat.zero_add] at this
  rw [this]
  simp [encF, nums, hj']

theorem nums_lt {n : Nat} (d : Array (Fin n)) : ∀ y ∈ nums d, y < n := by
  intro y hy
  simp only [nums, List.mem_map] at hy
  obtain ⟨i, _, rfl⟩ := hy
  exact i.isLt

theorem nums_len {n : Nat} (d : Array (Fin n)) : (nums d).length = d.size := by simp [nums]

theorem nums_rev {n : Nat} (d : Array (Fin n)) : nums d.reverse = (nums d).reverse := by simp [nums]

theorem holds_below {n : Nat} [NeZero n] {w w' : World} {g B : Nat} {d : Array (Fin n)} (h : Holds encF w g 0 d) (hb : Below B w w') (hg : g < B) : Holds encF w' g 0 d := by
  intro j hj
  have := h j hj
  exact ⟨(hb.cell (by exact hg)).trans this.1, (hb.frozen (by exact hg)).trans this.2⟩

theorem stk_le (t : Nat → Nat → Nat → Int) (os : List Nat) : (stk t os).length ≤ os.length := by
  have := stk_len t os os.length (Nat.le_refl _)
  rwa [List.take_length] at this

theorem stk_two (t : Nat → Nat → Nat → Int) (os : List Nat) (h : 2 ≤ os.length) : 2 ≤ (stk t os).length := by
  rcases List.eq_nil_or_concat os with rfl | ⟨r, x, rfl⟩
  · simp at h
  · rw [List.concat_eq_append] at *
    rcases List.eq_nil_or_concat r with rfl | ⟨r', y, rfl⟩
    · simp at h
    · rw [List.concat_eq_append, stk_snoc, stk_snoc]
      have : ∀ s, 0 < (popS t x (y :: s)).length := by
        intro s
        induction s generalizing y with
        | nil => simp [popS]
        | cons b r ih =>
          unfold popS
          split
          · simp
          · exact ih b (by simp)
      have := this (popS t y (stk t r'))
      simp only [List.length_cons]
      omega

/-- A slice of numbers that lies in block g, its first cells being xs. -/
structure Row (w : World) (v : Value) (xs : List Nat) : Prop where
  at_ : ∃ g cap, v = .slice (some ⟨g, 0, none⟩) xs.length cap ∧ xs.length ≤ cap ∧ g < w.heap.size ∧ ∀ j, (hj : j < xs.length) → w.cell? ⟨g, j, none⟩ = some (encN xs[j])

theorem row_of_owns {w : World} {base : Nat} {v : Value} {n : Nat} {xs : List Nat} (h : w.ownsRow base 3 1 v n (xs.map encN)) (hn : 0 < n) :
    ∃ g cap, v = .slice (some ⟨g, 0, none⟩) n cap ∧ base ≤ g ∧ g < w.heap.size ∧ n ≤ cap ∧ xs.length = n ∧ ∀ j, (hj : j < xs.length) → w.cell? ⟨g, j, none⟩ = some (encN xs[j]) := by
  obtain ⟨g, cap, rfl, hb, hg, hc⟩ := ownsRow_shape h hn
  have hl : xs.length = n := by simpa using h.1
  refine ⟨g, cap, rfl, hb, hg, hc, hl, fun j hj => ?_⟩
  rw [h.cellAt j (by omega)]
  simp [hj]

theorem owns_base {w : World} {b b' : Nat} {v : Value} {n : Nat} {xs : List Value} (h : w.ownsRow b 3 1 v n xs) (hb : b' ≤ b) : w.ownsRow b' 3 1 v n xs := by
  refine ⟨h.1, ?_⟩
  rcases h.2 with h2 | ⟨g, cap, cur, h1, h2, h3⟩
  · exact .inl h2
  · exact .inr ⟨g, cap, cur, h1, Nat.le_trans hb h2, h3⟩

/-- The hull's corners, as the program gathers them out of the order. -/
def hullOf (t : Nat → Nat → Nat → Int) (os : List Nat) : List Nat := (stk t os).reverse.dropLast ++ (stk t os.reverse).reverse.dropLast

set_option maxRecDepth 100000 in
set_option maxHeartbeats 2000000 in
theorem corners_any (px py : Nat → Int) (n : Nat) [NeZero n] (pb po cap : Nat) (w : World) (hp : Plc w pb po n px py) (hm : n ≤ 40) (h2 : 2 ≤ n) :
    Calls Tryz.prog 34 #[.slice (some ⟨pb, po, none⟩) n cap] w fun e w' =>
      ∃ v, e = .returned v ∧ Below w.heap.size w w' ∧ ∃ d : Array (Fin n), d.size = n ∧ d.toList.Perm (List.finRange n) ∧ SortedIn (ltOf (cfI px py)) 0 n d ∧
        w'.ownsRow w.heap.size 3 1 v (hullOf (T px py) (nums d)).length ((hullOf (T px py) (nums d)).map encN) := by
  have c1 := hid (rightward_any px py n pb po cap w hp hm)
  have HP := hid hp
  have hpb := hp.lt
  clear hp
  go_enter Tryz.func34, Tryz.ntmps34
  go_wp2_with fail
  refine c1.out.mono ?_
  rintro e w1 ⟨rfl, hb1, hs1, d, hd, hperm, hsort, hH⟩
  have c2 := hid (leftTurns_len px py n pb po cap (w.heap.size + 1) n n (nums d) (by rw [nums_len, hd]) w1 (HP.out.below hb1 hpb) hm (nums_lt d) hs1 (nums_cell hH))
  have HH := hid hH
  have HD := hid (And.intro hperm hsort)
  have HB1 := hid hb1
  clear c1 hH hperm hsort hb1
  go_wp2_with fail
  refine c2.out.mono ?_
  rintro e w2 ⟨v1, rfl, hb2, ho1⟩
  obtain ⟨s1, hs1'⟩ : ∃ s1, s1 = stk (T px py) (nums d) := ⟨_, rfl⟩
  rw [← hs1'] at ho1
  have hl1 : 2 ≤ s1.length := by rw [hs1']; exact stk_two _ _ (by rw [nums_len, hd]; exact h2)
  have hl1' : s1.length ≤ 40 := by rw [hs1']; exact Nat.le_trans (stk_le _ _) (by rw [nums_len, hd]; exact hm)
  obtain ⟨g1, cp1, rfl, hg1, hg1', hc1, hlen1, hcells1⟩ := row_of_owns ho1 (by omega)
  have hH2 := holds_below HH.out hb2 hs1
  have hrev := AnyE.slices_Reverse_arr Tryz.revL (encF (n := n)) (fun _ => rfl) (w.heap.size + 1) 0 n d w2 hH2 (by omega)
  change Calls Tryz.prog 63 _ _ _ at hrev
  rw [hd] at hrev
  have c3 := hid hrev
  have HB2 := hid hb2
  have HH2 := hid hH2
  have HS1 := hid hs1'
  have HC1 := hid hcells1
  clear c2 hrev hb2 hH2 ho1 hs1' hcells1 hlen1
  go_wp2_with fail
  refine c3.out.mono ?_
  rintro e w3 ⟨rfl, k3, hw3⟩
  have hsz3 : w3.heap.size = w2.heap.size := by rw [hw3, Sort.size_putRow]; rfl
  have hb02 : Below w.heap.size w w2 := HB1.out.trans (HB2.out.mono HB1.out.size)
  have hb3 : Below w.heap.size w w3 := by rw [hw3]; exact Lib.below_putRow hb02 (by omega)
  have hH3 : Holds (encF (n := n)) w3 (w.heap.size + 1) 0 d.reverse := by rw [hw3]; exact Sort.holds_putRow encF (Sort.ahead w2 k3) _ 0 d d.reverse HH2.out (by simp)
  have hcells3 : ∀ j, (hj : j < s1.reverse.length) → w3.cell? ⟨g1, j, none⟩ = some (encN s1.reverse[j]) := by
    intro j hj
    rw [hw3, cell?_putRow_other _ _ _ _ _ _ (Or.inl (by show g1 ≠ _; omega))]
    exact HC1.out j hj
  have c4 := hid (leftTurns_len px py n pb po cap (w.heap.size + 1) n n (nums d.reverse) (by rw [nums_len]; simp [hd]) w3 (HP.out.below hb3 hpb) hm (nums_lt _) (by omega) (nums_cell hH3))
  have hsz3' : w2.heap.size ≤ w3.heap.size := by omega
  have HB3 := hid hb3
  have HC3 := hid hcells3
  clear c3 hw3 hb02 hb3 hH3 hcells3 HH2 HC1 hsz3 HB1 HB2 HH
  go_wp2_with fail
  refine c4.out.mono ?_
  rintro e w4 ⟨v2, rfl, hb4, ho2⟩
  obtain ⟨s2, hs2'⟩ : ∃ s2, s2 = stk (T px py) (nums d.reverse) := ⟨_, rfl⟩
  rw [← hs2'] at ho2
  have hl2 : 2 ≤ s2.length := by rw [hs2']; exact stk_two _ _ (by rw [nums_len]; simp [hd]; exact h2)
  have hl2' : s2.length ≤ 40 := by rw [hs2']; exact Nat.le_trans (stk_le _ _) (by rw [nums_len]; simp [hd]; exact hm)
  obtain ⟨g2, cp2, rfl, hg2, hg2', hc2, hlen2, hcells2⟩ := row_of_owns ho2 (by omega)
  have HS2 := hid hs2'
  have hb04 : Below w.heap.size w w4 := HB3.out.trans (hb4.mono HB3.out.size)
  have hcells1 : ∀ j, (hj : j < s1.reverse.length) → w4.cell? ⟨g1, j, none⟩ = some (encN s1.reverse[j]) := by
    intro j hj
    rw [hb4.cell (by show g1 < _; omega)]
    exact HC3.out j hj
  have hw4 : w3.heap.size ≤ w4.heap.size := hb4.size
  have HB4 := hid hb04
  have HC1 := hid hcells1
  have HC2 := hid hcells2
  clear c4 HC3 HB3 hb4 hb04 ho2 hs2' hcells1 hcells2 hlen2
  obtain ⟨k1, hk1⟩ : ∃ k1, s1.length = k1 + 1 := ⟨s1.length - 1, by omega⟩
  obtain ⟨k2, hk2⟩ : ∃ k2, s2.length = k2 + 1 := ⟨s2.length - 1, by omega⟩
  rw [hk1, hk2]
  have HK1 := hid hk1
  have HK2 := hid hk2
  have e1 : (k1 : Int) ≤ cp1 := by omega
  have e2 : (k2 : Int) ≤ cp2 := by omega
  have e1' : k1 ≤ cp1 := by omega
  have e2' : k2 ≤ cp2 := by omega
  have e3 : 1 ≤ k1 := by omega
  have e4 : 1 ≤ k2 := by omega
  have e5 : k1 ≤ 40 := by omega
  have e6 : k2 ≤ 40 := by omega
  clear hk1 hk2 hl1 hl2 hc1 hc2
  go_wp2
  have y1 : IntKind.i64.wrap (k1 : Int) = k1 := by rw [IntKind.wrap_i64]; omega
  have y2 : IntKind.i64.wrap (k2 : Int) = k2 := by rw [IntKind.wrap_i64]; omega
  have c5 : Calls Tryz.prog 64 #[.slice (some ⟨w4.heap.size, 0, none⟩) 2 2] (w4.alloc (.cells #[.slice (some ⟨g1, 0, none⟩) k1 cp1, .slice (some ⟨g2, 0, none⟩) k2 cp2] 25)).drew fun e w' =>
      ∃ v, e = .returned v ∧ Below w.heap.size w w' ∧ w'.ownsRow w.heap.size 3 1 v (hullOf (T px py) (nums d)).length ((hullOf (T px py) (nums d)).map encN) := by
    have hx : s1.reverse.dropLast.length = k1 := by simp [HK1.out]
    have hy : s2.reverse.dropLast.length = k2 := by simp [HK2.out]
    have hlt : w4.heap.size < (w4.alloc (.cells #[.slice (some ⟨g1, 0, none⟩) k1 cp1, .slice (some ⟨g2, 0, none⟩) k2 cp2] 25)).drew.heap.size := by
      show _ < (w4.alloc _).heap.size; simp
    have hcell : ∀ g, g < w4.heap.size → ∀ j, (w4.alloc (.cells #[.slice (some ⟨g1, 0, none⟩) k1 cp1, .slice (some ⟨g2, 0, none⟩) k2 cp2] 25)).drew.cell? ⟨g, j, none⟩ = w4.cell? ⟨g, j, none⟩ :=
      fun g hg j => ((Below.refl w4.heap.size w4).alloc (Nat.le_refl _) _).drew.cell (p := ⟨g, j, none⟩) hg
    have h := concat_any (w4.alloc (.cells #[.slice (some ⟨g1, 0, none⟩) k1 cp1, .slice (some ⟨g2, 0, none⟩) k2 cp2] 25)).drew w4.heap.size g1 g2 cp1 cp2 s1.reverse.dropLast s2.reverse.dropLast (by omega) (by omega) (by omega) (by omega) hlt (by omega) (by omega)
      (by rw [hx]; exact World.cell?_alloc_at _ _ _ _ rfl) (by rw [hy]; exact World.cell?_alloc_at _ _ _ _ rfl)
      (by
        intro j hj
        rw [hcell g1 (by omega), HC1.out j (by simp at hj ⊢; omega), List.getElem_dropLast])
      (by
        intro j hj
        rw [hcell g2 hg2', HC2.out j (by simp at hj ⊢; omega), List.getElem_dropLast])
    refine h.mono ?_
    rintro e w5 ⟨v, rfl, hb, ho⟩
    refine ⟨v, rfl, ?_, ?_⟩
    · have hb4 := HB4.out
      exact ((hb4.alloc hb4.size _).drew).trans (hb.mono (by have := hb4.size; omega))
    · have e : hullOf (T px py) (nums d) = s1.reverse.dropLast ++ s2.reverse.dropLast := by
        rw [HS1.out, HS2.out, nums_rev]; rfl
      rw [e, List.length_append]
      exact owns_base ho (by have := HB4.out.size; omega)
  have C5 := hid c5
  clear c5
  go_region_with (go_at_call 64; refine C5.out.mono ?_; rintro e w5 ⟨v, rfl, hr⟩; have HR := hid hr; clear hr)
  all_goals go_wp2
  all_goals go_ret
  all_goals exact ⟨_, rfl, HR.out.1, d, hd, HD.out.1, HD.out.2, HR.out.2⟩
end Go.Proofs.YtdbebbbceeopaaaGreat
