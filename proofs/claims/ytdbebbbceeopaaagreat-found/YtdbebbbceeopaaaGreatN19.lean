import Derived.Test.YtdbebbbceeopaaaGreatN17
import Derived.Test.YtdbebbbceeopaaaGreatN12
import Derived.Test.YtdbebbbceeopaaaGreatN16
set_option linter.unusedSimpArgs false
namespace Go.Proofs.YtdbebbbceeopaaaGreat
open Go.RowKit Go.Maps Go.Shelf Go.Lib

/-- What a look-up gives. -/
def valM (o : Option Nat) : Int := match o with | some c => (c : Int) | none => 0

theorem Tryz.zero3 (w : World) : (zeroValue 3).run Tryz.prog w = .ok (.int .i64 0) w := Tryz.zeroValue3 w

theorem Reads.at {D : DataW Unit} {M : Nat → Nat → Option Nat} (h : Reads D M) {u v : Nat} (hu : u < 1000) (hv : v < 1000) : D.atKey (klL u v) (.lit (.int .i64 0)) = .lit (.int .i64 (valM (M u v))) := by
  cases e : M u v with
  | some c => exact h.val u v c hu hv e
  | none =>
    have := h.has u v hu hv
    rw [e] at this
    rw [atKey_of_not_has this]; rfl

theorem MapAt.look {w : World} {bm N : Nat} {M : Nat → Nat → Option Nat} (h : MapAt w bm N M) {u v : Nat} (hu : u < 1000) (hv : v < 1000) :
    (Instr.lookup 102 (.map (some bm)) (.agg #[.int .i64 u, .int .i64 v]) true).run Tryz.prog w = .ok (.tuple #[.int .i64 (valM (M u v)), .bool (M u v).isSome]) w := by
  obtain ⟨D, hown, hR⟩ := h
  obtain ⟨x, ps, hrun, hx⟩ := hown.look_ok Tryz.keyed99 Tryz.underlying102 (Tryz.zero3 w) (plainElem_int Tryz.underlying3 (by decide)) (sd_key u v hu hv)
  obtain ⟨c, rfl, hc, _⟩ := plainElem_int_inv Tryz.underlying3 hx
  have e1 := hR.at hu hv
  have e2 := hR.has u v hu hv
  simp only [Prod.mk.injEq] at hc
  have e3 : D.atKey (klL u v) (.lit (.int .i64 0)) = .lit (.int .i64 c) := hc.1
  rw [e1] at e3
  simp at e3
  have e4 : Maps.has D (.string (keyBytes [.int .i64 u, .int .i64 v])) = (M u v).isSome := e2
  rw [e4, ← e3] at hrun
  exact hrun

theorem MapAt.look1 {w : World} {bm N : Nat} {M : Nat → Nat → Option Nat} (h : MapAt w bm N M) {u v : Nat} (hu : u < 1000) (hv : v < 1000) :
    (Instr.lookup 102 (.map (some bm)) (.agg #[.int .i64 u, .int .i64 v]) false).run Tryz.prog w = .ok (.int .i64 (valM (M u v))) w := by
  obtain ⟨D, hown, hR⟩ := h
  obtain ⟨c, hrun, hc, _⟩ := hown.lookup_int Tryz.keyed99 Tryz.underlying102 Tryz.underlying3 (Tryz.zero3 w) (sd_key u v hu hv)
  have e1 := hR.at hu hv
  have e3 : D.atKey (klL u v) (.lit (.int .i64 0)) = .lit (.int .i64 c) := hc
  rw [e1] at e3
  simp at e3
  rw [← e3] at hrun
  exact hrun

theorem MapAt.drop {w : World} {bm N : Nat} {M : Nat → Nat → Option Nat} (h : MapAt w bm N M) {a b : Nat} (ha : a < 1000) (hb : b < 1000) (ty : TypeId) :
    ∃ w', (Builtin.delete_ #[102, 110] ty #[.map (some bm), .agg #[.int .i64 a, .int .i64 b]]).run Tryz.prog w = .ok (.tuple #[]) w' ∧ MapAt w' bm N (delM M a b) ∧ w.grownBy w' (some bm) := by
  obtain ⟨D, hown, hR⟩ := h
  obtain ⟨w', r, o, g⟩ := hown.drop Tryz.keyed99 Tryz.underlying102 (sd_key a b ha hb) ty
  exact ⟨w', r, ⟨_, o, hR.del ha hb⟩, g.grown⟩

set_option maxHeartbeats 400000 in
theorem back_any (u v : Int) (w : World) :
    Calls Tryz.prog 131 #[.agg #[.int .i64 u, .int .i64 v]] w fun e w' => e = .returned (.agg #[.int .i64 v, .int .i64 u]) ∧ Below w.heap.size w w' := by
  go_enter Tryz.func131, Tryz.ntmps131
  go_wp2
  refine bodyPost_ret (v := .agg #[.int .i64 v, .int .i64 u]) ?r rfl ?q
  case r => simp [results, Tryz.results131, go_sem]
  case q => exact ⟨rfl, ((Below.refl _ _).alloc (Nat.le_refl _) _).alloc (by simp) _⟩

theorem MapAt.below {w w' : World} {B bm N : Nat} {M : Nat → Nat → Option Nat} (h : MapAt w bm N M) (hb : Below B w w') (hB : bm < B) : MapAt w' bm N M := by
  obtain ⟨D, hown, hR⟩ := h
  obtain ⟨es, clock, e1, e2, e3, e4⟩ := hown
  exact ⟨D, ⟨es, clock, (hb.block bm hB).trans e1, e2, e3, e4⟩, hR⟩

theorem MapAt.lt {w : World} {bm N : Nat} {M : Nat → Nat → Option Nat} (h : MapAt w bm N M) : bm < w.heap.size := by
  obtain ⟨D, hown, _⟩ := h
  exact hown.lt

/-- A mesh in memory. -/
structure MeshAt (w : World) (mb bm N pb po n cap : Nat) (px py : Nat → Int) (M : Nat → Nat → Option Nat) (lv : Value) (ls : List (Nat × Nat)) : Prop where
  c0 : w.cell? ⟨mb, 0, none⟩ = some (.slice (some ⟨pb, po, none⟩) n cap)
  c1 : w.cell? ⟨mb, 1, none⟩ = some (.map (some bm))
  c2 : w.cell? ⟨mb, 2, none⟩ = some lv
  f2 : w.frozen? ⟨mb, 2, none⟩ = false
  ln : w.ownsRow (mb + 1) 110 2 lv ls.length (flat ls)
  nl : lv.ownBlock ≠ some bm
  plc : Plc w pb po n px py
  map : MapAt w bm N M
  ne : mb ≠ bm
  np : pb ≠ bm

theorem own_lt2 {w : World} {base : Nat} {v : Value} {n : Nat} {xs : List Value} (h : w.ownsRow base 110 2 v n xs) : ∀ g, v.ownBlock = some g → g < w.heap.size := fun g hg => (own_geH h g hg).2

theorem owns_belowH {w w' : World} {S base : Nat} {e : TypeId} {size : Nat} {v : Value} {n : Nat} {xs : List Value} (h : w.ownsRow base e size v n xs) (hb : Below S w w') (hv : ∀ g, v.ownBlock = some g → g < S) : w'.ownsRow base e size v n xs := by
  refine ⟨h.1, ?_⟩
  rcases h.2 with h2 | ⟨g, cap, cur, h1, h2, h3, h4⟩
  · exact .inl h2
  · exact .inr ⟨g, cap, cur, h1, h2, by rw [hb.block g (hv g (by rw [h1]; rfl))]; exact h3, h4⟩

theorem MeshAt.below {w w' : World} {mb bm N pb po n cap : Nat} {px py : Nat → Int} {M : Nat → Nat → Option Nat} {lv : Value} {ls : List (Nat × Nat)} (h : MeshAt w mb bm N pb po n cap px py M lv ls) (hb : Below w.heap.size w w') : MeshAt w' mb bm N pb po n cap px py M lv ls :=
  ⟨(hb.cell (World.block_lt_of_cell? w _ h.c0)).trans h.c0, (hb.cell (World.block_lt_of_cell? w _ h.c1)).trans h.c1, (hb.cell (World.block_lt_of_cell? w _ h.c2)).trans h.c2, (hb.frozen (World.block_lt_of_cell? w _ h.c2)).trans h.f2, owns_belowH h.ln hb (own_lt2 h.ln), h.nl, h.plc.below hb h.plc.lt, h.map.below hb h.map.lt, h.ne, h.np⟩

theorem eqSd : EqlAt Tryz.prog 110 (fun x => .agg (sdC x).toArray) (fun x y => x == y) := by
  refine ⟨fun x y w => ?_, GuardAt.agg _ (by kernel_rfl)⟩
  have u3 := Tryz.underlying3
  have a3 := Tryz.isAgg3
  have z3 := Tryz.sizeOf3
  have hS : Tryz.prog.underlying 110 = some (.struct (Tryz.prog.fieldsOf 110)) := by kernel_rfl
  have hp : Tryz.prog.stoodInHeld 110 = false := by kernel_rfl
  simp only [sdC]
  rw [run_eql_struct, show (10000 : Nat) = 9999 + 1 from rfl, run_equalIn_agg w 9999 110 _ _ hS hp]
  simp only [Program.fieldsOf, Tryz.underlying110]
  go_simp
  obtain ⟨x1, x2⟩ := x
  obtain ⟨y1, y2⟩ := y
  have hb : ((x1, x2) == (y1, y2)) = (x1 == y1 && x2 == y2) := rfl
  rw [hb]
  have c1 : ((x1 : Int) = (y1 : Int)) = (x1 = y1) := by simp [Int.ofNat_inj]
  have c2 : ((x2 : Int) = (y2 : Int)) = (x2 = y2) := by simp [Int.ofNat_inj]
  simp only [c1, c2]
  by_cases h1 : x1 = y1 <;> by_cases h2 : x2 = y2 <;> simp [h1, h2]

set_option maxHeartbeats 400000 in
theorem containsS_nil (x : Nat × Nat) (w : World) :
    Calls Tryz.prog 116 #[.slice none 0 0, .agg #[.int .i64 x.1, .int .i64 x.2]] w fun e w' => e = .returned (.bool false) ∧ Below w.heap.size w w' := by
  generalize (x.1 : Int) = x1
  generalize (x.2 : Int) = x2
  have I : ∀ W : World, Calls Tryz.prog 133 #[.slice none 0 0, .agg #[.int .i64 x1, .int .i64 x2]] W fun e w' => e = .returned (.int .i64 (-1)) ∧ Below W.heap.size W w' := by
    intro W
    go_enter Tryz.func133, Tryz.ntmps133
    go_wp2
    refine wp_loop_rounds 1 ?_
    rw [rounds_succ]
    go_wp2
    go_ret
    exact ⟨rfl, (Below.refl _ _).alloc (Nat.le_refl _) _⟩
  have HI := hid I
  clear I
  go_enter Tryz.func116, Tryz.ntmps116
  go_wp2_with fail
  refine (HI.out _).mono ?_
  rintro e w1 ⟨rfl, hb⟩
  have HB := hid (((Below.refl w.heap.size w).alloc (Nat.le_refl _) (.cells #[.int .i64 x1, .int .i64 x2] 110)).trans (hb.mono (by simp)))
  clear hb
  go_wp2_with fail
  go_ret
  exact ⟨rfl, HB.out⟩

theorem containsS_any (lv : Value) (B : Nat) (ls : List (Nat × Nat)) (x : Nat × Nat) (w : World) (ho : w.ownsRow B 110 2 lv ls.length (flat ls)) (hl : ls.length ≤ 100000) :
    Calls Tryz.prog 116 #[lv, .agg #[.int .i64 x.1, .int .i64 x.2]] w fun e w' => e = .returned (.bool (ls.contains x)) ∧ Below w.heap.size w w' := by
  rcases ho.2 with ⟨rfl, h0⟩ | ⟨g, cap, cur, rfl, _⟩
  · have : ls = [] := List.eq_nil_of_length_eq_zero h0
    subst this
    exact containsS_nil x w
  · have h := AnyQ.slices_Contains Tryz.containsS 2 Tryz.isAgg110 Tryz.sizeOf110 sdC (fun _ => rfl) _ eqSd g 0 ls.length cap ls x w (Nat.le_refl _) (by omega) (by
      intro j hj c v hc
      have e : ls[j]! = ls[j] := by simp [hj]
      rw [e] at hc
      have hg : ls[j]? = some ls[j] := List.getElem?_eq_getElem hj
      match c, hc with
      | 0, hc => simp [sdC] at hc; subst hc; rw [Nat.zero_add, Nat.add_zero]; exact (ho.cellAt (j * 2) (by omega)).trans (flat_get0 ls j _ hg)
      | 1, hc => simp [sdC] at hc; subst hc; rw [Nat.zero_add]; exact (ho.cellAt (j * 2 + 1) (by omega)).trans (flat_get1 ls j _ hg)
      | c + 2, hc => simp [sdC] at hc)
    change Calls Tryz.prog 116 _ _ _ at h
    refine h.mono ?_
    rintro e w' ⟨rfl, hb⟩
    refine ⟨?_, hb⟩
    rw [List.take_length, List.contains_eq_any_beq]

set_option maxRecDepth 100000 in
set_option maxHeartbeats 4000000 in
theorem isBetween_any (mb bm N pb po n cap u v : Nat) (px py : Nat → Int) (M : Nat → Nat → Option Nat) (lv : Value) (ls : List (Nat × Nat)) (w : World) (hn : n ≤ 40) (hM : MeshAt w mb bm N pb po n cap px py M lv ls) (hu : u < n) (hv : v < n) :
    Calls Tryz.prog 110 #[.pointer (some ⟨mb, 0, none⟩), .agg #[.int .i64 u, .int .i64 v]] w fun e w' => e = .returned (.bool ((M u v).isSome && (M v u).isSome)) ∧ Below w.heap.size w w' := by
  obtain ⟨W1, hW1⟩ : ∃ W1 : World, W1 = w.alloc (.cells #[.int .i64 u, .int .i64 v] 110) := ⟨_, rfl⟩
  have B1 : Hid (Below w.heap.size w W1) := hid (by rw [hW1]; exact (Below.refl _ _).alloc (Nat.le_refl _) _)
  have HM1 := hid (hM.below B1.out)
  have HC1 : Hid (Cel W1 [(w.heap.size, 0, u), (w.heap.size, 1, v)]) := hid (by
    rw [hW1]
    exact Cel.cons (World.cell?_alloc_at _ _ _ _ rfl) (Cel.cons (World.cell?_alloc_at _ _ _ _ rfl) (fun q hq => by cases hq)))
  have k1 := HM1.out.c1
  have l1 := HM1.out.map.look (u := u) (v := v) (by omega) (by omega)
  have x0 : W1.cell? ⟨w.heap.size, 0, none⟩ = some (.int .i64 u) := HC1.out.get 0 _ rfl
  have x1 : W1.cell? ⟨w.heap.size, 1, none⟩ = some (.int .i64 v) := HC1.out.get 1 _ rfl
  have HB := hid (back_any (u : Int) (v : Int))
  clear hM
  rw [hW1] at k1 l1 x0 x1
  go_enter Tryz.func110, Tryz.ntmps110
  go_wp2_with fail
  rw [← hW1] at k1 l1 x0 x1 ⊢
  clear hW1
  have l1d : (Instr.lookup 102 (.map (some bm)) (.agg #[.int .i64 u, .int .i64 v]) true).run Tryz.prog W1.drew = .ok (.tuple #[.int .i64 (valM (M u v)), .bool (M u v).isSome]) W1.drew := MapAt.look (w := W1.drew) HM1.out.map (by omega) (by omega)
  go_region
  go_wp2_with fail
  obtain ⟨W2, hW2⟩ : ∃ W2 : World, W2 = W1.drew := ⟨_, rfl⟩
  rw [← hW2]
  have B2 : Hid (Below w.heap.size w W2) := hid (by rw [hW2]; exact B1.out.drew)
  have HM2 : Hid (MeshAt W2 mb bm N pb po n cap px py M lv ls) := hid (by rw [hW2]; exact HM1.out.below (Below.refl _ _).drew)
  have HC2 : Hid (Cel W2 [(w.heap.size, 0, u), (w.heap.size, 1, v)]) := hid (by rw [hW2]; exact HC1.out.step (Below.refl _ _).drew)
  clear hW2 k1 l1 l1d x0 x1
  have k1 := HM2.out.c1
  have x0 : W2.cell? ⟨w.heap.size, 0, none⟩ = some (.int .i64 u) := HC2.out.get 0 _ rfl
  have x1 : W2.cell? ⟨w.heap.size, 1, none⟩ = some (.int .i64 v) := HC2.out.get 1 _ rfl
  have g1 : mb < W2.heap.size := World.block_lt_of_cell? W2 _ k1
  have g2 : w.heap.size < W2.heap.size := World.block_lt_of_cell? W2 _ x0
  have LK : Hid (∀ W', Below W2.heap.size W2 W' → (Instr.lookup 102 (.map (some bm)) (.agg #[.int .i64 v, .int .i64 u]) true).run Tryz.prog W' = .ok (.tuple #[.int .i64 (valM (M v u)), .bool (M v u).isSome]) W') := hid fun W' hb => MapAt.look (HM2.out.below hb).map (by omega) (by omega)
  go_region_held3 (fun w' => w'.cell? ⟨mb, 1, none⟩ = some (.map (some bm)) ∧ w'.cell? ⟨w.heap.size, 0, none⟩ = some (.int .i64 u) ∧ w'.cell? ⟨w.heap.size, 1, none⟩ = some (.int .i64 v)) (go_keep)
    ((go_at_call 131; refine (HB.out _).mono ?_; rintro e w6 ⟨rfl, hb6⟩; have u1 := (hb6.cell (p := ⟨mb, 1, none⟩) g1).trans k1; have u2 := (hb6.cell (p := ⟨w.heap.size, 0, none⟩) g2).trans x0; have u3 := (hb6.cell (p := ⟨w.heap.size, 1, none⟩) g2).trans x1; have l2 := LK.out w6 ((Below.refl _ _).drew.trans hb6); have HB6 := hid hb6; clear hb6))
  have B26 : Hid (Below W2.heap.size W2 w6) := hid ((Below.refl _ _).drew.trans HB6.out)
  have B6 := bstep B2 B26.out
  clear u1 l2 k1 x0 x1 HB6 LK
  generalize valM (M v u) = x
  generalize valM (M u v) = z
  obtain ⟨y, hy⟩ : ∃ y, y = (M v u).isSome := ⟨_, rfl⟩
  obtain ⟨t, ht⟩ : ∃ t, t = (M u v).isSome := ⟨_, rfl⟩
  rw [← hy, ← ht]
  have HY := hid hy
  have HT := hid ht
  clear hy ht
  cases t
  · go_wp2_with fail
    go_ret
    exact ⟨by rw [← HT.out]; rfl, B6.out⟩
  · go_wp2_with fail
    go_ret
    exact ⟨by rw [← HT.out, ← HY.out]; rfl, B6.out⟩
end Go.Proofs.YtdbebbbceeopaaaGreat

set_option linter.unusedSimpArgs false
namespace Go.Proofs.YtdbebbbceeopaaaGreat
open Go.RowKit Go.Maps Geo
variable {px py : Nat → Int} {n : Nat} {M : Nat → Nat → Option Nat}

/-- Each point stays a corner. -/
theorem flip_cor {a b c d : Nat} (q : Quad px py M a b c d) (h : Cor n M) : Cor n (flipM M a b c d) := by
  obtain ⟨q1, q2, q3, q4, q5, q6, q7, q8, n1, n2, n3, n4, n5, n6, _, _⟩ := q
  intro p hp
  obtain ⟨x, y, e⟩ := h p hp
  by_cases k1 : p = a
  · exact ⟨d, c, by rw [k1]; unfold flipM; simp [*, Ne.symm n1, Ne.symm n2, Ne.symm n3, Ne.symm n4, Ne.symm n5, Ne.symm n6]⟩
  · by_cases k2 : p = b
    · exact ⟨c, d, by rw [k2]; unfold flipM; simp [*, Ne.symm n1, Ne.symm n2, Ne.symm n3, Ne.symm n4, Ne.symm n5, Ne.symm n6]⟩
    · by_cases k3 : p = c
      · exact ⟨a, d, by rw [k3]; unfold flipM; simp [*, Ne.symm n1, Ne.symm n2, Ne.symm n3, Ne.symm n4, Ne.symm n5, Ne.symm n6]⟩
      · by_cases k4 : p = d
        · exact ⟨c, a, by rw [k4]; unfold flipM; simp [*, Ne.symm n1, Ne.symm n2, Ne.symm n3, Ne.symm n4, Ne.symm n5, Ne.symm n6]⟩
        · refine ⟨x, y, ?_⟩
          unfold flipM
          rw [if_neg (by omega), if_neg (by omega), if_neg (by omega), if_neg (by omega), if_neg (by omega), if_neg (by omega), if_neg (by omega)]
          exact e

/-- What turnOver does to the map. -/
def turnM (M : Nat → Nat → Option Nat) (a b c d : Nat) : Nat → Nat → Option Nat :=
  putM (putM (putM (putM (putM (putM (delM (delM M a b) b a) a d c) d c a) c a d) d b c) b c d) c d b

theorem turn_flip {a b c d : Nat} (q : Quad px py M a b c d) : turnM M a b c d = flipM M a b c d := by
  obtain ⟨q1, q2, q3, q4, q5, q6, q7, q8, n1, n2, n3, n4, n5, n6, _, _⟩ := q
  funext u v
  unfold turnM flipM putM delM
  grind (splits := 60)

theorem subset_len {α : Type} : ∀ (l r : List α), l.Nodup → (∀ x ∈ l, x ∈ r) → l.length ≤ r.length
  | [], r, _, _ => Nat.zero_le _
  | x :: l, r, hd, hs => by
    obtain ⟨a, b, rfl⟩ := List.append_of_mem (hs x (by simp))
    have hx := List.nodup_cons.1 hd
    have := subset_len l (a ++ b) hx.2 (fun y hy => by
      have h1 := hs y (by simp [hy])
      have h2 : y ≠ x := fun e => hx.1 (e ▸ hy)
      simp at h1 ⊢
      rcases h1 with h | h | h
      · exact .inl h
      · exact absurd h h2
      · exact .inr h)
    simp at this ⊢
    omega

/-- A map of sides of n points has n times n of them at most. -/
theorem MapAt.tight {w : World} {bm N : Nat} (h : MapAt w bm N M) (hM : ∀ u v, u < 1000 → v < 1000 → ¬ (u < 40 ∧ v < 40) → M u v = none) : MapAt w bm 1600 M := by
  obtain ⟨D, hown, hR⟩ := h
  refine ⟨D, ?_, hR⟩
  obtain ⟨l, hD, hpw, hkl⟩ := hown.entries Tryz.keyed99
  obtain ⟨es, clock, e1, e2, e3, e4⟩ := hown
  refine ⟨es, clock, e1, e2, ?_, e4⟩
  have hlen : es.size = l.length := by
    have : D = .map l := hD
    rw [e4] at this
    injection this with this
    rw [← this, length_sorted]
    simp
  rw [hlen]
  have := subset_len (l.map (·.1)) ((List.range 40).flatMap fun u => (List.range 40).map fun v => klL u v) (by
      refine List.nodup_iff_pairwise_ne.2 (List.pairwise_map.2 hpw)) (by
      intro x hx
      obtain ⟨p, hp, rfl⟩ := List.mem_map.1 hx
      have hh : Maps.has D p.1 = true := by
        rw [hD, has_eq, List.any_eq_true]
        exact ⟨p, hp, WideAt.sameKey_self (hkl p hp)⟩
      obtain ⟨u, v, hu, hv, e⟩ := hR.onl p.1 hh
      have h1 := hR.has u v hu hv
      rw [← e, hh] at h1
      have : u < 40 ∧ v < 40 := by
        rcases Classical.em (u < 40 ∧ v < 40) with k | k
        · exact k
        · rw [hM u v hu hv k] at h1; cases h1
      simp only [List.mem_flatMap, List.mem_range, List.mem_map]
      exact ⟨u, this.1, v, this.2, e.symm⟩)
  have e40 : ((List.range 40).flatMap fun u => (List.range 40).map fun v => klL u v).length = 1600 := by
    rw [List.length_flatMap]
    simp only [List.length_map, List.length_range]
    decide
  rw [e40, List.length_map] at this
  exact this

end Go.Proofs.YtdbebbbceeopaaaGreat

set_option linter.unusedSimpArgs false
namespace Go.Proofs.YtdbebbbceeopaaaGreat
open Go.RowKit Go.Maps

set_option maxRecDepth 100000 in
set_option maxHeartbeats 8000000 in
theorem cornersM_any (mb bm N pb po n cap u v c d ru iu rv iv rc ic rd id : Nat) (px py : Nat → Int) (M : Nat → Nat → Option Nat) (lv : Value) (ls : List (Nat × Nat)) (w : World) (hn : n ≤ 40) (hM : MeshAt w mb bm N pb po n cap px py M lv ls) (hu : u < n) (hv : v < n) (hc : c < n) (hd : d < n) (e1 : M u v = some c) (e2 : M v u = some d)
    (cu : w.cell? ⟨pb, po + u, none⟩ = some (.complex .f64 ru iu)) (cv : w.cell? ⟨pb, po + v, none⟩ = some (.complex .f64 rv iv)) (cc : w.cell? ⟨pb, po + c, none⟩ = some (.complex .f64 rc ic)) (cd : w.cell? ⟨pb, po + d, none⟩ = some (.complex .f64 rd id)) :
    Calls Tryz.prog 111 #[.pointer (some ⟨mb, 0, none⟩), .agg #[.int .i64 u, .int .i64 v]] w fun e w' => e = .returned (.tuple #[.complex .f64 ru iu, .complex .f64 rv iv, .complex .f64 rc ic, .complex .f64 rd id]) ∧ Below w.heap.size w w' := by
  obtain ⟨W1, hW1⟩ : ∃ W1 : World, W1 = w.alloc (.cells #[.int .i64 u, .int .i64 v] 110) := ⟨_, rfl⟩
  have B1 : Hid (Below w.heap.size w W1) := hid (by rw [hW1]; exact (Below.refl _ _).alloc (Nat.le_refl _) _)
  have HM1 := hid (hM.below B1.out)
  have HC1 : Hid (Cel W1 [(w.heap.size, 0, u), (w.heap.size, 1, v)]) := hid (by
    rw [hW1]
    exact Cel.cons (World.cell?_alloc_at _ _ _ _ rfl) (Cel.cons (World.cell?_alloc_at _ _ _ _ rfl) (fun q hq => by cases hq)))
  have PL := hM.plc.lt
  have LK : Hid (∀ W', Below W1.heap.size W1 W' → (Instr.lookup 102 (.map (some bm)) (.agg #[.int .i64 v, .int .i64 u]) false).run Tryz.prog W' = .ok (.int .i64 d) W') := hid fun W' hb => by
    have := MapAt.look1 (HM1.out.below hb).map (u := v) (v := u) (by omega) (by omega)
    rw [e2] at this
    exact this
  have LK2 : Hid (∀ W', Below W1.heap.size W1 W' → (Instr.lookup 102 (.map (some bm)) (.agg #[.int .i64 u, .int .i64 v]) false).run Tryz.prog W' = .ok (.int .i64 c) W') := hid fun W' hb => by
    have := MapAt.look1 (HM1.out.below hb).map (u := u) (v := v) (by omega) (by omega)
    rw [e1] at this
    exact this
  have gp : pb < W1.heap.size := Nat.lt_of_lt_of_le PL B1.out.size
  have k0 := HM1.out.c0
  have k1 := HM1.out.c1
  have x0 : W1.cell? ⟨w.heap.size, 0, none⟩ = some (.int .i64 u) := HC1.out.get 0 _ rfl
  have x1 : W1.cell? ⟨w.heap.size, 1, none⟩ = some (.int .i64 v) := HC1.out.get 1 _ rfl
  have pu := (B1.out.cell (p := ⟨pb, po + u, none⟩) PL).trans cu
  have pv := (B1.out.cell (p := ⟨pb, po + v, none⟩) PL).trans cv
  have pc := (B1.out.cell (p := ⟨pb, po + c, none⟩) PL).trans cc
  have pd := (B1.out.cell (p := ⟨pb, po + d, none⟩) PL).trans cd
  have HB := hid (back_any (u : Int) (v : Int))
  have z1 : (u : Int) < n := by omega
  have z2 : (v : Int) < n := by omega
  have z3 : (c : Int) < n := by omega
  have z4 : (d : Int) < n := by omega
  clear hM e1 e2 cu cv cc cd
  go_enter Tryz.func111, Tryz.ntmps111
  go_wp2_with fail
  rw [← hW1]
  clear hW1
  have g1 : mb < W1.heap.size := World.block_lt_of_cell? W1 _ k1
  have g2 : w.heap.size < W1.heap.size := World.block_lt_of_cell? W1 _ x0
  have KEEP : Hid (∀ W', Below W1.heap.size W1 W' → W'.cell? ⟨mb, 0, none⟩ = some (.slice (some ⟨pb, po, none⟩) n cap) ∧ W'.cell? ⟨mb, 1, none⟩ = some (.map (some bm)) ∧ W'.cell? ⟨w.heap.size, 0, none⟩ = some (.int .i64 u) ∧ W'.cell? ⟨w.heap.size, 1, none⟩ = some (.int .i64 v) ∧ W'.cell? ⟨pb, po + u, none⟩ = some (.complex .f64 ru iu) ∧ W'.cell? ⟨pb, po + v, none⟩ = some (.complex .f64 rv iv) ∧ W'.cell? ⟨pb, po + c, none⟩ = some (.complex .f64 rc ic) ∧ W'.cell? ⟨pb, po + d, none⟩ = some (.complex .f64 rd id) ∧ (Instr.lookup 102 (.map (some bm)) (.agg #[.int .i64 u, .int .i64 v]) false).run Tryz.prog W' = .ok (.int .i64 c) W' ∧ (Instr.lookup 102 (.map (some bm)) (.agg #[.int .i64 v, .int .i64 u]) false).run Tryz.prog W' = .ok (.int .i64 d) W') := hid fun W' hb =>
    ⟨(hb.cell (p := ⟨mb, 0, none⟩) g1).trans k0, (hb.cell (p := ⟨mb, 1, none⟩) g1).trans k1, (hb.cell (p := ⟨w.heap.size, 0, none⟩) g2).trans x0, (hb.cell (p := ⟨w.heap.size, 1, none⟩) g2).trans x1, (hb.cell (p := ⟨pb, po + u, none⟩) gp).trans pu, (hb.cell (p := ⟨pb, po + v, none⟩) gp).trans pv, (hb.cell (p := ⟨pb, po + c, none⟩) gp).trans pc, (hb.cell (p := ⟨pb, po + d, none⟩) gp).trans pd, LK2.out W' hb, LK.out W' hb⟩
  have START := KEEP.out W1.drew (Below.refl _ _).drew
  clear k0 k1 x0 x1 pu pv pc pd LK LK2 HM1 HC1
  go_region_held3 (fun W' => W'.cell? ⟨mb, 0, none⟩ = some (.slice (some ⟨pb, po, none⟩) n cap) ∧ W'.cell? ⟨mb, 1, none⟩ = some (.map (some bm)) ∧ W'.cell? ⟨w.heap.size, 0, none⟩ = some (.int .i64 u) ∧ W'.cell? ⟨w.heap.size, 1, none⟩ = some (.int .i64 v) ∧ W'.cell? ⟨pb, po + u, none⟩ = some (.complex .f64 ru iu) ∧ W'.cell? ⟨pb, po + v, none⟩ = some (.complex .f64 rv iv) ∧ W'.cell? ⟨pb, po + c, none⟩ = some (.complex .f64 rc ic) ∧ W'.cell? ⟨pb, po + d, none⟩ = some (.complex .f64 rd id) ∧ (Instr.lookup 102 (.map (some bm)) (.agg #[.int .i64 u, .int .i64 v]) false).run Tryz.prog W' = .ok (.int .i64 c) W' ∧ (Instr.lookup 102 (.map (some bm)) (.agg #[.int .i64 v, .int .i64 u]) false).run Tryz.prog W' = .ok (.int .i64 d) W') (assumption)
    ((go_at_call 131; refine (HB.out _).mono ?_; rintro e w6 ⟨rfl, hb6⟩; have HK := KEEP.out w6 ((Below.refl _ _).drew.trans hb6); have HB6 := hid hb6; clear hb6))
  all_goals
    have B6 := bstep B1 ((Below.refl _ _).drew.trans HB6.out)
    clear HK START
    go_wp2_with fail
    refine bodyPost_ret (v := .tuple #[.complex .f64 ru iu, .complex .f64 rv iv, .complex .f64 rc ic, .complex .f64 rd id]) ?r rfl ?q
    case r => simp [results, Tryz.results111, go_sem]
    case q => exact ⟨rfl, B6.out⟩
end Go.Proofs.YtdbebbbceeopaaaGreat

set_option linter.unusedSimpArgs false
namespace Go.Proofs.YtdbebbbceeopaaaGreat
open Go.RowKit Go.Maps
open Geo (up bad lift)

/-- The sides that are no lines. -/
def okL (ls : List (Nat × Nat)) (u v : Nat) : Bool := !ls.contains (up u v)

theorem okL_symm (ls : List (Nat × Nat)) (u v : Nat) : okL ls u v = okL ls v u := by
  unfold okL up
  rw [Nat.min_comm, Nat.max_comm]

set_option maxRecDepth 100000 in
set_option maxHeartbeats 8000000 in
theorem isPointed_any (mb bm N pb po n cap u v : Nat) (px py : Nat → Int) (M : Nat → Nat → Option Nat) (lv : Value) (ls : List (Nat × Nat)) (w : World) (hn : n ≤ 40) (hM : MeshAt w mb bm N pb po n cap px py M lv ls) (hls : ls.length ≤ 100000) (hu : u < n) (hv : v < n) (hlt : ∀ a b c, M a b = some c → c < n) :
    Calls Tryz.prog 77 #[.pointer (some ⟨mb, 0, none⟩), .agg #[.int .i64 u, .int .i64 v]] w fun e w' => e = .returned (.bool (bad px py (okL ls) (lift px py) M u v)) ∧ Below w.heap.size w w' := by
  obtain ⟨W1, hW1⟩ : ∃ W1 : World, W1 = w.alloc (.cells #[.int .i64 u, .int .i64 v] 110) := ⟨_, rfl⟩
  have B1 : Hid (Below w.heap.size w W1) := hid (by rw [hW1]; exact (Below.refl _ _).alloc (Nat.le_refl _) _)
  have HM1 := hid (hM.below B1.out)
  have HC1 : Hid (Cel W1 [(w.heap.size, 0, u), (w.heap.size, 1, v)]) := hid (by
    rw [hW1]
    exact Cel.cons (World.cell?_alloc_at _ _ _ _ rfl) (Cel.cons (World.cell?_alloc_at _ _ _ _ rfl) (fun q hq => by cases hq)))
  have k2 := HM1.out.c2
  have x0 : W1.cell? ⟨w.heap.size, 0, none⟩ = some (.int .i64 u) := HC1.out.get 0 _ rfl
  have x1 : W1.cell? ⟨w.heap.size, 1, none⟩ = some (.int .i64 v) := HC1.out.get 1 _ rfl
  have g1 : mb < W1.heap.size := World.block_lt_of_cell? W1 _ k2
  have g2 : w.heap.size < W1.heap.size := World.block_lt_of_cell? W1 _ x0
  have KEEP : ∀ W', Below W1.heap.size W1 W' → W'.cell? ⟨mb, 2, none⟩ = some lv ∧ W'.cell? ⟨w.heap.size, 0, none⟩ = some (.int .i64 u) ∧ W'.cell? ⟨w.heap.size, 1, none⟩ = some (.int .i64 v) ∧ Hid (Below W1.heap.size W1 W') := fun W' hb =>
    ⟨(hb.cell (p := ⟨mb, 2, none⟩) g1).trans k2, (hb.cell (p := ⟨w.heap.size, 0, none⟩) g2).trans x0, (hb.cell (p := ⟨w.heap.size, 1, none⟩) g2).trans x1, hid hb⟩
  have tr : ∀ {W W' : World}, Below W1.heap.size W1 W → Below W.heap.size W W' → Below W1.heap.size W1 W' := fun h1 h2 => h1.trans (h2.mono h1.size)
  -- the calls, in worlds of which that holds
  have C106 : Hid (∀ W, (W.cell? ⟨mb, 2, none⟩ = some lv ∧ W.cell? ⟨w.heap.size, 0, none⟩ = some (.int .i64 u) ∧ W.cell? ⟨w.heap.size, 1, none⟩ = some (.int .i64 v) ∧ Hid (Below W1.heap.size W1 W)) → Calls Tryz.prog 106 #[.agg #[.int .i64 u, .int .i64 v]] W fun e w' => e = .returned (.agg #[.int .i64 ((up u v).1 : Nat), .int .i64 ((up u v).2 : Nat)]) ∧ (w'.cell? ⟨mb, 2, none⟩ = some lv ∧ w'.cell? ⟨w.heap.size, 0, none⟩ = some (.int .i64 u) ∧ w'.cell? ⟨w.heap.size, 1, none⟩ = some (.int .i64 v) ∧ Hid (Below W1.heap.size W1 w'))) := hid fun W hS =>
    (upward_any u v W).mono fun e w' h => ⟨h.1, KEEP w' (tr hS.2.2.2.out h.2)⟩
  have C116 : Hid (∀ W, (W.cell? ⟨mb, 2, none⟩ = some lv ∧ W.cell? ⟨w.heap.size, 0, none⟩ = some (.int .i64 u) ∧ W.cell? ⟨w.heap.size, 1, none⟩ = some (.int .i64 v) ∧ Hid (Below W1.heap.size W1 W)) → Calls Tryz.prog 116 #[lv, .agg #[.int .i64 ((up u v).1 : Nat), .int .i64 ((up u v).2 : Nat)]] W fun e w' => e = .returned (.bool (ls.contains (up u v))) ∧ (w'.cell? ⟨mb, 2, none⟩ = some lv ∧ w'.cell? ⟨w.heap.size, 0, none⟩ = some (.int .i64 u) ∧ w'.cell? ⟨w.heap.size, 1, none⟩ = some (.int .i64 v) ∧ Hid (Below W1.heap.size W1 w'))) := hid fun W hS =>
    (containsS_any lv _ ls (up u v) W (HM1.out.below hS.2.2.2.out).ln hls).mono fun e w' h => ⟨h.1, KEEP w' (tr hS.2.2.2.out h.2)⟩
  have C110 : Hid (∀ W, (W.cell? ⟨mb, 2, none⟩ = some lv ∧ W.cell? ⟨w.heap.size, 0, none⟩ = some (.int .i64 u) ∧ W.cell? ⟨w.heap.size, 1, none⟩ = some (.int .i64 v) ∧ Hid (Below W1.heap.size W1 W)) → Calls Tryz.prog 110 #[.pointer (some ⟨mb, 0, none⟩), .agg #[.int .i64 u, .int .i64 v]] W fun e w' => e = .returned (.bool ((M u v).isSome && (M v u).isSome)) ∧ (w'.cell? ⟨mb, 2, none⟩ = some lv ∧ w'.cell? ⟨w.heap.size, 0, none⟩ = some (.int .i64 u) ∧ w'.cell? ⟨w.heap.size, 1, none⟩ = some (.int .i64 v) ∧ Hid (Below W1.heap.size W1 w'))) := hid fun W hS =>
    (isBetween_any mb bm N pb po n cap u v px py M lv ls W hn (HM1.out.below hS.2.2.2.out) hu hv).mono fun e w' h => ⟨h.1, KEEP w' (tr hS.2.2.2.out h.2)⟩
  have START : W1.drew.cell? ⟨mb, 2, none⟩ = some lv ∧ W1.drew.cell? ⟨w.heap.size, 0, none⟩ = some (.int .i64 u) ∧ W1.drew.cell? ⟨w.heap.size, 1, none⟩ = some (.int .i64 v) ∧ Hid (Below W1.heap.size W1 W1.drew) := KEEP _ (Below.refl _ _).drew
  have hbad : bad px py (okL ls) (lift px py) M u v = ((!ls.contains (up u v)) && ((M u v).isSome && (M v u).isSome) && match M u v, M v u with | some c, some d => decide (0 < Geo.Wn px py u v c d) | _, _ => false) := by
    unfold bad okL
    cases M u v <;> cases M v u <;> simp [Geo.Wg_lift]
  have HBAD := hid hbad
  clear hbad k2 x0 x1
  obtain ⟨xu, hxu⟩ : ∃ xu, xu = (up u v).1 := ⟨_, rfl⟩
  obtain ⟨xv, hxv⟩ : ∃ xv, xv = (up u v).2 := ⟨_, rfl⟩
  rw [← hxu, ← hxv] at C106 C116
  clear hxu hxv
  obtain ⟨t, ht⟩ : ∃ t, t = ls.contains (up u v) := ⟨_, rfl⟩
  rw [← ht] at C116 HBAD
  clear ht
  obtain ⟨r, hr⟩ : ∃ r, r = bad px py (okL ls) (lift px py) M u v := ⟨_, rfl⟩
  rw [← hr] at HBAD ⊢
  clear hr
  have FIN := hid (fun W (h : Hid (Below W1.heap.size W1 W)) => (bstep B1 h.out).out)
  cases t
  · obtain ⟨y, hy⟩ : ∃ y, y = ((M u v).isSome && (M v u).isSome) := ⟨_, rfl⟩
    rw [← hy] at C110 HBAD
    have HY := hid hy
    clear hy
    cases y
    · have er : r = false := by rw [HBAD.out]; rfl
      subst er
      clear hM HBAD hlt
      go_enter Tryz.func77, Tryz.ntmps77
      go_wp2_with fail
      rw [← hW1]
      clear hW1
      refine wp_region_held_drew (S := (fun W => W.cell? ⟨mb, 2, none⟩ = some lv ∧ W.cell? ⟨w.heap.size, 0, none⟩ = some (.int .i64 u) ∧ W.cell? ⟨w.heap.size, 1, none⟩ = some (.int .i64 v) ∧ Hid (Below W1.heap.size W1 W))) (by kernel_rfl) START (fun hHeld => ?_)
      clear hHeld
      refine wpAnyH_take (i := 0) (v := .pointer (some ⟨mb, 0, none⟩)) rfl (by kernel_rfl) (by kernel_rfl) (by kernel_rfl) (fun _ _ _ h => h) (Or.inl ⟨by kernel_rfl, ?_⟩) (by assumption) ?_
      · intro W hSw
        try dsimp only at hSw
        go_simp
      try simp only [Act.put, List.setIfInBounds_toArray, List.set_cons_zero, List.set_cons_succ]
      refine wpAnyH_take (i := 1) (v := .pointer (some ⟨mb, 0, none⟩)) rfl (by kernel_rfl) (by kernel_rfl) (by kernel_rfl) (fun _ _ _ h => h) (Or.inl ⟨by kernel_rfl, ?_⟩) (by assumption) ?_
      · intro W hSw
        try dsimp only at hSw
        go_simp
      try simp only [Act.put, List.setIfInBounds_toArray, List.set_cons_zero, List.set_cons_succ]
      refine wpAnyH_take (i := 2) (v := .pointer (some ⟨mb, 2, none⟩)) rfl (by kernel_rfl) (by kernel_rfl) (by kernel_rfl) (fun _ _ _ h => h) (Or.inl ⟨by kernel_rfl, ?_⟩) (by assumption) ?_
      · intro W hSw
        try dsimp only at hSw
        go_simp
      try simp only [Act.put, List.setIfInBounds_toArray, List.set_cons_zero, List.set_cons_succ]
      refine wpAnyH_take (i := 3) (v := lv) rfl (by kernel_rfl) (by kernel_rfl) (by kernel_rfl) (fun _ _ _ h => h) (Or.inl ⟨by kernel_rfl, ?_⟩) (by assumption) ?_
      · intro W hSw
        try dsimp only at hSw
        go_simp
      try simp only [Act.put, List.setIfInBounds_toArray, List.set_cons_zero, List.set_cons_succ]
      refine wpAnyH_take (i := 4) (v := .agg #[.int .i64 u, .int .i64 v]) rfl (by kernel_rfl) (by kernel_rfl) (by kernel_rfl) (fun _ _ _ h => h) (Or.inl ⟨by kernel_rfl, ?_⟩) (by assumption) ?_
      · intro W hSw
        try dsimp only at hSw
        go_simp
      try simp only [Act.put, List.setIfInBounds_toArray, List.set_cons_zero, List.set_cons_succ]
      refine wpAnyH_ready (rs := [5]) (by kernel_rfl) (by simp) ?_
      refine AllReadyH.cons rfl (fun K hK => ?_) AllReadyH.nil
      go_simp
      refine (C106.out _ (by assumption)).mono ?_
      rintro e w6 ⟨rfl, hS6⟩
      refine hK.out _ _ hS6 (fun hHeld => ?_)
      clear hK K hHeld
      try simp only [Act.put, List.setIfInBounds_toArray, List.set_cons_zero, List.set_cons_succ]
      clear START
      refine wpAnyH_ready (rs := [6]) (by kernel_rfl) (by simp) ?_
      refine AllReadyH.cons rfl (fun K hK => ?_) AllReadyH.nil
      go_simp
      refine (C116.out _ (by assumption)).mono ?_
      rintro e w7 ⟨rfl, hS7⟩
      refine hK.out _ _ hS7 (fun hHeld => ?_)
      clear hK K hHeld
      try simp only [Act.put, List.setIfInBounds_toArray, List.set_cons_zero, List.set_cons_succ]
      clear hS6
      refine wpAnyH_take (i := 7) (v := .bool true) rfl (by kernel_rfl) (by kernel_rfl) (by kernel_rfl) (fun _ _ _ h => h) (Or.inl ⟨by kernel_rfl, ?_⟩) (by assumption) ?_
      · intro W hSw
        try dsimp only at hSw
        go_simp
      try simp only [Act.put, List.setIfInBounds_toArray, List.set_cons_zero, List.set_cons_succ]
      refine wpAnyH_take (i := 8) (v := .bool true) rfl (by kernel_rfl) (by kernel_rfl) (by kernel_rfl) (fun _ _ _ h => h) (Or.inl ⟨by kernel_rfl, ?_⟩) (by assumption) ?_
      · intro W hSw
        try dsimp only at hSw
        go_simp
      try simp only [Act.put, List.setIfInBounds_toArray, List.set_cons_zero, List.set_cons_succ]
      refine wpAnyH_take (i := 9) (v := .pointer (some ⟨mb, 0, none⟩)) rfl (by kernel_rfl) (by kernel_rfl) (by kernel_rfl) (fun _ _ _ h => h) (Or.inl ⟨by kernel_rfl, ?_⟩) (by assumption) ?_
      · intro W hSw
        try dsimp only at hSw
        go_simp
      try simp only [Act.put, List.setIfInBounds_toArray, List.set_cons_zero, List.set_cons_succ]
      refine wpAnyH_take (i := 10) (v := .agg #[.int .i64 u, .int .i64 v]) rfl (by kernel_rfl) (by kernel_rfl) (by kernel_rfl) (fun _ _ _ h => h) (Or.inl ⟨by kernel_rfl, ?_⟩) (by assumption) ?_
      · intro W hSw
        try dsimp only at hSw
        go_simp
      try simp only [Act.put, List.setIfInBounds_toArray, List.set_cons_zero, List.set_cons_succ]
      refine wpAnyH_ready (rs := [11]) (by kernel_rfl) (by simp) ?_
      refine AllReadyH.cons rfl (fun K hK => ?_) AllReadyH.nil
      go_simp
      refine (C110.out _ (by assumption)).mono ?_
      rintro e w8 ⟨rfl, hS8⟩
      refine hK.out _ _ hS8 (fun hHeld => ?_)
      clear hK K hHeld
      try simp only [Act.put, List.setIfInBounds_toArray, List.set_cons_zero, List.set_cons_succ]
      clear hS7
      refine wpAnyH_take (i := 12) (v := .bool false) rfl (by kernel_rfl) (by kernel_rfl) (by kernel_rfl) (fun _ _ _ h => h) (Or.inl ⟨by kernel_rfl, ?_⟩) (by assumption) ?_
      · intro W hSw
        try dsimp only at hSw
        go_simp
      try simp only [Act.put, List.setIfInBounds_toArray, List.set_cons_zero, List.set_cons_succ]
      refine wpAnyH_take (i := 13) (v := .bool false) rfl (by kernel_rfl) (by kernel_rfl) (by kernel_rfl) (fun _ _ _ h => h) (Or.inl ⟨by kernel_rfl, ?_⟩) (by assumption) ?_
      · intro W hSw
        try dsimp only at hSw
        go_simp
      try simp only [Act.put, List.setIfInBounds_toArray, List.set_cons_zero, List.set_cons_succ]
      refine wpAnyH_take (i := 14) (v := undef) rfl (by kernel_rfl) (by kernel_rfl) (by kernel_rfl) (fun _ _ _ h => h) (Or.inr ⟨by kernel_rfl, rfl⟩) (by assumption) ?_
      try simp only [Act.put, List.setIfInBounds_toArray, List.set_cons_zero, List.set_cons_succ]
      refine wpAnyH_take (i := 15) (v := undef) rfl (by kernel_rfl) (by kernel_rfl) (by kernel_rfl) (fun _ _ _ h => h) (Or.inr ⟨by kernel_rfl, rfl⟩) (by assumption) ?_
      try simp only [Act.put, List.setIfInBounds_toArray, List.set_cons_zero, List.set_cons_succ]
      refine wpAnyH_take (i := 16) (v := undef) rfl (by kernel_rfl) (by kernel_rfl) (by kernel_rfl) (fun _ _ _ h => h) (Or.inr ⟨by kernel_rfl, rfl⟩) (by assumption) ?_
      try simp only [Act.put, List.setIfInBounds_toArray, List.set_cons_zero, List.set_cons_succ]
      refine wpAnyH_take (i := 17) (v := undef) rfl (by kernel_rfl) (by kernel_rfl) (by kernel_rfl) (fun _ _ _ h => h) (Or.inr ⟨by kernel_rfl, rfl⟩) (by assumption) ?_
      try simp only [Act.put, List.setIfInBounds_toArray, List.set_cons_zero, List.set_cons_succ]
      refine wpAnyH_take (i := 18) (v := undef) rfl (by kernel_rfl) (by kernel_rfl) (by kernel_rfl) (fun _ _ _ h => h) (Or.inr ⟨by kernel_rfl, rfl⟩) (by assumption) ?_
      try simp only [Act.put, List.setIfInBounds_toArray, List.set_cons_zero, List.set_cons_succ]
      refine wpAnyH_take (i := 19) (v := undef) rfl (by kernel_rfl) (by kernel_rfl) (by kernel_rfl) (fun _ _ _ h => h) (Or.inr ⟨by kernel_rfl, rfl⟩) (by assumption) ?_
      try simp only [Act.put, List.setIfInBounds_toArray, List.set_cons_zero, List.set_cons_succ]
      refine wpAnyH_take (i := 20) (v := undef) rfl (by kernel_rfl) (by kernel_rfl) (by kernel_rfl) (fun _ _ _ h => h) (Or.inr ⟨by kernel_rfl, rfl⟩) (by assumption) ?_
      try simp only [Act.put, List.setIfInBounds_toArray, List.set_cons_zero, List.set_cons_succ]
      refine wpAnyH_take (i := 21) (v := undef) rfl (by kernel_rfl) (by kernel_rfl) (by kernel_rfl) (fun _ _ _ h => h) (Or.inr ⟨by kernel_rfl, rfl⟩) (by assumption) ?_
      try simp only [Act.put, List.setIfInBounds_toArray, List.set_cons_zero, List.set_cons_succ]
      refine wpAnyH_ready (rs := [22]) (by kernel_rfl) (by simp) ?_
      refine AllReadyH.cons rfl (fun K hK => ?_) AllReadyH.nil
      go_simp
      refine hK.out _ _ (by assumption) (fun hHeld => ?_)
      clear hK K hHeld
      refine wpAnyH_ready (rs := [23]) (by kernel_rfl) (by simp) ?_
      refine AllReadyH.cons rfl (fun K hK => ?_) AllReadyH.nil
      go_simp
      refine hK.out _ _ (by assumption) (fun hHeld => ?_)
      clear hK K hHeld
      refine wpAnyH_done (by kernel_rfl) ?_ _
      go_wp2_with fail
      go_ret
      exact ⟨rfl, FIN.out _ hS8.2.2.2⟩
    · obtain ⟨c, ec⟩ : ∃ c, M u v = some c := Option.isSome_iff_exists.1 (by have := HY.out; simp at this; exact this.1)
      obtain ⟨d, ed⟩ : ∃ d, M v u = some d := Option.isSome_iff_exists.1 (by have := HY.out; simp at this; exact this.2)
      have hc := hlt _ _ _ ec
      have hd := hlt _ _ _ ed
      have er : r = decide (0 < Geo.Wn px py u v c d) := by rw [HBAD.out, ec, ed]; rfl
      have hP := HM1.out.plc
      obtain ⟨ru, iu, cu, au, au'⟩ := hP.cell u hu
      obtain ⟨rv, iv, cv, av, av'⟩ := hP.cell v hv
      obtain ⟨rc, ic, cc, ac, ac'⟩ := hP.cell c hc
      obtain ⟨rd, id, cd, ad, ad'⟩ := hP.cell d hd
      have hpl := hP.lt
      have C111 : Hid (∀ W, (W.cell? ⟨mb, 2, none⟩ = some lv ∧ W.cell? ⟨w.heap.size, 0, none⟩ = some (.int .i64 u) ∧ W.cell? ⟨w.heap.size, 1, none⟩ = some (.int .i64 v) ∧ Hid (Below W1.heap.size W1 W)) → Calls Tryz.prog 111 #[.pointer (some ⟨mb, 0, none⟩), .agg #[.int .i64 u, .int .i64 v]] W fun e w' => e = .returned (.tuple #[.complex .f64 ru iu, .complex .f64 rv iv, .complex .f64 rc ic, .complex .f64 rd id]) ∧ (w'.cell? ⟨mb, 2, none⟩ = some lv ∧ w'.cell? ⟨w.heap.size, 0, none⟩ = some (.int .i64 u) ∧ w'.cell? ⟨w.heap.size, 1, none⟩ = some (.int .i64 v) ∧ Hid (Below W1.heap.size W1 w'))) := hid fun W hS =>
        (cornersM_any mb bm N pb po n cap u v c d ru iu rv iv rc ic rd id px py M lv ls W hn (HM1.out.below hS.2.2.2.out) hu hv hc hd ec ed ((hS.2.2.2.out.cell (p := ⟨pb, po + u, none⟩) hpl).trans cu) ((hS.2.2.2.out.cell (p := ⟨pb, po + v, none⟩) hpl).trans cv) ((hS.2.2.2.out.cell (p := ⟨pb, po + c, none⟩) hpl).trans cc) ((hS.2.2.2.out.cell (p := ⟨pb, po + d, none⟩) hpl).trans cd)).mono fun e w' h => ⟨h.1, KEEP w' (tr hS.2.2.2.out h.2)⟩
      have C117 : Hid (∀ W, (W.cell? ⟨mb, 2, none⟩ = some lv ∧ W.cell? ⟨w.heap.size, 0, none⟩ = some (.int .i64 u) ∧ W.cell? ⟨w.heap.size, 1, none⟩ = some (.int .i64 v) ∧ Hid (Below W1.heap.size W1 W)) → Calls Tryz.prog 117 #[.complex .f64 ru iu, .complex .f64 rv iv, .complex .f64 rc ic, .complex .f64 rd id] W fun e w' => e = .returned (.bool r) ∧ (w'.cell? ⟨mb, 2, none⟩ = some lv ∧ w'.cell? ⟨w.heap.size, 0, none⟩ = some (.int .i64 u) ∧ w'.cell? ⟨w.heap.size, 1, none⟩ = some (.int .i64 v) ∧ Hid (Below W1.heap.size W1 w'))) := hid fun W hS =>
        (within_any ru iu rv iv rc ic rd id px py u v c d au au' av av' ac ac' ad ad' (hP.bd u hu) (hP.bd v hv) (hP.bd c hc) (hP.bd d hd) W).mono fun e w' h => ⟨by rw [er]; exact h.1, KEEP w' (tr hS.2.2.2.out h.2)⟩
      clear cu cv cc cd au au' av av' ac ac' ad ad' hP er ec ed
      clear hM HBAD hlt
      go_enter Tryz.func77, Tryz.ntmps77
      go_wp2_with fail
      rw [← hW1]
      clear hW1
      refine wp_region_held_drew (S := (fun W => W.cell? ⟨mb, 2, none⟩ = some lv ∧ W.cell? ⟨w.heap.size, 0, none⟩ = some (.int .i64 u) ∧ W.cell? ⟨w.heap.size, 1, none⟩ = some (.int .i64 v) ∧ Hid (Below W1.heap.size W1 W))) (by kernel_rfl) START (fun hHeld => ?_)
      clear hHeld
      refine wpAnyH_take (i := 0) (v := .pointer (some ⟨mb, 0, none⟩)) rfl (by kernel_rfl) (by kernel_rfl) (by kernel_rfl) (fun _ _ _ h => h) (Or.inl ⟨by kernel_rfl, ?_⟩) (by assumption) ?_
      · intro W hSw
        try dsimp only at hSw
        go_simp
      try simp only [Act.put, List.setIfInBounds_toArray, List.set_cons_zero, List.set_cons_succ]
      refine wpAnyH_take (i := 1) (v := .pointer (some ⟨mb, 0, none⟩)) rfl (by kernel_rfl) (by kernel_rfl) (by kernel_rfl) (fun _ _ _ h => h) (Or.inl ⟨by kernel_rfl, ?_⟩) (by assumption) ?_
      · intro W hSw
        try dsimp only at hSw
        go_simp
      try simp only [Act.put, List.setIfInBounds_toArray, List.set_cons_zero, List.set_cons_succ]
      refine wpAnyH_take (i := 2) (v := .pointer (some ⟨mb, 2, none⟩)) rfl (by kernel_rfl) (by kernel_rfl) (by kernel_rfl) (fun _ _ _ h => h) (Or.inl ⟨by kernel_rfl, ?_⟩) (by assumption) ?_
      · intro W hSw
        try dsimp only at hSw
        go_simp
      try simp only [Act.put, List.setIfInBounds_toArray, List.set_cons_zero, List.set_cons_succ]
      refine wpAnyH_take (i := 3) (v := lv) rfl (by kernel_rfl) (by kernel_rfl) (by kernel_rfl) (fun _ _ _ h => h) (Or.inl ⟨by kernel_rfl, ?_⟩) (by assumption) ?_
      · intro W hSw
        try dsimp only at hSw
        go_simp
      try simp only [Act.put, List.setIfInBounds_toArray, List.set_cons_zero, List.set_cons_succ]
      refine wpAnyH_take (i := 4) (v := .agg #[.int .i64 u, .int .i64 v]) rfl (by kernel_rfl) (by kernel_rfl) (by kernel_rfl) (fun _ _ _ h => h) (Or.inl ⟨by kernel_rfl, ?_⟩) (by assumption) ?_
      · intro W hSw
        try dsimp only at hSw
        go_simp
      try simp only [Act.put, List.setIfInBounds_toArray, List.set_cons_zero, List.set_cons_succ]
      refine wpAnyH_ready (rs := [5]) (by kernel_rfl) (by simp) ?_
      refine AllReadyH.cons rfl (fun K hK => ?_) AllReadyH.nil
      go_simp
      refine (C106.out _ (by assumption)).mono ?_
      rintro e w6 ⟨rfl, hS6⟩
      refine hK.out _ _ hS6 (fun hHeld => ?_)
      clear hK K hHeld
      try simp only [Act.put, List.setIfInBounds_toArray, List.set_cons_zero, List.set_cons_succ]
      clear START
      refine wpAnyH_ready (rs := [6]) (by kernel_rfl) (by simp) ?_
      refine AllReadyH.cons rfl (fun K hK => ?_) AllReadyH.nil
      go_simp
      refine (C116.out _ (by assumption)).mono ?_
      rintro e w7 ⟨rfl, hS7⟩
      refine hK.out _ _ hS7 (fun hHeld => ?_)
      clear hK K hHeld
      try simp only [Act.put, List.setIfInBounds_toArray, List.set_cons_zero, List.set_cons_succ]
      clear hS6
      refine wpAnyH_take (i := 7) (v := .bool true) rfl (by kernel_rfl) (by kernel_rfl) (by kernel_rfl) (fun _ _ _ h => h) (Or.inl ⟨by kernel_rfl, ?_⟩) (by assumption) ?_
      · intro W hSw
        try dsimp only at hSw
        go_simp
      try simp only [Act.put, List.setIfInBounds_toArray, List.set_cons_zero, List.set_cons_succ]
      refine wpAnyH_take (i := 8) (v := .bool true) rfl (by kernel_rfl) (by kernel_rfl) (by kernel_rfl) (fun _ _ _ h => h) (Or.inl ⟨by kernel_rfl, ?_⟩) (by assumption) ?_
      · intro W hSw
        try dsimp only at hSw
        go_simp
      try simp only [Act.put, List.setIfInBounds_toArray, List.set_cons_zero, List.set_cons_succ]
      refine wpAnyH_take (i := 9) (v := .pointer (some ⟨mb, 0, none⟩)) rfl (by kernel_rfl) (by kernel_rfl) (by kernel_rfl) (fun _ _ _ h => h) (Or.inl ⟨by kernel_rfl, ?_⟩) (by assumption) ?_
      · intro W hSw
        try dsimp only at hSw
        go_simp
      try simp only [Act.put, List.setIfInBounds_toArray, List.set_cons_zero, List.set_cons_succ]
      refine wpAnyH_take (i := 10) (v := .agg #[.int .i64 u, .int .i64 v]) rfl (by kernel_rfl) (by kernel_rfl) (by kernel_rfl) (fun _ _ _ h => h) (Or.inl ⟨by kernel_rfl, ?_⟩) (by assumption) ?_
      · intro W hSw
        try dsimp only at hSw
        go_simp
      try simp only [Act.put, List.setIfInBounds_toArray, List.set_cons_zero, List.set_cons_succ]
      refine wpAnyH_ready (rs := [11]) (by kernel_rfl) (by simp) ?_
      refine AllReadyH.cons rfl (fun K hK => ?_) AllReadyH.nil
      go_simp
      refine (C110.out _ (by assumption)).mono ?_
      rintro e w8 ⟨rfl, hS8⟩
      refine hK.out _ _ hS8 (fun hHeld => ?_)
      clear hK K hHeld
      try simp only [Act.put, List.setIfInBounds_toArray, List.set_cons_zero, List.set_cons_succ]
      clear hS7
      refine wpAnyH_take (i := 12) (v := .bool true) rfl (by kernel_rfl) (by kernel_rfl) (by kernel_rfl) (fun _ _ _ h => h) (Or.inl ⟨by kernel_rfl, ?_⟩) (by assumption) ?_
      · intro W hSw
        try dsimp only at hSw
        go_simp
      try simp only [Act.put, List.setIfInBounds_toArray, List.set_cons_zero, List.set_cons_succ]
      refine wpAnyH_take (i := 13) (v := .bool true) rfl (by kernel_rfl) (by kernel_rfl) (by kernel_rfl) (fun _ _ _ h => h) (Or.inl ⟨by kernel_rfl, ?_⟩) (by assumption) ?_
      · intro W hSw
        try dsimp only at hSw
        go_simp
      try simp only [Act.put, List.setIfInBounds_toArray, List.set_cons_zero, List.set_cons_succ]
      refine wpAnyH_take (i := 14) (v := .pointer (some ⟨mb, 0, none⟩)) rfl (by kernel_rfl) (by kernel_rfl) (by kernel_rfl) (fun _ _ _ h => h) (Or.inl ⟨by kernel_rfl, ?_⟩) (by assumption) ?_
      · intro W hSw
        try dsimp only at hSw
        go_simp
      try simp only [Act.put, List.setIfInBounds_toArray, List.set_cons_zero, List.set_cons_succ]
      refine wpAnyH_take (i := 15) (v := .agg #[.int .i64 u, .int .i64 v]) rfl (by kernel_rfl) (by kernel_rfl) (by kernel_rfl) (fun _ _ _ h => h) (Or.inl ⟨by kernel_rfl, ?_⟩) (by assumption) ?_
      · intro W hSw
        try dsimp only at hSw
        go_simp
      try simp only [Act.put, List.setIfInBounds_toArray, List.set_cons_zero, List.set_cons_succ]
      refine wpAnyH_ready (rs := [16]) (by kernel_rfl) (by simp) ?_
      refine AllReadyH.cons rfl (fun K hK => ?_) AllReadyH.nil
      go_simp
      refine (C111.out _ (by assumption)).mono ?_
      rintro e w9 ⟨rfl, hS9⟩
      refine hK.out _ _ hS9 (fun hHeld => ?_)
      clear hK K hHeld
      try simp only [Act.put, List.setIfInBounds_toArray, List.set_cons_zero, List.set_cons_succ]
      clear hS8
      refine wpAnyH_take (i := 17) (v := .complex .f64 ru iu) rfl (by kernel_rfl) (by kernel_rfl) (by kernel_rfl) (fun _ _ _ h => h) (Or.inl ⟨by kernel_rfl, ?_⟩) (by assumption) ?_
      · intro W hSw
        try dsimp only at hSw
        go_simp
      try simp only [Act.put, List.setIfInBounds_toArray, List.set_cons_zero, List.set_cons_succ]
      refine wpAnyH_take (i := 18) (v := .complex .f64 rv iv) rfl (by kernel_rfl) (by kernel_rfl) (by kernel_rfl) (fun _ _ _ h => h) (Or.inl ⟨by kernel_rfl, ?_⟩) (by assumption) ?_
      · intro W hSw
        try dsimp only at hSw
        go_simp
      try simp only [Act.put, List.setIfInBounds_toArray, List.set_cons_zero, List.set_cons_succ]
      refine wpAnyH_take (i := 19) (v := .complex .f64 rc ic) rfl (by kernel_rfl) (by kernel_rfl) (by kernel_rfl) (fun _ _ _ h => h) (Or.inl ⟨by kernel_rfl, ?_⟩) (by assumption) ?_
      · intro W hSw
        try dsimp only at hSw
        go_simp
      try simp only [Act.put, List.setIfInBounds_toArray, List.set_cons_zero, List.set_cons_succ]
      refine wpAnyH_take (i := 20) (v := .complex .f64 rd id) rfl (by kernel_rfl) (by kernel_rfl) (by kernel_rfl) (fun _ _ _ h => h) (Or.inl ⟨by kernel_rfl, ?_⟩) (by assumption) ?_
      · intro W hSw
        try dsimp only at hSw
        go_simp
      try simp only [Act.put, List.setIfInBounds_toArray, List.set_cons_zero, List.set_cons_succ]
      refine wpAnyH_ready (rs := [21]) (by kernel_rfl) (by simp) ?_
      refine AllReadyH.cons rfl (fun K hK => ?_) AllReadyH.nil
      go_simp
      refine (C117.out _ (by assumption)).mono ?_
      rintro e w10 ⟨rfl, hS10⟩
      refine hK.out _ _ hS10 (fun hHeld => ?_)
      clear hK K hHeld
      try simp only [Act.put, List.setIfInBounds_toArray, List.set_cons_zero, List.set_cons_succ]
      clear hS9
      refine wpAnyH_ready (rs := [22]) (by kernel_rfl) (by simp) ?_
      refine AllReadyH.cons rfl (fun K hK => ?_) AllReadyH.nil
      go_simp
      refine hK.out _ _ (by assumption) (fun hHeld => ?_)
      clear hK K hHeld
      refine wpAnyH_ready (rs := [23]) (by kernel_rfl) (by simp) ?_
      refine AllReadyH.cons rfl (fun K hK => ?_) AllReadyH.nil
      go_simp
      refine hK.out _ _ (by assumption) (fun hHeld => ?_)
      clear hK K hHeld
      refine wpAnyH_done (by kernel_rfl) ?_ _
      go_wp2_with fail
      go_ret
      exact ⟨rfl, FIN.out _ hS10.2.2.2⟩
  · have er : r = false := by rw [HBAD.out]; rfl
    subst er
    clear hM HBAD hlt
    go_enter Tryz.func77, Tryz.ntmps77
    go_wp2_with fail
    rw [← hW1]
    clear hW1
    refine wp_region_held_drew (S := (fun W => W.cell? ⟨mb, 2, none⟩ = some lv ∧ W.cell? ⟨w.heap.size, 0, none⟩ = some (.int .i64 u) ∧ W.cell? ⟨w.heap.size, 1, none⟩ = some (.int .i64 v) ∧ Hid (Below W1.heap.size W1 W))) (by kernel_rfl) START (fun hHeld => ?_)
    clear hHeld
    refine wpAnyH_take (i := 0) (v := .pointer (some ⟨mb, 0, none⟩)) rfl (by kernel_rfl) (by kernel_rfl) (by kernel_rfl) (fun _ _ _ h => h) (Or.inl ⟨by kernel_rfl, ?_⟩) (by assumption) ?_
    · intro W hSw
      try dsimp only at hSw
      go_simp
    try simp only [Act.put, List.setIfInBounds_toArray, List.set_cons_zero, List.set_cons_succ]
    refine wpAnyH_take (i := 1) (v := .pointer (some ⟨mb, 0, none⟩)) rfl (by kernel_rfl) (by kernel_rfl) (by kernel_rfl) (fun _ _ _ h => h) (Or.inl ⟨by kernel_rfl, ?_⟩) (by assumption) ?_
    · intro W hSw
      try dsimp only at hSw
      go_simp
    try simp only [Act.put, List.setIfInBounds_toArray, List.set_cons_zero, List.set_cons_succ]
    refine wpAnyH_take (i := 2) (v := .pointer (some ⟨mb, 2, none⟩)) rfl (by kernel_rfl) (by kernel_rfl) (by kernel_rfl) (fun _ _ _ h => h) (Or.inl ⟨by kernel_rfl, ?_⟩) (by assumption) ?_
    · intro W hSw
      try dsimp only at hSw
      go_simp
    try simp only [Act.put, List.setIfInBounds_toArray, List.set_cons_zero, List.set_cons_succ]
    refine wpAnyH_take (i := 3) (v := lv) rfl (by kernel_rfl) (by kernel_rfl) (by kernel_rfl) (fun _ _ _ h => h) (Or.inl ⟨by kernel_rfl, ?_⟩) (by assumption) ?_
    · intro W hSw
      try dsimp only at hSw
      go_simp
    try simp only [Act.put, List.setIfInBounds_toArray, List.set_cons_zero, List.set_cons_succ]
    refine wpAnyH_take (i := 4) (v := .agg #[.int .i64 u, .int .i64 v]) rfl (by kernel_rfl) (by kernel_rfl) (by kernel_rfl) (fun _ _ _ h => h) (Or.inl ⟨by kernel_rfl, ?_⟩) (by assumption) ?_
    · intro W hSw
      try dsimp only at hSw
      go_simp
    try simp only [Act.put, List.setIfInBounds_toArray, List.set_cons_zero, List.set_cons_succ]
    refine wpAnyH_ready (rs := [5]) (by kernel_rfl) (by simp) ?_
    refine AllReadyH.cons rfl (fun K hK => ?_) AllReadyH.nil
    go_simp
    refine (C106.out _ (by assumption)).mono ?_
    rintro e w6 ⟨rfl, hS6⟩
    refine hK.out _ _ hS6 (fun hHeld => ?_)
    clear hK K hHeld
    try simp only [Act.put, List.setIfInBounds_toArray, List.set_cons_zero, List.set_cons_succ]
    clear START
    refine wpAnyH_ready (rs := [6]) (by kernel_rfl) (by simp) ?_
    refine AllReadyH.cons rfl (fun K hK => ?_) AllReadyH.nil
    go_simp
    refine (C116.out _ (by assumption)).mono ?_
    rintro e w7 ⟨rfl, hS7⟩
    refine hK.out _ _ hS7 (fun hHeld => ?_)
    clear hK K hHeld
    try simp only [Act.put, List.setIfInBounds_toArray, List.set_cons_zero, List.set_cons_succ]
    clear hS6
    refine wpAnyH_take (i := 7) (v := .bool false) rfl (by kernel_rfl) (by kernel_rfl) (by kernel_rfl) (fun _ _ _ h => h) (Or.inl ⟨by kernel_rfl, ?_⟩) (by assumption) ?_
    · intro W hSw
      try dsimp only at hSw
      go_simp
    try simp only [Act.put, List.setIfInBounds_toArray, List.set_cons_zero, List.set_cons_succ]
    refine wpAnyH_take (i := 8) (v := .bool false) rfl (by kernel_rfl) (by kernel_rfl) (by kernel_rfl) (fun _ _ _ h => h) (Or.inl ⟨by kernel_rfl, ?_⟩) (by assumption) ?_
    · intro W hSw
      try dsimp only at hSw
      go_simp
    try simp only [Act.put, List.setIfInBounds_toArray, List.set_cons_zero, List.set_cons_succ]
    refine wpAnyH_take (i := 9) (v := undef) rfl (by kernel_rfl) (by kernel_rfl) (by kernel_rfl) (fun _ _ _ h => h) (Or.inr ⟨by kernel_rfl, rfl⟩) (by assumption) ?_
    try simp only [Act.put, List.setIfInBounds_toArray, List.set_cons_zero, List.set_cons_succ]
    refine wpAnyH_take (i := 10) (v := undef) rfl (by kernel_rfl) (by kernel_rfl) (by kernel_rfl) (fun _ _ _ h => h) (Or.inr ⟨by kernel_rfl, rfl⟩) (by assumption) ?_
    try simp only [Act.put, List.setIfInBounds_toArray, List.set_cons_zero, List.set_cons_succ]
    refine wpAnyH_take (i := 11) (v := undef) rfl (by kernel_rfl) (by kernel_rfl) (by kernel_rfl) (fun _ _ _ h => h) (Or.inr ⟨by kernel_rfl, rfl⟩) (by assumption) ?_
    try simp only [Act.put, List.setIfInBounds_toArray, List.set_cons_zero, List.set_cons_succ]
    refine wpAnyH_take (i := 12) (v := .bool false) rfl (by kernel_rfl) (by kernel_rfl) (by kernel_rfl) (fun _ _ _ h => h) (Or.inl ⟨by kernel_rfl, ?_⟩) (by assumption) ?_
    · intro W hSw
      try dsimp only at hSw
      go_simp
    try simp only [Act.put, List.setIfInBounds_toArray, List.set_cons_zero, List.set_cons_succ]
    refine wpAnyH_take (i := 13) (v := .bool false) rfl (by kernel_rfl) (by kernel_rfl) (by kernel_rfl) (fun _ _ _ h => h) (Or.inl ⟨by kernel_rfl, ?_⟩) (by assumption) ?_
    · intro W hSw
      try dsimp only at hSw
      go_simp
    try simp only [Act.put, List.setIfInBounds_toArray, List.set_cons_zero, List.set_cons_succ]
    refine wpAnyH_take (i := 14) (v := undef) rfl (by kernel_rfl) (by kernel_rfl) (by kernel_rfl) (fun _ _ _ h => h) (Or.inr ⟨by kernel_rfl, rfl⟩) (by assumption) ?_
    try simp only [Act.put, List.setIfInBounds_toArray, List.set_cons_zero, List.set_cons_succ]
    refine wpAnyH_take (i := 15) (v := undef) rfl (by kernel_rfl) (by kernel_rfl) (by kernel_rfl) (fun _ _ _ h => h) (Or.inr ⟨by kernel_rfl, rfl⟩) (by assumption) ?_
    try simp only [Act.put, List.setIfInBounds_toArray, List.set_cons_zero, List.set_cons_succ]
    refine wpAnyH_take (i := 16) (v := undef) rfl (by kernel_rfl) (by kernel_rfl) (by kernel_rfl) (fun _ _ _ h => h) (Or.inr ⟨by kernel_rfl, rfl⟩) (by assumption) ?_
    try simp only [Act.put, List.setIfInBounds_toArray, List.set_cons_zero, List.set_cons_succ]
    refine wpAnyH_take (i := 17) (v := undef) rfl (by kernel_rfl) (by kernel_rfl) (by kernel_rfl) (fun _ _ _ h => h) (Or.inr ⟨by kernel_rfl, rfl⟩) (by assumption) ?_
    try simp only [Act.put, List.setIfInBounds_toArray, List.set_cons_zero, List.set_cons_succ]
    refine wpAnyH_take (i := 18) (v := undef) rfl (by kernel_rfl) (by kernel_rfl) (by kernel_rfl) (fun _ _ _ h => h) (Or.inr ⟨by kernel_rfl, rfl⟩) (by assumption) ?_
    try simp only [Act.put, List.setIfInBounds_toArray, List.set_cons_zero, List.set_cons_succ]
    refine wpAnyH_take (i := 19) (v := undef) rfl (by kernel_rfl) (by kernel_rfl) (by kernel_rfl) (fun _ _ _ h => h) (Or.inr ⟨by kernel_rfl, rfl⟩) (by assumption) ?_
    try simp only [Act.put, List.setIfInBounds_toArray, List.set_cons_zero, List.set_cons_succ]
    refine wpAnyH_take (i := 20) (v := undef) rfl (by kernel_rfl) (by kernel_rfl) (by kernel_rfl) (fun _ _ _ h => h) (Or.inr ⟨by kernel_rfl, rfl⟩) (by assumption) ?_
    try simp only [Act.put, List.setIfInBounds_toArray, List.set_cons_zero, List.set_cons_succ]
    refine wpAnyH_take (i := 21) (v := undef) rfl (by kernel_rfl) (by kernel_rfl) (by kernel_rfl) (fun _ _ _ h => h) (Or.inr ⟨by kernel_rfl, rfl⟩) (by assumption) ?_
    try simp only [Act.put, List.setIfInBounds_toArray, List.set_cons_zero, List.set_cons_succ]
    refine wpAnyH_ready (rs := [22]) (by kernel_rfl) (by simp) ?_
    refine AllReadyH.cons rfl (fun K hK => ?_) AllReadyH.nil
    go_simp
    refine hK.out _ _ (by assumption) (fun hHeld => ?_)
    clear hK K hHeld
    refine wpAnyH_ready (rs := [23]) (by kernel_rfl) (by simp) ?_
    refine AllReadyH.cons rfl (fun K hK => ?_) AllReadyH.nil
    go_simp
    refine hK.out _ _ (by assumption) (fun hHeld => ?_)
    clear hK K hHeld
    refine wpAnyH_done (by kernel_rfl) ?_ _
    go_wp2_with fail
    go_ret
    exact ⟨rfl, FIN.out _ hS7.2.2.2⟩
end Go.Proofs.YtdbebbbceeopaaaGreat
