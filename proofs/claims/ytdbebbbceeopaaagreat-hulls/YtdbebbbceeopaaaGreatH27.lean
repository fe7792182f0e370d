import Derived.Test.YtdbebbbceeopaaaGreatH26
set_option linter.unusedSimpArgs false
namespace Go.Proofs.YtdbebbbceeopaaaGreat
open Go.RowKit Go.Maps
open Flt (Is)
open Geo (up bad Wg Mesh Cor Quad flipM)

/-- What a drawn line leaves as it was. -/
structure Dm (w w' : World) (mb bm : Nat) (lv lv' : Value) : Prop where
  os : w'.os = w.os
  tape : w'.tape = w.tape
  output : w'.output = w.output
  size : w.heap.size ≤ w'.heap.size
  block : ∀ k, k < w.heap.size → k ≠ mb → k ≠ bm → lv.ownBlock ≠ some k → w'.heap[k]? = w.heap[k]?
  row : ∀ k, k < w.heap.size → lv'.ownBlock = some k → lv.ownBlock = some k

theorem MapAt.ofBlock {w w' : World} {bm N : Nat} {M : Nat → Nat → Option Nat} (h : MapAt w bm N M) (e : w'.heap[bm]? = w.heap[bm]?) : MapAt w' bm N M := by
  obtain ⟨D, hown, hR⟩ := h
  obtain ⟨es, clock, e1, e2, e3, e4⟩ := hown
  exact ⟨D, ⟨es, clock, e.trans e1, e2, e3, e4⟩, hR⟩

theorem Plc.ofBlock {w w' : World} {pb po n : Nat} {px py : Nat → Int} (h : Plc w pb po n px py) (hs : w.heap.size ≤ w'.heap.size) (e : w'.heap[pb]? = w.heap[pb]?) : Plc w' pb po n px py :=
  ⟨Nat.lt_of_lt_of_le h.lt hs, fun i hi => by
    obtain ⟨r, q, e1, e2, e3⟩ := h.cell i hi
    exact ⟨r, q, (World.cell?_of_block (w := w) (a := ⟨pb, po + i, none⟩) e).trans e1, e2, e3⟩, h.bd⟩

/-- The mesh behind a line that is put to the others. -/
theorem draw_post {w6 w9 : World} {mb bm N pb po n cap gi ci : Nat} {px py : Nat → Int} {M : Nat → Nat → Option Nat} {lv : Value} {ls : List (Nat × Nat)} {x : Nat × Nat} {o : Obj} (h : MeshAt w6 mb bm N pb po n cap px py M lv ls) (hmp : mb ≠ pb) (hlp : lv.ownBlock ≠ some pb)
    (hown : w9.ownsRow (mb + 1) 110 2 (.slice (some ⟨gi, 0, none⟩) (ls.length + 1) ci) (ls.length + 1) (flat ls ++ [.int .i64 x.1, .int .i64 x.2])) (hg : (w6.alloc o).drew.grownBy w9 lv.ownBlock) (hat : lv.ownBlock = some gi ∨ gi = w6.heap.size + 1) :
    MeshAt (w9.setCell ⟨mb, 2, none⟩ (.slice (some ⟨gi, 0, none⟩) (ls.length + 1) ci)) mb bm N pb po n cap px py M (.slice (some ⟨gi, 0, none⟩) (ls.length + 1) ci) (ls ++ [x]) ∧ Dm w6 (w9.setCell ⟨mb, 2, none⟩ (.slice (some ⟨gi, 0, none⟩) (ls.length + 1) ci)) mb bm lv (.slice (some ⟨gi, 0, none⟩) (ls.length + 1) ci) := by
  have own := own_geH h.ln
  have lmb : mb < w6.heap.size := World.block_lt_of_cell? w6 _ h.c0
  have lbm := h.map.lt
  have lpb := h.plc.lt
  have e1 : (w6.alloc o).drew.heap.size = w6.heap.size + 1 := by show (w6.alloc o).heap.size = _; simp
  have blk : ∀ k, k < w6.heap.size → lv.ownBlock ≠ some k → w9.heap[k]? = w6.heap[k]? := fun k hk hne => (hg.block k (by omega) (fun e => hne e.symm)).trans (Below.heap_alloc w6 o k hk)
  have nmb : lv.ownBlock ≠ some mb := fun e => by have := (own mb e).1; omega
  have gmb : gi ≠ mb := by
    rcases hat with k | k
    · intro e; rw [e] at k; exact nmb k
    · omega
  have sz : w6.heap.size ≤ w9.heap.size := by have := hg.size; omega
  have sc : ∀ (u : Value) (k : Nat), k ≠ mb → (w9.setCell ⟨mb, 2, none⟩ u).heap[k]? = w9.heap[k]? := fun u k hk => Below.heap_setCell _ _ _ _ hk
  have ssz : ∀ u : Value, (w9.setCell ⟨mb, 2, none⟩ u).heap.size = w9.heap.size := fun u => by simp [World.setCell]
  have c9 : ∀ off v, w6.cell? ⟨mb, off, none⟩ = some v → w9.cell? ⟨mb, off, none⟩ = some v := fun off v hv => (World.cell?_of_block (w := w6) (a := ⟨mb, off, none⟩) (blk mb lmb nmb)).trans hv
  have f9 : w9.frozen? ⟨mb, 2, none⟩ = false := (World.frozen?_of_block (w := w6) (a := ⟨mb, 2, none⟩) (blk mb lmb nmb)).trans h.f2
  refine ⟨⟨?_, ?_, World.cell?_setCell_same _ _ _ (c9 _ _ h.c2), by rw [World.frozen?_setCell]; exact f9, ?_, ?_, ?_, ?_, h.ne, h.np⟩, ⟨hg.os, hg.tape, hg.output, by rw [ssz]; exact sz, fun k hk k1 k2 k3 => ?_, fun k hk e => ?_⟩⟩
  · rw [World.cell?_setCell_other _ _ _ _ (by simp)]; exact c9 _ _ h.c0
  · rw [World.cell?_setCell_other _ _ _ _ (by simp)]; exact c9 _ _ h.c1
  · have e : flat (ls ++ [x]) = flat ls ++ [.int .i64 x.1, .int .i64 x.2] := by rw [flat_append]; rfl
    rw [e, List.length_append]
    exact hown.kept (row := some mb) ⟨rfl, rfl, rfl, by simp [World.setCell], fun k hk hne => Below.heap_setCell _ _ _ _ (fun e => hne (by rw [e]))⟩ (.inr (by intro e; exact gmb (Option.some.inj e)))
  · intro e
    have e' : gi = bm := Option.some.inj e
    rcases hat with k | k
    · rw [e'] at k; exact h.nl k
    · omega
  · refine h.plc.ofBlock (by rw [ssz]; exact sz) ?_
    rw [sc _ _ (Ne.symm hmp)]
    exact blk pb lpb hlp
  · refine h.map.ofBlock ?_
    rw [sc _ _ (Ne.symm h.ne)]
    exact blk bm lbm h.nl
  · rw [sc _ _ k1]
    exact blk k hk k3
  · have e' : gi = k := Option.some.inj e
    rcases hat with q | q
    · rw [q, e']
    · omega

theorem Dm.before {w w1 w2 w3 : World} {mb bm : Nat} {lv lv' : Value} (h : Dm w2 w3 mb bm lv lv') (hb : Below w.heap.size w w1) (hg : w1.grownBy w2 (some bm)) : Dm w w3 mb bm lv lv' :=
  ⟨h.os.trans (hg.os.trans hb.os), h.tape.trans (hg.tape.trans hb.tape), h.output.trans (hg.output.trans hb.output), Nat.le_trans hb.size (Nat.le_trans hg.size h.size),
    fun k hk k1 k2 k3 => (h.block k (by have := hb.size; have := hg.size; omega) k1 k2 k3).trans ((hg.block k (by have := hb.size; omega) (fun e => k2 (Option.some.inj e))).trans (hb.block k hk)),
    fun k hk e => h.row k (by have := hb.size; have := hg.size; omega) e⟩

theorem ab_new (W1 : World) (S : Nat) (hS : W1.heap.size = S) (a b : Value) : ((W1.alloc (.cells #[a] 94)).alloc (.cells #[b] 94)).drew.cell? ⟨S, 0, none⟩ = some a ∧ ((W1.alloc (.cells #[a] 94)).alloc (.cells #[b] 94)).drew.cell? ⟨S + 1, 0, none⟩ = some b ∧ Below W1.heap.size W1 ((W1.alloc (.cells #[a] 94)).alloc (.cells #[b] 94)).drew ∧ ((W1.alloc (.cells #[a] 94)).alloc (.cells #[b] 94)).drew.heap.size = S + 1 + 1 := by
  refine ⟨?_, ?_, ?_, ?_⟩
  · show ((W1.alloc _).alloc _).cell? _ = _
    rw [World.cell?_alloc_past _ _ _ (by simp; omega), World.cell?_alloc_at _ _ _ _ (by omega)]; rfl
  · show ((W1.alloc _).alloc _).cell? _ = _
    rw [World.cell?_alloc_at _ _ _ _ (by simp; omega)]; rfl
  · exact (((Below.refl _ _).alloc (Nat.le_refl _) _).alloc (by simp) _).drew
  · show ((W1.alloc _).alloc _).heap.size = _
    simp [hS]

set_option maxRecDepth 100000 in
set_option maxHeartbeats 8000000 in
theorem draw_any (mb bm pb po n cap i j : Nat) (px py : Nat → Int) (M0 : Nat → Nat → Option Nat) (lv : Value) (ls : List (Nat × Nat)) (KP : (Nat → Nat → Option Nat) → Prop) (w : World) (hn : n ≤ 40) (hM : MeshAt w mb bm 1600 pb po n cap px py M0 lv ls) (hls : ls.length ≤ 1000) (hm0 : Mesh px py n M0) (hc0 : Cor n M0) (hk0 : KP M0) (hi : i < n) (hj : j < n) (hmp : mb ≠ pb) (hlp : lv.ownBlock ≠ some pb)
    (hKP : ∀ M a b c d, Mesh px py n M → Quad px py M a b c d → crossB px py i j a b = true → KP M → KP (flipM M a b c d)) :
    Calls Tryz.prog 74 #[.pointer (some ⟨mb, 0, none⟩), .agg #[.int .i64 i, .int .i64 j]] w fun e w' => e = .returned (.tuple #[]) ∧
      ∃ M lv', MeshAt w' mb bm 1600 pb po n cap px py M lv' (ls ++ [(i, j)]) ∧ Dm w w' mb bm lv lv' ∧ Mesh px py n M ∧ Cor n M ∧ KP M ∧ ∀ u v, bad px py (crossB px py i j) (away px py i j) M u v = false := by
  obtain ⟨W1, hW1⟩ : ∃ W1 : World, W1 = (w.alloc (.cells #[.pointer (some ⟨mb, 0, none⟩)] 75)).alloc (.cells #[.int .i64 i, .int .i64 j] 110) := ⟨_, rfl⟩
  have B1 : Hid (Below w.heap.size w W1) := hid (by rw [hW1]; exact ((Below.refl _ _).alloc (Nat.le_refl _) _).alloc (by simp) _)
  have S1 : W1.heap.size = w.heap.size + 1 + 1 := by rw [hW1]; simp
  have HM1 := hid (hM.below B1.out)
  have HP := HM1.out.plc
  obtain ⟨ri, ii, ci, Ii, Ii'⟩ := HP.cell i hi
  obtain ⟨rj, ij, cj, Ij, Ij'⟩ := HP.cell j hj
  have k0 := HM1.out.c0
  have x0 : W1.cell? ⟨w.heap.size, 0, none⟩ = some (.pointer (some ⟨mb, 0, none⟩)) := by rw [hW1, World.cell?_alloc_past _ _ _ (by simp), World.cell?_alloc_at _ _ _ _ (by simp)]; rfl
  have x1 : W1.cell? ⟨w.heap.size + 1, 0, none⟩ = some (.int .i64 i) := by rw [hW1, World.cell?_alloc_at _ _ _ _ (by simp)]; rfl
  have x2 : W1.cell? ⟨w.heap.size + 1, 1, none⟩ = some (.int .i64 j) := by rw [hW1, World.cell?_alloc_at _ _ _ _ (by simp)]; rfl
  have gi : (i : Int) < n := by omega
  have gj : (j : Int) < n := by omega
  have gi0 : (0 : Int) ≤ i := by omega
  have gj0 : (0 : Int) ≤ j := by omega
  have l1 := World.block_lt_of_cell? W1 _ k0
  have l2 := World.block_lt_of_cell? W1 _ ci
  have l3 := World.block_lt_of_cell? W1 _ x0
  have l4 := World.block_lt_of_cell? W1 _ x1
  have HM := hid hM
  have HPP := hid HP
  have HII := hid (And.intro (And.intro Ii Ii') (And.intro Ij Ij'))
  clear hM HP Ii Ii' Ij Ij'
  go_enter Tryz.func74, Tryz.ntmps74
  go_wp2_with fail
  rw [← hW1]
  clear hW1
  have t0 : ((W1.alloc (.cells #[.complex .f64 0 0] 94)).alloc (.cells #[.complex .f64 0 0] 94)).cell? ⟨w.heap.size + 1 + 1, 0, none⟩ = some (.complex .f64 0 0) := by
    rw [World.cell?_alloc_past _ _ _ (by simp; omega), World.cell?_alloc_at _ _ _ _ (by omega)]; rfl
  have t1 : ((W1.alloc (.cells #[.complex .f64 0 0] 94)).alloc (.cells #[.complex .f64 0 0] 94)).cell? ⟨w.heap.size + 1 + 1 + 1, 0, none⟩ = some (.complex .f64 0 0) := by
    rw [World.cell?_alloc_at _ _ _ _ (by simp; omega)]; rfl
  have f0 : ((W1.alloc (.cells #[.complex .f64 0 0] 94)).alloc (.cells #[.complex .f64 0 0] 94)).frozen? ⟨w.heap.size + 1 + 1, 0, none⟩ = false := by
    rw [World.frozen?_alloc_past _ _ _ (by simp; omega), World.frozen?_alloc_at _ _ _ _ (by omega)]
  have f1 : ((W1.alloc (.cells #[.complex .f64 0 0] 94)).alloc (.cells #[.complex .f64 0 0] 94)).frozen? ⟨w.heap.size + 1 + 1 + 1, 0, none⟩ = false := by
    rw [World.frozen?_alloc_at _ _ _ _ (by simp; omega)]
  have s0 : ∀ u, (((W1.alloc (.cells #[.complex .f64 0 0] 94)).alloc (.cells #[.complex .f64 0 0] 94)).drew.setCell ⟨w.heap.size + 1 + 1, 0, none⟩ u).cell? ⟨w.heap.size + 1 + 1 + 1, 0, none⟩ = some (.complex .f64 0 0) := fun u => by rw [World.cell?_setCell_far _ _ _ _ (by show _ + 1 + 1 ≠ _ + 1 + 1 + 1; omega)]; exact t1
  have s1 : ∀ u, (((W1.alloc (.cells #[.complex .f64 0 0] 94)).alloc (.cells #[.complex .f64 0 0] 94)).drew.setCell ⟨w.heap.size + 1 + 1 + 1, 0, none⟩ u).cell? ⟨w.heap.size + 1 + 1, 0, none⟩ = some (.complex .f64 0 0) := fun u => by rw [World.cell?_setCell_far _ _ _ _ (by show _ + 1 + 1 + 1 ≠ _ + 1 + 1; omega)]; exact t0
  have t0' : ((W1.alloc (.cells #[.complex .f64 0 0] 94)).alloc (.cells #[.complex .f64 0 0] 94)).drew.cell? ⟨w.heap.size + 1 + 1, 0, none⟩ = some (.complex .f64 0 0) := t0
  have t1' : ((W1.alloc (.cells #[.complex .f64 0 0] 94)).alloc (.cells #[.complex .f64 0 0] 94)).drew.cell? ⟨w.heap.size + 1 + 1 + 1, 0, none⟩ = some (.complex .f64 0 0) := t1
  have f0' : ((W1.alloc (.cells #[.complex .f64 0 0] 94)).alloc (.cells #[.complex .f64 0 0] 94)).drew.frozen? ⟨w.heap.size + 1 + 1, 0, none⟩ = false := f0
  have f1' : ((W1.alloc (.cells #[.complex .f64 0 0] 94)).alloc (.cells #[.complex .f64 0 0] 94)).drew.frozen? ⟨w.heap.size + 1 + 1 + 1, 0, none⟩ = false := f1
  have h0 : ∀ u, (((W1.alloc (.cells #[.complex .f64 0 0] 94)).alloc (.cells #[.complex .f64 0 0] 94)).drew.setCell ⟨w.heap.size + 1 + 1, 0, none⟩ u).frozen? ⟨w.heap.size + 1 + 1 + 1, 0, none⟩ = false := fun u => by rw [World.frozen?_setCell]; exact f1
  have h1 : ∀ u, (((W1.alloc (.cells #[.complex .f64 0 0] 94)).alloc (.cells #[.complex .f64 0 0] 94)).drew.setCell ⟨w.heap.size + 1 + 1 + 1, 0, none⟩ u).frozen? ⟨w.heap.size + 1 + 1, 0, none⟩ = false := fun u => by rw [World.frozen?_setCell]; exact f0
  have hst : ∀ (a : Addr) (m : Mode) (x y : Nat) (w : World), (store a (.complex .f64 x y) m).run Tryz.prog w = stored Tryz.prog w a (.complex .f64 x y) m := fun a m x y w => run_store Tryz.prog w a _ m rfl
  go_region_held3 (fun W => W.cell? ⟨w.heap.size, 0, none⟩ = some (.pointer (some ⟨mb, 0, none⟩)) ∧ W.cell? ⟨w.heap.size + 1, 0, none⟩ = some (.int .i64 i) ∧ W.cell? ⟨w.heap.size + 1, 1, none⟩ = some (.int .i64 j) ∧ W.cell? ⟨mb, 0, none⟩ = some (.slice (some ⟨pb, po, none⟩) n cap) ∧ W.cell? ⟨pb, po + i, none⟩ = some (.complex .f64 ri ii) ∧ W.cell? ⟨pb, po + j, none⟩ = some (.complex .f64 rj ij)) (go_keep) (fail)
  all_goals clear t0 t1 f0 f1 s0 s1 t0' t1' f0' f1' h0 h1 hst
  all_goals
    first
      | (obtain ⟨W4, hW4⟩ : ∃ W4 : World, W4 = ((W1.alloc (.cells #[.complex .f64 ri ii] 94)).alloc (.cells #[.complex .f64 rj ij] 94)).drew := ⟨_, rfl⟩
         rw [← hW4]
         have hAB := ab_new W1 (w.heap.size + 1 + 1) S1 (.complex .f64 ri ii) (.complex .f64 rj ij)
         rw [← hW4] at hAB
         obtain ⟨b3, hb3⟩ : ∃ b3, b3 = w.heap.size + 1 + 1 + 1 := ⟨_, rfl⟩
         obtain ⟨b2, hb2⟩ : ∃ b2, b2 = w.heap.size + 1 + 1 := ⟨_, rfl⟩
         rw [← hb3, ← hb2]
         rw [← hb3, ← hb2] at hAB
         obtain ⟨bA, hbA⟩ : ∃ bA, bA = b2 := ⟨_, rfl⟩
         obtain ⟨bB, hbB⟩ : ∃ bB, bB = b3 := ⟨_, rfl⟩
         rw [← hbA, ← hbB]
         rw [← hbA, ← hbB] at hAB
         have cA : W4.cell? ⟨bA, 0, none⟩ = some (.complex .f64 ri ii) := hAB.1
         have cB : W4.cell? ⟨bB, 0, none⟩ = some (.complex .f64 rj ij) := hAB.2.1)
      | (obtain ⟨W4, hW4⟩ : ∃ W4 : World, W4 = ((W1.alloc (.cells #[.complex .f64 rj ij] 94)).alloc (.cells #[.complex .f64 ri ii] 94)).drew := ⟨_, rfl⟩
         rw [← hW4]
         have hAB := ab_new W1 (w.heap.size + 1 + 1) S1 (.complex .f64 rj ij) (.complex .f64 ri ii)
         rw [← hW4] at hAB
         obtain ⟨b3, hb3⟩ : ∃ b3, b3 = w.heap.size + 1 + 1 + 1 := ⟨_, rfl⟩
         obtain ⟨b2, hb2⟩ : ∃ b2, b2 = w.heap.size + 1 + 1 := ⟨_, rfl⟩
         rw [← hb3, ← hb2]
         rw [← hb3, ← hb2] at hAB
         obtain ⟨bA, hbA⟩ : ∃ bA, bA = b3 := ⟨_, rfl⟩
         obtain ⟨bB, hbB⟩ : ∃ bB, bB = b2 := ⟨_, rfl⟩
         rw [← hbA, ← hbB]
         rw [← hbA, ← hbB] at hAB
         have cA : W4.cell? ⟨bA, 0, none⟩ = some (.complex .f64 ri ii) := hAB.2.1
         have cB : W4.cell? ⟨bB, 0, none⟩ = some (.complex .f64 rj ij) := hAB.1)
    have b4 := hAB.2.2.1
    have z4 : W4.heap.size = w.heap.size + 4 := by have := hAB.2.2.2; omega
    have lA : w.heap.size < bA := by omega
    have lB : w.heap.size < bB := by omega
    have B4 : Hid (Below w.heap.size w W4) := hid (B1.out.trans (b4.mono B1.out.size))
    have cM := (b4.cell l3).trans x0
    have cL := (b4.cell l4).trans x1
    have cL' := (b4.cell l4).trans x2
    clear hAB hW4 hb3 hb2 hbA hbB b4 x0 x1 x2 ci cj k0 S1 l1 l2 l3 l4
    have hsf : ∀ (a : Addr) (m : Mode) (w : World), (store a (.func (.func 107) #[] #[.pointer (some ⟨bA, 0, none⟩), .pointer (some ⟨bB, 0, none⟩)]) m).run Tryz.prog w = stored Tryz.prog w a (.func (.func 107) #[] #[.pointer (some ⟨bA, 0, none⟩), .pointer (some ⟨bB, 0, none⟩)]) m := fun a m w => run_store Tryz.prog w a _ m rfl
    go_wp2_with fail
    obtain ⟨W5, hW5⟩ : ∃ W5 : World, W5 = W4.alloc (.cells #[.func (.func 107) #[] #[.pointer (some ⟨bA, 0, none⟩), .pointer (some ⟨bB, 0, none⟩)]] 140) := ⟨_, rfl⟩
    rw [← hW5]
    have B5 : Below w.heap.size w W5 := by rw [hW5]; exact B4.out.alloc B4.out.size _
    have z5 : W5.heap.size = w.heap.size + 5 := by rw [hW5]; simp; omega
    have cH : W5.cell? ⟨w.heap.size + 4, 0, none⟩ = some (.func (.func 107) #[] #[.pointer (some ⟨bA, 0, none⟩), .pointer (some ⟨bB, 0, none⟩)]) := by rw [hW5]; exact World.cell?_alloc_at _ _ _ _ (by omega)
    have cA5 : W5.cell? ⟨bA, 0, none⟩ = some (.complex .f64 ri ii) := by rw [hW5]; exact cell_new cA
    have cB5 : W5.cell? ⟨bB, 0, none⟩ = some (.complex .f64 rj ij) := by rw [hW5]; exact cell_new cB
    have cM5 : W5.cell? ⟨w.heap.size, 0, none⟩ = some (.pointer (some ⟨mb, 0, none⟩)) := by rw [hW5]; exact cell_new cM
    have cL5 : W5.cell? ⟨w.heap.size + 1, 0, none⟩ = some (.int .i64 i) := by rw [hW5]; exact cell_new cL
    have cL5' : W5.cell? ⟨w.heap.size + 1, 1, none⟩ = some (.int .i64 j) := by rw [hW5]; exact cell_new cL'
    have HM5 := hid (HM.out.below B5)
    have bml : bm < w.heap.size := HM.out.map.lt
    have keep : ∀ (W : World), Below W5.heap.size W5 W ∨ W5.grownBy W (some bm) → ∀ (b o : Nat) (v : Value), w.heap.size ≤ b → W5.cell? ⟨b, o, none⟩ = some v → W.cell? ⟨b, o, none⟩ = some v := fun W hW b o v hb hv => by
      rcases hW with h | h
      · exact (h.cell (World.block_lt_of_cell? W5 _ hv)).trans hv
      · exact h.cell hv (fun e => by have e' : b = bm := Option.some.inj e; omega)
    have TA := hid (turnLine_any mb bm pb po n cap px py (away px py i j) M0 lv ls (crossB px py i j) KP #[] #[.pointer (some ⟨w.heap.size, 0, none⟩), .pointer (some ⟨bA, 0, none⟩), .pointer (some ⟨bB, 0, none⟩), .pointer (some ⟨w.heap.size + 4, 0, none⟩)] W5 hn HM5.out hm0 hc0 hk0 (Geo.bowl_line i j) (fun u => by unfold away; omega) (fun u v => crossB_symm px py i j u v) hKP
      (fun W M u v hMW hmm hfr hu hv => inLine_any mb bm 1600 pb po n cap u v i j w.heap.size bA bB (w.heap.size + 4) px py M lv ls W hn hMW hu hv hi hj (fun a b c e => (hmm.lts e).2.2) ri ii rj ij HII.out.1.1 HII.out.1.2 HII.out.2.1 HII.out.2.2 (keep W hfr _ _ _ (Nat.le_refl _) cM5) (keep W hfr _ _ _ (by omega) cA5) (keep W hfr _ _ _ (by omega) cB5) (keep W hfr _ _ _ (by omega) cH)))
    refine TA.out.mono ?_
    rintro e w6 ⟨rfl, hg6, M, hM6, hm6, hc6, hk6, hbad⟩
    have c6M := keep w6 (.inr hg6) _ _ _ (Nat.le_refl _) cM5
    have c6L := keep w6 (.inr hg6) _ _ _ (by omega) cL5
    have c6L' := keep w6 (.inr hg6) _ _ _ (by omega) cL5'
    have HM6 := hid hM6
    have HX := hid (And.intro hm6 (And.intro hc6 (And.intro hk6 hbad)))
    have HG6 := hid hg6
    have HB5 := hid B5
    have k2 := hM6.c2
    have f2 := hM6.f2
    have HZ := hid z5
    clear TA keep cA cB cM cL cL' cA5 cB5 cM5 cL5 cL5' cH hW5 hM6 hm6 hc6 hk6 hbad hg6 B5 z5 z4 lA lB hsf HM5 B4
    obtain ⟨a1, c1, hlv⟩ := owns_len2 HM6.out.ln
    obtain ⟨i8, hi8, hz80, hz81, hz82⟩ := info_parts Tryz.info110
    have l6 : mb < w6.heap.size := World.block_lt_of_cell? w6 _ k2
    have own6 := own_geH HM6.out.ln
    have NW := hid (news2 w6 (.int .i64 (i : Nat)) (.int .i64 (j : Nat)))
    have NH := hid (show (w6.alloc (.cells #[.int .i64 (i : Nat), .int .i64 (j : Nat)] 110)).drew.heap.size = w6.heap.size + 1 by show (w6.alloc _).heap.size = _; simp)
    have N1 := hid (show ∀ u ∈ [Value.int .i64 (i : Nat), .int .i64 (j : Nat)], u.oneCell' = true by
      intro u hu
      simp at hu
      rcases hu with rfl | rfl <;> rfl)
    have CB := hid (show (w6.alloc (.cells #[.int .i64 (i : Nat), .int .i64 (j : Nat)] 110)).drew.cell? ⟨mb, 2, none⟩ = some lv from (((Below.refl w6.heap.size w6).alloc (Nat.le_refl _) _).drew.cell (p := ⟨mb, 2, none⟩) l6).trans k2)
    have FB := hid (show (w6.alloc (.cells #[.int .i64 (i : Nat), .int .i64 (j : Nat)] 110)).drew.frozen? ⟨mb, 2, none⟩ = false from (((Below.refl w6.heap.size w6).alloc (Nat.le_refl _) _).drew.frozen (p := ⟨mb, 2, none⟩) l6).trans f2)
    have VB := hid (show some mb ≠ lv.ownBlock from fun e => by have := (own6 mb e.symm).1; omega)
    have POST := hid (fun gi ci w9 => draw_post (w9 := w9) (gi := gi) (ci := ci) (x := (i, j)) (o := .cells #[.int .i64 (i : Nat), .int .i64 (j : Nat)] 110) HM6.out hmp hlp)
    have HO := hid HM6.out.ln
    have nem : ¬ w6.heap.size = mb := by omega
    obtain ⟨m, hm⟩ : ∃ m, m = ls.length := ⟨_, rfl⟩
    rw [← hm] at HO POST hls hlv
    subst hlv
    have nlv : ∀ q, w.heap.size ≤ q → (Value.slice a1 m c1).ownBlock ≠ some q := fun q hq e => by have := (own_geH HM.out.ln q e).2; omega
    have nsz : mb ≠ w.heap.size := by have := World.block_lt_of_cell? w _ HM.out.c0; have : mb < w.heap.size := this; omega
    have nsz1 : mb ≠ w.heap.size + 1 := by have := World.block_lt_of_cell? w _ HM.out.c0; have : mb < w.heap.size := this; omega
    clear own6 hm
    go_wp2_with fail
    have START : w6.drew.cell? ⟨w.heap.size, 0, none⟩ = some (.pointer (some ⟨mb, 0, none⟩)) ∧ w6.drew.cell? ⟨w.heap.size + 1, 0, none⟩ = some (.int .i64 (i : Nat)) ∧ w6.drew.cell? ⟨w.heap.size + 1, 1, none⟩ = some (.int .i64 (j : Nat)) := ⟨c6M, c6L, c6L'⟩
    have kd : w6.drew.cell? ⟨mb, 2, none⟩ = some (.slice a1 m c1) := k2
    have S2 : (w6.drew.alloc (.cells #[.int .i64 (i : Nat), .int .i64 (j : Nat)] 110)).cell? ⟨w.heap.size, 0, none⟩ = some (.pointer (some ⟨mb, 0, none⟩)) ∧ (w6.drew.alloc (.cells #[.int .i64 (i : Nat), .int .i64 (j : Nat)] 110)).cell? ⟨w.heap.size + 1, 0, none⟩ = some (.int .i64 (i : Nat)) ∧ (w6.drew.alloc (.cells #[.int .i64 (i : Nat), .int .i64 (j : Nat)] 110)).cell? ⟨w.heap.size + 1, 1, none⟩ = some (.int .i64 (j : Nat)) := ⟨cell_new (w := w6.drew) c6M, cell_new (w := w6.drew) c6L, cell_new (w := w6.drew) c6L'⟩
    refine wp_region_held_drew (S := (fun W => W.cell? ⟨w.heap.size, 0, none⟩ = some (.pointer (some ⟨mb, 0, none⟩)) ∧ W.cell? ⟨w.heap.size + 1, 0, none⟩ = some (.int .i64 (i : Nat)) ∧ W.cell? ⟨w.heap.size + 1, 1, none⟩ = some (.int .i64 (j : Nat)))) (by kernel_rfl) START (fun hHeld => ?_)
    clear hHeld
    refine wpAnyH_take (i := 0) (v := .pointer (some ⟨mb, 0, none⟩)) rfl (by kernel_rfl) (by kernel_rfl) (by kernel_rfl) (fun _ _ _ h => h) (Or.inl ⟨by kernel_rfl, ?_⟩) (by assumption) ?_
    · intro W hSw
      try dsimp only at hSw
      go_simp
    try simp only [Act.put, List.setIfInBounds_toArray, List.set_cons_zero, List.set_cons_succ]
    refine wpAnyH_take (i := 1) (v := .pointer (some ⟨mb, 0, none⟩)) rfl (by kernel_rfl) (by kernel_rfl) (by kernel_rfl) (fun _ _ _ h => h) (Or.inl ⟨by kernel_rfl, ?_⟩) (by assumption) ?_
    · intro W hSw
      try dsimp only at hSw
      go_simp
    try simp only [Act.put, List.setIfInBounds_toArray, List.set_cons_zero, List.set_cons_succ]
    refine wpAnyH_take (i := 2) (v := .pointer (some ⟨mb, 0, none⟩)) rfl (by kernel_rfl) (by kernel_rfl) (by kernel_rfl) (fun _ _ _ h => h) (Or.inl ⟨by kernel_rfl, ?_⟩) (by assumption) ?_
    · intro W hSw
      try dsimp only at hSw
      go_simp
    try simp only [Act.put, List.setIfInBounds_toArray, List.set_cons_zero, List.set_cons_succ]
    refine wpAnyH_take (i := 3) (v := .pointer (some ⟨mb, 2, none⟩)) rfl (by kernel_rfl) (by kernel_rfl) (by kernel_rfl) (fun _ _ _ h => h) (Or.inl ⟨by kernel_rfl, ?_⟩) (by assumption) ?_
    · intro W hSw
      try dsimp only at hSw
      go_simp
    try simp only [Act.put, List.setIfInBounds_toArray, List.set_cons_zero, List.set_cons_succ]
    refine wpAnyH_take (i := 5) (v := .agg #[.int .i64 (i : Nat), .int .i64 (j : Nat)]) rfl (by kernel_rfl) (by kernel_rfl) (by kernel_rfl) (fun _ _ _ h => h) (Or.inl ⟨by kernel_rfl, ?_⟩) (by assumption) ?_
    · intro W hSw
      try dsimp only at hSw
      go_simp
    try simp only [Act.put, List.setIfInBounds_toArray, List.set_cons_zero, List.set_cons_succ]
    have kd2 : (w6.drew.alloc (.cells #[.int .i64 (i : Nat), .int .i64 (j : Nat)] 110)).cell? ⟨mb, 2, none⟩ = some (.slice a1 m c1) := cell_new (w := w6.drew) k2
    refine wpAnyH_ready (rs := [4, 6]) (by kernel_rfl) (by simp) ?_
    refine AllReadyH.cons rfl (fun K hK => ?_) (AllReadyH.cons rfl (fun K hK => ?_) AllReadyH.nil)
    go_simp
    refine hK.out _ _ (by assumption) (fun hHeld => ?_)
    clear hK K hHeld
    try simp only [Act.put, List.setIfInBounds_toArray, List.set_cons_zero, List.set_cons_succ]
    refine wpAnyH_ready (rs := [6]) (by kernel_rfl) (by simp) ?_
    refine AllReadyH.cons rfl (fun K hK => ?_) AllReadyH.nil
    go_simp
    refine hK.out _ _ (by assumption) (fun hHeld => ?_)
    clear hK K hHeld
    try simp only [Act.put, List.setIfInBounds_toArray, List.set_cons_zero, List.set_cons_succ]
    rotate_left
    go_simp
    refine hK.out _ _ (by assumption) (fun hHeld => ?_)
    clear hK K hHeld
    try simp only [Act.put, List.setIfInBounds_toArray, List.set_cons_zero, List.set_cons_succ]
    refine wpAnyH_ready (rs := [4]) (by kernel_rfl) (by simp) ?_
    refine AllReadyH.cons rfl (fun K hK => ?_) AllReadyH.nil
    go_simp
    refine hK.out _ _ (by assumption) (fun hHeld => ?_)
    clear hK K hHeld
    try simp only [Act.put, List.setIfInBounds_toArray, List.set_cons_zero, List.set_cons_succ]
    all_goals
      refine wpAnyH_ready (rs := [7]) (by kernel_rfl) (by simp) ?_
      refine AllReadyH.cons rfl (fun K hK => ?_) AllReadyH.nil
      refine step_append_lies _ (by rfl) (.tmp 31) (.tmp 33) 103 (by rfl) (mb + 1) 110 i8 (.agg #[.int .i64 0, .int .i64 0]) 2 16 Tryz.underlying103 hi8 hz80 hz81 hz82 (by rfl) (by decide) (.slice a1 m c1) m (flat ls) (by rfl) (HO.out.alloc _) ⟨w6.heap.size, 0, none⟩ 1 1 [.int .i64 (i : Nat), .int .i64 (j : Nat)] (by rfl) (by rfl) NW.out N1.out (by decide) (by unfold maxLen; omega) (by omega) (by have := NH.out; show _ ≤ (w6.alloc _).heap.size; simp; omega) (w6.heap.size + 1) (by show (w6.alloc _).heap.size = _; simp) ?_
      intro gi ci w9 hown9 hgrow9 hat hlt9
      have S9 : w9.cell? ⟨w.heap.size, 0, none⟩ = some (.pointer (some ⟨mb, 0, none⟩)) ∧ w9.cell? ⟨w.heap.size + 1, 0, none⟩ = some (.int .i64 (i : Nat)) ∧ w9.cell? ⟨w.heap.size + 1, 1, none⟩ = some (.int .i64 (j : Nat)) := ⟨hgrow9.cell (a := ⟨w.heap.size, 0, none⟩) S2.1 (fun e => nlv _ (Nat.le_refl _) e.symm), hgrow9.cell (a := ⟨w.heap.size + 1, 0, none⟩) S2.2.1 (fun e => nlv _ (Nat.le_succ _) e.symm), hgrow9.cell (a := ⟨w.heap.size + 1, 1, none⟩) S2.2.2 (fun e => nlv _ (Nat.le_succ _) e.symm)⟩
      have cb9 : w9.cell? ⟨mb, 2, none⟩ = some (.slice a1 m c1) := hgrow9.cell (a := ⟨mb, 2, none⟩) CB.out VB.out
      have fb9 : w9.frozen? ⟨mb, 2, none⟩ = false := (World.frozen?_of_block (w := (w6.alloc (.cells #[.int .i64 (i : Nat), .int .i64 (j : Nat)] 110)).drew) (a := ⟨mb, 2, none⟩) (hgrow9.block mb (by have := NH.out; show _ < (w6.alloc _).heap.size; simp; omega) VB.out)).trans FB.out
      have HPOST := hid (POST.out gi ci w9 hown9 hgrow9 hat)
      refine hK.out _ _ S9 (fun hHeld => ?_)
      clear hK K hHeld hown9 hgrow9 hat hlt9 S2 START
      try simp only [Act.put, List.setIfInBounds_toArray, List.set_cons_zero, List.set_cons_succ]
      have S10 : (w9.setCell ⟨mb, 2, none⟩ (.slice (some ⟨gi, 0, none⟩) (m + 1) ci)).cell? ⟨w.heap.size, 0, none⟩ = some (.pointer (some ⟨mb, 0, none⟩)) ∧ (w9.setCell ⟨mb, 2, none⟩ (.slice (some ⟨gi, 0, none⟩) (m + 1) ci)).cell? ⟨w.heap.size + 1, 0, none⟩ = some (.int .i64 (i : Nat)) ∧ (w9.setCell ⟨mb, 2, none⟩ (.slice (some ⟨gi, 0, none⟩) (m + 1) ci)).cell? ⟨w.heap.size + 1, 1, none⟩ = some (.int .i64 (j : Nat)) := ⟨(World.cell?_setCell_far _ _ _ _ nsz).trans S9.1, (World.cell?_setCell_far _ _ _ _ nsz1).trans S9.2.1, (World.cell?_setCell_far _ _ _ _ nsz1).trans S9.2.2⟩
      refine wpAnyH_take (i := 8) (v := .pointer (some ⟨mb, 0, none⟩)) rfl (by kernel_rfl) (by kernel_rfl) (by kernel_rfl) (fun _ _ _ h => h) (Or.inl ⟨by kernel_rfl, ?_⟩) (by assumption) ?_
      · intro W hSw
        try dsimp only at hSw
        go_simp
      try simp only [Act.put, List.setIfInBounds_toArray, List.set_cons_zero, List.set_cons_succ]
      refine wpAnyH_take (i := 9) (v := .pointer (some ⟨mb, 2, none⟩)) rfl (by kernel_rfl) (by kernel_rfl) (by kernel_rfl) (fun _ _ _ h => h) (Or.inl ⟨by kernel_rfl, ?_⟩) (by assumption) ?_
      · intro W hSw
        try dsimp only at hSw
        go_simp
      try simp only [Act.put, List.setIfInBounds_toArray, List.set_cons_zero, List.set_cons_succ]
      refine wpAnyH_ready (rs := [10]) (by kernel_rfl) (by simp) ?_
      refine AllReadyH.cons rfl (fun K hK => ?_) AllReadyH.nil
      go_simp
      refine hK.out _ _ (by assumption) (fun hHeld => ?_)
      clear hK K hHeld
      refine wpAnyH_done (by kernel_rfl) ?_ _
      go_wp2_with fail
      go_end0
      exact ⟨rfl, M, _, HPOST.out.1, HPOST.out.2.before HB5.out HG6.out, HX.out⟩
end Go.Proofs.YtdbebbbceeopaaaGreat
