import Derived.Test.YtdbebbbceeopaaaGreatN19
import Derived.Test.YtdbebbbceeopaaaGreatN18
import Derived.Carry
set_option linter.unusedSimpArgs false
namespace Go.Proofs.YtdbebbbceeopaaaGreat
open Go.RowKit Go.Maps
open Geo (up)

theorem ranges_same {w w' : World} {k : TypeId} {R : Value → Option (DataW Unit × List MemPlace)} {b r n : Nat} {D : DataW Unit} {left : Lit → Bool} {cnt : Nat} (h : w.ranges Tryz.prog k R b r n D left cnt) (e1 : w'.heap[b]? = w.heap[b]?) (e2 : w'.heap[r]? = w.heap[r]?) : w'.ranges Tryz.prog k R b r n D left cnt := by
  obtain ⟨es, clock, since, seen, c0, hb, F, hs, hD, hr, rest⟩ := h
  exact ⟨es, clock, since, seen, c0, e1.trans hb, F, hs, hD, e2.trans hr, rest⟩

theorem Fm.belowB {w w' : World} {hb B : Nat} {l : List (Nat × Nat)} (h : Fm w w' hb) (hp : Hp w hb l) (hB : B < hb) (hB2 : B ≤ w.heap.size) : Below B w w' := by
  refine ⟨h.os, h.tape, h.output, h.size, fun k hk => h.block k (by omega) (by omega) ?_⟩
  rintro ⟨v, c, e⟩
  obtain ⟨v0, c0, o0⟩ := hp.ex
  rw [c0] at c
  cases c
  have := own_geH o0 _ e
  omega

/-- What comes out of a map of sides: a side that it has, and the corner across. -/
theorem side_of {D : DataW Unit} {M : Nat → Nat → Option Nat} (hR : Reads D M) {key c : Value} {kl : Lit} {y : DataW Unit × List MemPlace} (hk : keyOf Tryz.prog 110 key = some kl) (hh : Maps.has D kl = true) (hc : plainElem Tryz.prog 3 c = some y) (hat : ∀ zd, D.atKey kl zd = y.1) :
    ∃ u v d, u < 1000 ∧ v < 1000 ∧ kl = klL u v ∧ key = .agg #[.int .i64 (u : Nat), .int .i64 (v : Nat)] ∧ M u v = some d ∧ c = .int .i64 (d : Nat) := by
  obtain ⟨u, v, hu, hv, rfl⟩ := hR.onl kl hh
  have h1 := hR.has u v hu hv
  rw [hh] at h1
  obtain ⟨d, hd⟩ := Option.isSome_iff_exists.1 h1.symm
  have e := Tryz.keyed99.inj hk (sd_key u v hu hv)
  obtain ⟨x, rfl, hx, _⟩ := plainElem_int_inv Tryz.underlying3 hc
  have h2 := hat (.lit (.int .i64 0))
  rw [hR.val u v d hu hv hd, hx] at h2
  simp at h2
  exact ⟨u, v, d, hu, hv, rfl, e, hd, by rw [h2]⟩

theorem same_kl {u v a b : Nat} (hu : u < 1000) (hv : v < 1000) (ha : a < 1000) (hb : b < 1000) (h : (klL u v).sameKey (klL a b) = true) : u = a ∧ v = b := kl_inj hu hv ha hb (WideAt.sameKey_eq h)

theorem up_lt {u v : Nat} (h : u < v) : up u v = (u, v) := by unfold up; rw [Nat.min_eq_left (by omega), Nat.max_eq_right (by omega)]

set_option maxRecDepth 100000 in
set_option maxHeartbeats 4000000 in
theorem sides_any (mb bm N pb po n cap : Nat) (px py : Nat → Int) (M : Nat → Nat → Option Nat) (lv : Value) (ls : List (Nat × Nat)) (w : World) (hM : MeshAt w mb bm N pb po n cap px py M lv ls) (hN : N ≤ 1600) (hlt : ∀ a b c, M a b = some c → a < n ∧ b < n) (hn : n ≤ 40) :
    Calls Tryz.prog 114 #[.pointer (some ⟨mb, 0, none⟩)] w fun e w' => e = .returned (.pointer (some ⟨w.heap.size + 1, 0, none⟩)) ∧ Below w.heap.size w w' ∧
      ∃ l, Hp w' (w.heap.size + 1) l ∧ l.length ≤ 1600 ∧ (∀ u v, u < v → (M u v).isSome = true → (u, v) ∈ l) ∧ ∀ x ∈ l, x.1 ≤ x.2 ∧ x.2 < n := by
  obtain ⟨D, hown, hR⟩ := hM.map
  have HR := hid hR
  have bl := hM.map.lt
  have mbl := World.block_lt_of_cell? w _ hM.c1
  obtain ⟨hb, hhb⟩ : ∃ hb, hb = w.heap.size + 1 := ⟨_, rfl⟩
  have HHB := hid hhb
  obtain ⟨W1, hW1⟩ : ∃ W1, W1 = (w.alloc (.cells #[] 110)).alloc (.cells #[.slice (some ⟨w.heap.size, 0, none⟩) 0 0] 107) := ⟨_, rfl⟩
  have B1 : Hid (Below w.heap.size w W1) := hid (by rw [hW1]; exact ((Below.refl _ _).alloc (Nat.le_refl _) _).alloc (by simp) _)
  have S1 : Hid (W1.heap.size = w.heap.size + 2) := hid (by rw [hW1]; simp)
  have G0 : Hid (W1.heap[w.heap.size]? = some (.cells #[] 110 (0, 0))) := hid (by
    rw [hW1]
    rw [Below.heap_alloc _ _ _ (by simp)]
    exact heap_new w (.cells #[] 110))
  have K1 : Hid (W1.heap[hb]? = some (.cells #[.slice (some ⟨w.heap.size, 0, none⟩) 0 0] 107 (0, 0))) := hid (by
    rw [hW1, HHB.out]
    have := heap_new (w.alloc (.cells #[] 110)) (.cells #[.slice (some ⟨w.heap.size, 0, none⟩) 0 0] 107)
    rw [size_new] at this
    exact this)
  have HP1 : Hid (Hp W1 hb []) := hid (Hp.of (heap_cell K1.out 0) ⟨rfl, .inr ⟨w.heap.size, 0, #[], rfl, by have := HHB.out; omega, G0.out, Nat.le_refl _, by unfold maxLen; omega, rfl, rfl⟩⟩ (heap_free K1.out 0) (by intro e; have h : w.heap.size = hb := Option.some.inj e; have := HHB.out; omega))
  have k1 : W1.cell? ⟨mb, 1, none⟩ = some (.map (some bm)) := (B1.out.cell (p := ⟨mb, 1, none⟩) mbl).trans hM.c1
  have HO1 : Hid (W1.ownsMap Tryz.prog 110 (plainElem Tryz.prog 3) bm N D) := hid (by
    obtain ⟨es, clock, e1, e2, e3, e4⟩ := hown
    exact ⟨es, clock, (B1.out.block bm bl).trans e1, e2, e3, e4⟩)
  have SZ := hid HO1.out.size_le
  rw [← hhb]
  rw [hW1] at k1
  clear hM hown hR hhb
  go_enter Tryz.func114, Tryz.ntmps114
  go_wp2_with (at_range; rw [← hW1]; refine wpList_range_own _ rfl _ 102 rfl 110 3 Tryz.keyed99 Tryz.underlying102 _ bm N _ rfl HO1.out ?_; intro w0 hrg0 hg0 hs0)
  clear k1
  have R0 : Hid (w0.ranges Tryz.prog 110 (plainElem Tryz.prog 3) bm (w.heap.size + 1 + 1) N D (Maps.has D) (Maps.size D)) := hid (by have h := hrg0; rw [S1.out] at h; exact h)
  have B0 : Hid (Below W1.heap.size W1 w0) := hid ((Below.refl _ _).grown hg0 (Nat.le_refl _) (fun k e => by cases e))
  have HP0 : Hid (Hp w0 hb []) := hid (HP1.out.below B0.out (Nat.le_refl _))
  have Z0 : Hid (w0.heap.size = w.heap.size + 3) := hid (by rw [hs0, S1.out])
  have NR0 : Hid (¬ Rw w0 hb (w.heap.size + 1 + 1)) := hid (by
    rintro ⟨v, c, e⟩
    have c' := (B0.out.cell (p := ⟨hb, 0, none⟩) (by have := S1.out; have := HHB.out; show hb < _; omega)).trans (heap_cell K1.out 0)
    rw [c'] at c
    cases c
    have h : w.heap.size = w.heap.size + 1 + 1 := Option.some.inj e
    omega)
  have BW0 : Hid (Below w.heap.size w w0) := hid (B1.out.trans (B0.out.mono B1.out.size))
  clear hrg0 hg0 hs0 hW1 HP1 K1 G0 B0 HO1
  go_loopw [4] (fun _ wr => ∃ (left : Lit → Bool) (cnt : Nat) (l : List (Nat × Nat)), Hid (wr.ranges Tryz.prog 110 (plainElem Tryz.prog 3) bm (w.heap.size + 1 + 1) N D left cnt) ∧ Hid (Hp wr hb l) ∧ l.length + cnt ≤ Maps.size D ∧ Hid (∀ kl, left kl = true → Maps.has D kl = true) ∧ Hid (∀ u v, u < 1000 → v < 1000 → u < v → (M u v).isSome = true → left (klL u v) = false → (u, v) ∈ l) ∧ Hid (∀ x ∈ l, x.1 ≤ x.2 ∧ x.2 < n) ∧ Hid (Below w.heap.size w wr) ∧ Hid (¬ Rw wr hb (w.heap.size + 1 + 1)))
    (fun _ wr => wr.rangeLeft bm (w.heap.size + 1 + 1))
  case atStart =>
    refine ⟨_, _, [], R0, HP0, by simp, hid (fun _ h => h), hid (fun u v hu hv _ hs hf => ?_), hid (fun x hx => by cases hx), BW0, NR0⟩
    have := HR.out.has u v hu hv
    rw [hf, hs] at this
    cases this
  case round =>
    obtain ⟨left, cnt, l, RG, HP, hlen, HLH, HIN, HLN, HBW, NR⟩ := hrel
    clear R0 HP0 BW0 NR0 Z0
    go_wp2_with (at_next; refine wpList_next_ranges _ rfl _ rfl 110 Tryz.keyed99 _ (fun x : Value => x) (fun x : Value => x) (fun key _ _ => ⟨key, rfl⟩) (fun v _ _ => ⟨v, rfl⟩) bm (w.heap.size + 1 + 1) N _ _ _ rfl RG.out ?_ ?_)
    · intro h0 hl0
      have FIN : Hid (∀ u v, u < v → (M u v).isSome = true → (u, v) ∈ l) := hid (fun u v huv hs => by
        obtain ⟨c, hc⟩ := Option.isSome_iff_exists.1 hs
        have := hlt u v c hc
        exact HIN.out u v (by omega) (by omega) huv hs (hl0 _))
      clear hl0
      go_wp2_with fail
      go_ret
      exact ⟨by rw [HHB.out]; rfl, HBW.out, l, HP.out, by have := SZ.out; omega, FIN.out, HLN.out⟩
    · intro key c kl y1 y2 w1 cnt1 hkey hlk hc hat hrg1 hclt hg1 hs1 hen
      obtain ⟨u, v, d, hu, hv, rfl, rfl, hd, rfl⟩ := side_of (y := (y1, y2)) HR.out hkey (HLH.out _ hlk) hc hat
      have hun := hlt u v d hd
      have rlt := RG.out.lt
      have B1r : Hid (Below (w.heap.size + 1 + 1) wr w1) := hid ((Below.refl _ _).grown hg1 (by omega) (fun k e => by have := Option.some.inj e; omega))
      have FR1 : Hid (w1.frozen? ⟨hb, 0, none⟩ = wr.frozen? ⟨hb, 0, none⟩ ∧ w1.cell? ⟨hb, 0, none⟩ = wr.cell? ⟨hb, 0, none⟩) := hid ⟨B1r.out.frozen (p := ⟨hb, 0, none⟩) (by have := HHB.out; show hb < _; omega), B1r.out.cell (p := ⟨hb, 0, none⟩) (by have := HHB.out; show hb < _; omega)⟩
      have HPa : Hid (Hp w1 hb l) := hid (by
        obtain ⟨v0, c0, o0⟩ := HP.out.ex
        exact Hp.of (FR1.out.2.trans c0) (o0.kept hg1 (.inr (fun e => NR.out ⟨v0, c0, e⟩))) (FR1.out.1.trans HP.out.fr) (HP.out.ne v0 c0))
      have NRa : Hid (¬ Rw w1 hb (w.heap.size + 1 + 1)) := hid (fun ⟨v0, c0, e⟩ => NR.out ⟨v0, FR1.out.2.symm.trans c0, e⟩)
      have HBa : Hid (Below w.heap.size w w1) := hid (HBW.out.trans (B1r.out.mono (by omega)))
      obtain ⟨W2, hW2⟩ : ∃ W2, W2 = w1.alloc (.cells #[.int .i64 (u : Nat), .int .i64 (v : Nat)] 110) := ⟨_, rfl⟩
      have B2 : Hid (Below w1.heap.size w1 W2) := hid (by rw [hW2]; exact (Below.refl _ _).alloc (Nat.le_refl _) _)
      have RG2 : Hid (W2.ranges Tryz.prog 110 (plainElem Tryz.prog 3) bm (w.heap.size + 1 + 1) N D (fun z => left z && !z.sameKey (klL u v)) cnt1) := hid (ranges_same hrg1 (B2.out.block bm (by have := hrg1.owns.lt; omega)) (B2.out.block _ (by have := hrg1.lt; omega)))
      have HP2 := hid (HPa.out.below B2.out (Nat.le_refl _))
      have NR2 : Hid (¬ Rw W2 hb (w.heap.size + 1 + 1)) := hid (fun h => NRa.out ((Fm.of_below B2.out HPa.out.lt).row _ (by have := hrg1.lt; omega) h))
      have HB2 : Hid (Below w.heap.size w W2) := hid (HBa.out.trans (B2.out.mono HBa.out.size))
      have HLH2 : Hid (∀ kl, (left kl && !kl.sameKey (klL u v)) = true → Maps.has D kl = true) := hid (fun kl h => HLH.out kl (by simp at h; exact h.1))
      have RL : Hid (cnt1 < cnt) := hid hclt
      have LE := hid RG.out.left_eq
      have hbl := HHB.out
      have c1 : cnt1 < cnt := hclt
      by_cases huv : u < v
      · have duv : decide ((u : Int) < (v : Int)) = true := by simp; omega
        have WA := hid (wait_any hb u v l W2 HP2.out (by have := SZ.out; omega))
        rw [hbl] at WA
        clear hkey hlk hc hat hrg1 hg1 hs1 hclt hbl
        go_wp2_with fail
        rw [← hW2]
        refine WA.out.mono ?_
        rintro e w3 ⟨rfl, ⟨l', hp3, hpm⟩, hf3⟩
        rw [← HHB.out] at hp3 hf3
        have lt2 : Hid (w.heap.size + 1 + 1 < W2.heap.size) := hid RG2.out.lt
        have bnr : Hid (¬ Rw W2 hb bm) := hid (by
          rintro ⟨v0, c0, e⟩
          obtain ⟨v1, c1, o1⟩ := HP2.out.ex
          rw [c1] at c0
          cases c0
          have := own_geH o1 _ e
          have := HHB.out
          omega)
        have RG3 : Hid (w3.ranges Tryz.prog 110 (plainElem Tryz.prog 3) bm (w.heap.size + 1 + 1) N D (fun z => left z && !z.sameKey (klL u v)) cnt1) := hid (ranges_same RG2.out (hf3.block bm (by have := RG2.out.owns.lt; omega) (by have := HHB.out; omega) bnr.out) (hf3.block _ lt2.out (by have := HHB.out; omega) NR2.out))
        have HP3 := hid hp3
        have NR3 : Hid (¬ Rw w3 hb (w.heap.size + 1 + 1)) := hid (fun h => NR2.out (hf3.row _ lt2.out h))
        have HB3 : Hid (Below w.heap.size w w3) := hid (HB2.out.trans (hf3.belowB HP2.out (by have := HHB.out; omega) HB2.out.size))
        have HIN3 : Hid (∀ a b, a < 1000 → b < 1000 → a < b → (M a b).isSome = true → (left (klL a b) && !(klL a b).sameKey (klL u v)) = false → (a, b) ∈ l') := hid (fun a b ha hb' hab hs hf => by
          rw [Bool.and_eq_false_iff] at hf
          rcases hf with hf | hf
          · exact hpm.mem_iff.2 (List.mem_cons_of_mem _ (HIN.out a b ha hb' hab hs hf))
          · simp at hf
            obtain ⟨rfl, rfl⟩ := same_kl ha hb' hu hv hf
            exact hpm.mem_iff.2 (by rw [up_lt huv]; exact List.mem_cons_self))
        have HLN3 : Hid (∀ x ∈ l', x.1 ≤ x.2 ∧ x.2 < n) := hid (fun x hx => by
          rcases List.mem_cons.1 (hpm.mem_iff.1 hx) with rfl | hx
          · rw [up_lt huv]; exact ⟨by show u ≤ v; omega, hun.2⟩
          · exact HLN.out x hx)
        have hl3 : l'.length = l.length + 1 := by rw [hpm.length_eq]; rfl
        clear hp3 hf3 hpm hW2 WA
        go_wp2_with fail
        go_roundw
        case rel => exact ⟨_, cnt1, l', RG3, HP3, by omega, HLH2, HIN3, HLN3, HB3, NR3⟩
        case measure => rw [RG3.out.left_eq, LE.out]; exact RL.out
      · have duv : decide ((u : Int) < (v : Int)) = false := by simp; omega
        have HIN3 : Hid (∀ a b, a < 1000 → b < 1000 → a < b → (M a b).isSome = true → (left (klL a b) && !(klL a b).sameKey (klL u v)) = false → (a, b) ∈ l) := hid (fun a b ha hb' hab hs hf => by
          rw [Bool.and_eq_false_iff] at hf
          rcases hf with hf | hf
          · exact HIN.out a b ha hb' hab hs hf
          · simp at hf
            obtain ⟨rfl, rfl⟩ := same_kl ha hb' hu hv hf
            omega)
        clear hkey hlk hc hat hrg1 hg1 hs1 hclt hbl
        go_wp2_with fail
        rw [← hW2]
        clear hW2
        go_roundw
        case rel => exact ⟨_, cnt1, l, RG2, HP2, by omega, HLH2, HIN3, HLN, HB2, NR2⟩
        case measure => rw [RG2.out.left_eq, LE.out]; exact RL.out
end Go.Proofs.YtdbebbbceeopaaaGreat

set_option linter.unusedSimpArgs false
namespace Go.Proofs.YtdbebbbceeopaaaGreat
open Go.RowKit Go.Maps

theorem Plc.grown {w w' : World} {bm pb po n : Nat} {px py : Nat → Int} (h : Plc w pb po n px py) (hg : w.grownBy w' (some bm)) (hne : pb ≠ bm) : Plc w' pb po n px py :=
  ⟨Nat.lt_of_lt_of_le h.lt hg.size, fun i hi => by
    obtain ⟨r, q, e1, e2, e3⟩ := h.cell i hi
    exact ⟨r, q, grown_cell hg (a := ⟨pb, po + i, none⟩) hne e1, e2, e3⟩, h.bd⟩

theorem MeshAt.grown {w w' : World} {mb bm N N' pb po n cap : Nat} {px py : Nat → Int} {M M' : Nat → Nat → Option Nat} {lv : Value} {ls : List (Nat × Nat)} (h : MeshAt w mb bm N pb po n cap px py M lv ls) (hg : w.grownBy w' (some bm)) (hm : MapAt w' bm N' M') : MeshAt w' mb bm N' pb po n cap px py M' lv ls :=
  ⟨grown_cell hg (a := ⟨mb, 0, none⟩) h.ne h.c0, grown_cell hg (a := ⟨mb, 1, none⟩) h.ne h.c1, grown_cell hg (a := ⟨mb, 2, none⟩) h.ne h.c2, (World.frozen?_of_block (w := w) (a := ⟨mb, 2, none⟩) (hg.block mb (World.block_lt_of_cell? w _ h.c2) (fun e => h.ne (Option.some.inj e)))).trans h.f2, h.ln.kept hg (.inr h.nl), h.nl, h.plc.grown hg h.np, hm, h.ne, h.np⟩

theorem grown_below {w w' : World} (row : Option Nat) (h : Below w.heap.size w w') : w.grownBy w' row := ⟨h.os, h.tape, h.output, h.size, fun k hk _ => h.block k hk⟩

theorem gr_trans {a b c : World} {bm : Nat} (h1 : a.grownBy b (some bm)) (h2 : b.grownBy c (some bm)) : a.grownBy c (some bm) := h1.andThen h2 (fun _ e => .inr e)

theorem Cel.grown {W W' : World} {l : List (Nat × Nat × Int)} {bm : Nat} (h : Cel W l) (hg : W.grownBy W' (some bm)) (hne : ∀ q ∈ l, q.1 ≠ bm) : Cel W' l := fun q hq => grown_cell hg (a := ⟨q.1, q.2.1, none⟩) (hne q hq) (h q hq)

theorem MeshAt.belowB {w w' : World} {B mb bm N pb po n cap : Nat} {px py : Nat → Int} {M : Nat → Nat → Option Nat} {lv : Value} {ls : List (Nat × Nat)} (h : MeshAt w mb bm N pb po n cap px py M lv ls) (hb : Below B w w') (h1 : mb < B) (h2 : bm < B) (h3 : pb < B) (h4 : ∀ g, lv.ownBlock = some g → g < B) : MeshAt w' mb bm N pb po n cap px py M lv ls :=
  ⟨(hb.cell (by exact h1)).trans h.c0, (hb.cell (by exact h1)).trans h.c1, (hb.cell (by exact h1)).trans h.c2, (hb.frozen (by exact h1)).trans h.f2, owns_belowH h.ln hb h4, h.nl, h.plc.below hb h3, h.map.below hb h2, h.ne, h.np⟩

set_option maxRecDepth 100000 in
set_option maxHeartbeats 4000000 in
theorem turnOver_any (mb bm N pb po n cap u v c d : Nat) (px py : Nat → Int) (M : Nat → Nat → Option Nat) (lv : Value) (ls : List (Nat × Nat)) (w : World) (hn : n ≤ 40) (hM : MeshAt w mb bm N pb po n cap px py M lv ls) (hN : N ≤ 50000) (hu : u < n) (hv : v < n) (hc : c < n) (hd : d < n) (e1 : M u v = some c) (e2 : M v u = some d) :
    Calls Tryz.prog 115 #[.pointer (some ⟨mb, 0, none⟩), .agg #[.int .i64 u, .int .i64 v]] w fun e w' =>
      e = .returned (.agg #[.int .i64 u, .int .i64 d, .int .i64 d, .int .i64 v, .int .i64 v, .int .i64 c, .int .i64 c, .int .i64 u]) ∧ MeshAt w' mb bm (N + 6) pb po n cap px py (turnM M u v c d) lv ls ∧ w.grownBy w' (some bm) := by
  have bl := hM.map.lt
  have ML := hid (World.block_lt_of_cell? w _ hM.c0)
  have PL := hid hM.plc.lt
  have LL := hid (own_lt2 hM.ln)
  obtain ⟨W1, hW1⟩ : ∃ W1 : World, W1 = (w.alloc (.cells #[.int .i64 u, .int .i64 v] 110)).alloc (.cells #[.int .i64 0, .int .i64 0, .int .i64 0, .int .i64 0, .int .i64 0, .int .i64 0, .int .i64 0, .int .i64 0] 146) := ⟨_, rfl⟩
  have B1 : Hid (Below w.heap.size w W1) := hid (by rw [hW1]; exact ((Below.refl _ _).alloc (Nat.le_refl _) _).alloc (by simp) _)
  have HM1 := hid (hM.below B1.out)
  have HC1 : Hid (Cel W1 [(w.heap.size, 0, u), (w.heap.size, 1, v)]) := hid (by
    rw [hW1]
    exact (Cel.cons (World.cell?_alloc_at _ _ _ _ rfl) (Cel.cons (World.cell?_alloc_at _ _ _ _ rfl) (fun q hq => by cases hq))).new _)
  have RB1 : Hid (W1.heap[w.heap.size + 1]? = some (.cells #[.int .i64 0, .int .i64 0, .int .i64 0, .int .i64 0, .int .i64 0, .int .i64 0, .int .i64 0, .int .i64 0] 146 (0, 0))) := hid (by rw [hW1]; have := heap_new (w.alloc (.cells #[.int .i64 u, .int .i64 v] 110)) (.cells #[.int .i64 0, .int .i64 0, .int .i64 0, .int .i64 0, .int .i64 0, .int .i64 0, .int .i64 0, .int .i64 0] 146); rw [size_new] at this; exact this)
  have HB := hid (back_any (u : Int) (v : Int))
  have E1 := hid e1
  have E2 := hid e2
  have BL := hid bl
  clear hM e1 e2 bl
  go_enter Tryz.func115, Tryz.ntmps115
  go_wp2_with fail
  rw [← hW1]
  clear hW1
  have k1 := HM1.out.c1
  have x0 : W1.cell? ⟨w.heap.size, 0, none⟩ = some (.int .i64 u) := HC1.out.get 0 _ rfl
  have x1 : W1.cell? ⟨w.heap.size, 1, none⟩ = some (.int .i64 v) := HC1.out.get 1 _ rfl
  have g1 : mb < W1.heap.size := World.block_lt_of_cell? W1 _ k1
  have g2 : w.heap.size < W1.heap.size := World.block_lt_of_cell? W1 _ x0
  have LK : Hid (∀ W', Below W1.heap.size W1 W' → (Instr.lookup 102 (.map (some bm)) (.agg #[.int .i64 v, .int .i64 u]) false).run Tryz.prog W' = .ok (.int .i64 d) W') := hid fun W' hb => by
    have := MapAt.look1 (HM1.out.below hb).map (u := v) (v := u) (by omega) (by omega)
    rw [E2.out] at this
    exact this
  have LK2 : Hid (∀ W', Below W1.heap.size W1 W' → (Instr.lookup 102 (.map (some bm)) (.agg #[.int .i64 u, .int .i64 v]) false).run Tryz.prog W' = .ok (.int .i64 c) W') := hid fun W' hb => by
    have := MapAt.look1 (HM1.out.below hb).map (u := u) (v := v) (by omega) (by omega)
    rw [E1.out] at this
    exact this
  have l0 := LK2.out W1.drew (Below.refl _ _).drew
  have k1d : W1.drew.cell? ⟨mb, 1, none⟩ = some (.map (some bm)) := k1
  have x0d : W1.drew.cell? ⟨w.heap.size, 0, none⟩ = some (.int .i64 u) := x0
  have x1d : W1.drew.cell? ⟨w.heap.size, 1, none⟩ = some (.int .i64 v) := x1
  go_region_held3 (fun w' => w'.cell? ⟨mb, 1, none⟩ = some (.map (some bm)) ∧ w'.cell? ⟨w.heap.size, 0, none⟩ = some (.int .i64 u) ∧ w'.cell? ⟨w.heap.size, 1, none⟩ = some (.int .i64 v) ∧ (Instr.lookup 102 (.map (some bm)) (.agg #[.int .i64 u, .int .i64 v]) false).run Tryz.prog w' = .ok (.int .i64 c) w') (exact ⟨by assumption, by assumption, by assumption, by assumption⟩)
    ((go_at_call 131; refine (HB.out _).mono ?_; rintro e w6 ⟨rfl, hb6⟩; have u1 := (hb6.cell (p := ⟨mb, 1, none⟩) g1).trans k1; have u2 := (hb6.cell (p := ⟨w.heap.size, 0, none⟩) g2).trans x0; have u3 := (hb6.cell (p := ⟨w.heap.size, 1, none⟩) g2).trans x1; have l2 := LK.out w6 ((Below.refl _ _).drew.trans hb6); have l3 := LK2.out w6 ((Below.refl _ _).drew.trans hb6); have HB6 := hid hb6; clear hb6))
  all_goals
    have B16 : Hid (Below W1.heap.size W1 w6) := hid ((Below.refl _ _).drew.trans HB6.out)
    have HM6 := hid (HM1.out.below B16.out)
    have HC6 := hid (HC1.out.step B16.out)
    have G6 : Hid (W1.grownBy w6 (some bm)) := hid (grown_below _ B16.out)
    have NB : Hid (∀ q ∈ [(w.heap.size, 0, (u : Int)), (w.heap.size, 1, (v : Int))], q.1 ≠ bm) := hid (by
      intro q hq
      simp only [List.mem_cons, List.not_mem_nil, or_false] at hq
      have := BL.out
      rcases hq with rfl | rfl <;> (show w.heap.size ≠ bm; omega))
    have HM6d : Hid (MeshAt w6.drew mb bm N pb po n cap px py M lv ls) := hid (HM6.out.below (Below.refl _ _).drew)
    have HC6d : Hid (Cel w6.drew [(w.heap.size, 0, (u : Int)), (w.heap.size, 1, (v : Int))]) := hid (HC6.out.step (Below.refl _ _).drew)
    have G6d : Hid (W1.grownBy w6.drew (some bm)) := hid (gr_trans G6.out (grown_below _ (Below.refl _ _).drew))
    obtain ⟨w7, r7, m7, g7⟩ := HM6d.out.map.drop (a := u) (b := v) (by omega) (by omega) 0
    have HM7 := hid (HM6d.out.grown g7 m7)
    have HC7 := hid (HC6d.out.grown g7 NB.out)
    have G7 := hid (gr_trans G6d.out g7)
    have k6 := HM6.out.c1
    have y0 : w6.cell? ⟨w.heap.size, 0, none⟩ = some (.int .i64 u) := HC6.out.get 0 _ rfl
    have y1 : w6.cell? ⟨w.heap.size, 1, none⟩ = some (.int .i64 v) := HC6.out.get 1 _ rfl
    clear u1 u2 u3 l2 l3 k1 x0 x1 k1d x0d x1d l0 m7 g7 HB6 LK LK2
    go_wp2_with fail
    go_region
    go_wp2_with fail
    clear r7 k6 y0 y1
    have k7 := HM7.out.c1
    have y0 : w7.cell? ⟨w.heap.size, 0, none⟩ = some (.int .i64 u) := HC7.out.get 0 _ rfl
    have y1 : w7.cell? ⟨w.heap.size, 1, none⟩ = some (.int .i64 v) := HC7.out.get 1 _ rfl
    have h1 : mb < w7.heap.size := World.block_lt_of_cell? w7 _ k7
    have h2 : w.heap.size < w7.heap.size := World.block_lt_of_cell? w7 _ y0
    have DR : Hid (∀ W', Below w7.heap.size w7 W' → ∃ w9, (Builtin.delete_ #[102, 110] 0 #[.map (some bm), .agg #[.int .i64 v, .int .i64 u]]).run Tryz.prog W' = .ok (.tuple #[]) w9 ∧ Hid (MeshAt w9 mb bm N pb po n cap px py (delM (delM M u v) v u) lv ls) ∧ Hid (W1.grownBy w9 (some bm)) ∧ Hid (Cel w9 [(w.heap.size, 0, (u : Int)), (w.heap.size, 1, (v : Int))])) := hid fun W' hb => by
      have hM := HM7.out.below hb
      obtain ⟨w9, r9, m9, g9⟩ := hM.map.drop (a := v) (b := u) (by omega) (by omega) 0
      exact ⟨w9, r9, hid (hM.grown g9 m9), hid (gr_trans (gr_trans G7.out (grown_below _ hb)) g9), hid ((HC7.out.step hb).grown g9 NB.out)⟩
    have k7d : w7.drew.cell? ⟨mb, 1, none⟩ = some (.map (some bm)) := k7
    have y0d : w7.drew.cell? ⟨w.heap.size, 0, none⟩ = some (.int .i64 u) := y0
    have y1d : w7.drew.cell? ⟨w.heap.size, 1, none⟩ = some (.int .i64 v) := y1
    go_region_held3 (fun w' => w'.cell? ⟨mb, 1, none⟩ = some (.map (some bm)) ∧ w'.cell? ⟨w.heap.size, 0, none⟩ = some (.int .i64 u) ∧ w'.cell? ⟨w.heap.size, 1, none⟩ = some (.int .i64 v)) (exact ⟨by assumption, by assumption, by assumption⟩)
      ((go_at_call 131; refine (HB.out _).mono ?_; rintro e w8 ⟨rfl, hb8⟩; have a1 := (hb8.cell (p := ⟨mb, 1, none⟩) h1).trans k7; have a2 := (hb8.cell (p := ⟨w.heap.size, 0, none⟩) h2).trans y0; have a3 := (hb8.cell (p := ⟨w.heap.size, 1, none⟩) h2).trans y1; obtain ⟨w9, r9, HM9, G9, HC9⟩ := DR.out w8 ((Below.refl _ _).drew.trans hb8); have b1 := HM9.out.c1; have b2 : w9.cell? ⟨w.heap.size, 0, none⟩ = some (.int .i64 u) := HC9.out.get 0 _ rfl; have b3 : w9.cell? ⟨w.heap.size, 1, none⟩ = some (.int .i64 v) := HC9.out.get 1 _ rfl; clear hb8))
    clear a1 a2 a3 k7 y0 y1 k7d y0d y1d DR r9
    go_wp2_with fail
    refine (add_any mb bm N u d c _ w9 HM9.out.c1 HM9.out.ne HM9.out.map (by omega) (by omega) (by omega) (by omega)).mono ?_
    rintro e w10 ⟨rfl, m10, g10⟩
    have HM10 := hid (HM9.out.grown g10 m10)
    have HC10 := hid (HC9.out.grown g10 NB.out)
    have G10 := hid (gr_trans G9.out g10)
    clear m10 g10 b1 b2 b3
    have b2 : w10.cell? ⟨w.heap.size, 0, none⟩ = some (.int .i64 u) := HC10.out.get 0 _ rfl
    have b3 : w10.cell? ⟨w.heap.size, 1, none⟩ = some (.int .i64 v) := HC10.out.get 1 _ rfl
    go_wp2_with fail
    refine (add_any mb bm (N + 3) d v c _ w10 HM10.out.c1 HM10.out.ne HM10.out.map (by omega) (by omega) (by omega) (by omega)).mono ?_
    rintro e w11 ⟨rfl, m11, g11⟩
    have HM11 := hid (HM10.out.grown g11 m11)
    have HC11 := hid (HC10.out.grown g11 NB.out)
    have G11 := hid (gr_trans G10.out g11)
    clear m11 g11 b2 b3
    have b2 : w11.cell? ⟨w.heap.size, 0, none⟩ = some (.int .i64 u) := HC11.out.get 0 _ rfl
    have b3 : w11.cell? ⟨w.heap.size, 1, none⟩ = some (.int .i64 v) := HC11.out.get 1 _ rfl
    have RB : Hid (w11.heap[w.heap.size + 1]? = some (.cells #[.int .i64 0, .int .i64 0, .int .i64 0, .int .i64 0, .int .i64 0, .int .i64 0, .int .i64 0, .int .i64 0] 146 (0, 0))) := hid ((G11.out.block (w.heap.size + 1) (heap_lt RB1.out) (fun e => by have := BL.out; have := Option.some.inj e; omega)).trans RB1.out)
    have cc0 : w11.cell? ⟨w.heap.size + 1, 0, none⟩ = some (.int .i64 0) := heap_cell RB.out 0
    have ff0 : w11.frozen? ⟨w.heap.size + 1, 0, none⟩ = false := heap_free RB.out 0
    have cc1 : w11.cell? ⟨w.heap.size + 1, 1, none⟩ = some (.int .i64 0) := heap_cell RB.out 1
    have ff1 : w11.frozen? ⟨w.heap.size + 1, 1, none⟩ = false := heap_free RB.out 1
    have cc2 : w11.cell? ⟨w.heap.size + 1, 2, none⟩ = some (.int .i64 0) := heap_cell RB.out 2
    have ff2 : w11.frozen? ⟨w.heap.size + 1, 2, none⟩ = false := heap_free RB.out 2
    have cc3 : w11.cell? ⟨w.heap.size + 1, 3, none⟩ = some (.int .i64 0) := heap_cell RB.out 3
    have ff3 : w11.frozen? ⟨w.heap.size + 1, 3, none⟩ = false := heap_free RB.out 3
    have cc4 : w11.cell? ⟨w.heap.size + 1, 4, none⟩ = some (.int .i64 0) := heap_cell RB.out 4
    have ff4 : w11.frozen? ⟨w.heap.size + 1, 4, none⟩ = false := heap_free RB.out 4
    have cc5 : w11.cell? ⟨w.heap.size + 1, 5, none⟩ = some (.int .i64 0) := heap_cell RB.out 5
    have ff5 : w11.frozen? ⟨w.heap.size + 1, 5, none⟩ = false := heap_free RB.out 5
    have cc6 : w11.cell? ⟨w.heap.size + 1, 6, none⟩ = some (.int .i64 0) := heap_cell RB.out 6
    have ff6 : w11.frozen? ⟨w.heap.size + 1, 6, none⟩ = false := heap_free RB.out 6
    have cc7 : w11.cell? ⟨w.heap.size + 1, 7, none⟩ = some (.int .i64 0) := heap_cell RB.out 7
    have ff7 : w11.frozen? ⟨w.heap.size + 1, 7, none⟩ = false := heap_free RB.out 7
    have hh0 := heap_setCell_same _ (w.heap.size + 1) 0 _ 146 (.int .i64 u) RB.out
    have hh1 := heap_setCell_same _ (w.heap.size + 1) 1 _ 146 (.int .i64 d) hh0
    have hh2 := heap_setCell_same _ (w.heap.size + 1) 2 _ 146 (.int .i64 d) hh1
    have hh3 := heap_setCell_same _ (w.heap.size + 1) 3 _ 146 (.int .i64 v) hh2
    have hh4 := heap_setCell_same _ (w.heap.size + 1) 4 _ 146 (.int .i64 v) hh3
    have hh5 := heap_setCell_same _ (w.heap.size + 1) 5 _ 146 (.int .i64 c) hh4
    have hh6 := heap_setCell_same _ (w.heap.size + 1) 6 _ 146 (.int .i64 c) hh5
    have hh7 := heap_setCell_same _ (w.heap.size + 1) 7 _ 146 (.int .i64 u) hh6
    have RZ : Hid (((((((((w11.setCell ⟨w.heap.size + 1, 0, none⟩ (.int .i64 u)).setCell ⟨w.heap.size + 1, 1, none⟩ (.int .i64 d)).setCell ⟨w.heap.size + 1, 2, none⟩ (.int .i64 d)).setCell ⟨w.heap.size + 1, 3, none⟩ (.int .i64 v)).setCell ⟨w.heap.size + 1, 4, none⟩ (.int .i64 v)).setCell ⟨w.heap.size + 1, 5, none⟩ (.int .i64 c)).setCell ⟨w.heap.size + 1, 6, none⟩ (.int .i64 c)).setCell ⟨w.heap.size + 1, 7, none⟩ (.int .i64 u)).heap[w.heap.size + 1]? = some (.cells #[.int .i64 u, .int .i64 d, .int .i64 d, .int .i64 v, .int .i64 v, .int .i64 c, .int .i64 c, .int .i64 u] 146 (0, 0))) := hid hh7
    clear hh0 hh1 hh2 hh3 hh4 hh5 hh6 hh7
    have BZ : Hid (Below w.heap.size w11 ((((((((w11.setCell ⟨w.heap.size + 1, 0, none⟩ (.int .i64 u)).setCell ⟨w.heap.size + 1, 1, none⟩ (.int .i64 d)).setCell ⟨w.heap.size + 1, 2, none⟩ (.int .i64 d)).setCell ⟨w.heap.size + 1, 3, none⟩ (.int .i64 v)).setCell ⟨w.heap.size + 1, 4, none⟩ (.int .i64 v)).setCell ⟨w.heap.size + 1, 5, none⟩ (.int .i64 c)).setCell ⟨w.heap.size + 1, 6, none⟩ (.int .i64 c)).setCell ⟨w.heap.size + 1, 7, none⟩ (.int .i64 u))) := hid (((((((((Below.refl _ _).setCell (Nat.le_succ _) _).setCell (Nat.le_succ _) _).setCell (Nat.le_succ _) _).setCell (Nat.le_succ _) _).setCell (Nat.le_succ _) _).setCell (Nat.le_succ _) _).setCell (Nat.le_succ _) _).setCell (Nat.le_succ _) _)
    have FIN : Hid (MeshAt ((((((((w11.setCell ⟨w.heap.size + 1, 0, none⟩ (.int .i64 u)).setCell ⟨w.heap.size + 1, 1, none⟩ (.int .i64 d)).setCell ⟨w.heap.size + 1, 2, none⟩ (.int .i64 d)).setCell ⟨w.heap.size + 1, 3, none⟩ (.int .i64 v)).setCell ⟨w.heap.size + 1, 4, none⟩ (.int .i64 v)).setCell ⟨w.heap.size + 1, 5, none⟩ (.int .i64 c)).setCell ⟨w.heap.size + 1, 6, none⟩ (.int .i64 c)).setCell ⟨w.heap.size + 1, 7, none⟩ (.int .i64 u)) mb bm (N + 3 + 3) pb po n cap px py (turnM M u v c d) lv ls) := hid (HM11.out.belowB BZ.out ML.out BL.out PL.out LL.out)
    have FG : Hid (w.grownBy ((((((((w11.setCell ⟨w.heap.size + 1, 0, none⟩ (.int .i64 u)).setCell ⟨w.heap.size + 1, 1, none⟩ (.int .i64 d)).setCell ⟨w.heap.size + 1, 2, none⟩ (.int .i64 d)).setCell ⟨w.heap.size + 1, 3, none⟩ (.int .i64 v)).setCell ⟨w.heap.size + 1, 4, none⟩ (.int .i64 v)).setCell ⟨w.heap.size + 1, 5, none⟩ (.int .i64 c)).setCell ⟨w.heap.size + 1, 6, none⟩ (.int .i64 c)).setCell ⟨w.heap.size + 1, 7, none⟩ (.int .i64 u)) (some bm)) := hid ⟨BZ.out.os.trans (G11.out.os.trans B1.out.os), BZ.out.tape.trans (G11.out.tape.trans B1.out.tape), BZ.out.output.trans (G11.out.output.trans B1.out.output), Nat.le_trans B1.out.size (Nat.le_trans G11.out.size BZ.out.size), fun k hk hne => (BZ.out.block k hk).trans ((G11.out.block k (Nat.lt_of_lt_of_le hk B1.out.size) hne).trans (B1.out.block k hk))⟩
    go_wp2_with fail
    refine bodyPost_ret (v := .agg #[.int .i64 u, .int .i64 d, .int .i64 d, .int .i64 v, .int .i64 v, .int .i64 c, .int .i64 c, .int .i64 u]) ?r rfl ?q
    case q => exact ⟨rfl, FIN.out, FG.out⟩
    case r =>
      obtain ⟨w12, hw12⟩ : ∃ w12 : World, w12 = ((((((((w11.setCell ⟨w.heap.size + 1, 0, none⟩ (.int .i64 u)).setCell ⟨w.heap.size + 1, 1, none⟩ (.int .i64 d)).setCell ⟨w.heap.size + 1, 2, none⟩ (.int .i64 d)).setCell ⟨w.heap.size + 1, 3, none⟩ (.int .i64 v)).setCell ⟨w.heap.size + 1, 4, none⟩ (.int .i64 v)).setCell ⟨w.heap.size + 1, 5, none⟩ (.int .i64 c)).setCell ⟨w.heap.size + 1, 6, none⟩ (.int .i64 c)).setCell ⟨w.heap.size + 1, 7, none⟩ (.int .i64 u)) := ⟨_, rfl⟩
      rw [← hw12] at RZ ⊢
      have dd0 : w12.cell? ⟨w.heap.size + 1, 0, none⟩ = some (.int .i64 u) := heap_cell RZ.out 0
      have dd1 : w12.cell? ⟨w.heap.size + 1, 1, none⟩ = some (.int .i64 d) := heap_cell RZ.out 1
      have dd2 : w12.cell? ⟨w.heap.size + 1, 2, none⟩ = some (.int .i64 d) := heap_cell RZ.out 2
      have dd3 : w12.cell? ⟨w.heap.size + 1, 3, none⟩ = some (.int .i64 v) := heap_cell RZ.out 3
      have dd4 : w12.cell? ⟨w.heap.size + 1, 4, none⟩ = some (.int .i64 v) := heap_cell RZ.out 4
      have dd5 : w12.cell? ⟨w.heap.size + 1, 5, none⟩ = some (.int .i64 c) := heap_cell RZ.out 5
      have dd6 : w12.cell? ⟨w.heap.size + 1, 6, none⟩ = some (.int .i64 c) := heap_cell RZ.out 6
      have dd7 : w12.cell? ⟨w.heap.size + 1, 7, none⟩ = some (.int .i64 u) := heap_cell RZ.out 7
      clear hw12
      simp [results, Tryz.results115, go_sem, dd0, dd1, dd2, dd3, dd4, dd5, dd6, dd7]
end Go.Proofs.YtdbebbbceeopaaaGreat

set_option linter.unusedSimpArgs false
namespace Go.Proofs.YtdbebbbceeopaaaGreat
open Go.RowKit Go.Maps
open Geo (popF sweep addT)
open Flt (Is)

theorem sweep_snoc (px py : Nat → Int) (x : Nat) : ∀ (l : List Nat) (A : Nat → Nat → Option Nat) (s : List Nat),
    sweep px py A s (l ++ [x]) = ((popF px py x (sweep px py A s l).1 (sweep px py A s l).2).1, x :: (popF px py x (sweep px py A s l).1 (sweep px py A s l).2).2)
  | [], A, s => rfl
  | y :: l, A, s => by
    rw [List.cons_append]
    show sweep px py (popF px py y A s).1 (y :: (popF px py y A s).2) (l ++ [x]) = _
    rw [sweep_snoc px py x l]
    rfl

theorem sweep_take (px py : Nat → Int) (os : List Nat) (A : Nat → Nat → Option Nat) (k : Nat) (hk : k < os.length) :
    sweep px py A [] (os.take (k + 1)) = ((popF px py os[k] (sweep px py A [] (os.take k)).1 (sweep px py A [] (os.take k)).2).1, os[k] :: (popF px py os[k] (sweep px py A [] (os.take k)).1 (sweep px py A [] (os.take k)).2).2) := by
  rw [List.take_succ_eq_append_getElem hk, sweep_snoc]

theorem grown_mono {w w1 w2 : World} {bm : Nat} {v : Value} (h : w.grownBy w1 (some bm)) (hg : w1.grownBy w2 v.ownBlock) (hv : ∀ g, v.ownBlock = some g → w.heap.size ≤ g) : w.grownBy w2 (some bm) :=
  h.andThen hg (fun j e => .inl (hv j e))

theorem MapAt.more {w : World} {bm N N' : Nat} {M : Nat → Nat → Option Nat} (h : MapAt w bm N M) (hn : N ≤ N') : MapAt w bm N' M := by
  obtain ⟨D, ⟨es, clock, e1, e2, e3, e4⟩, hR⟩ := h
  exact ⟨D, ⟨es, clock, e1, e2, Nat.le_trans e3 hn, e4⟩, hR⟩

theorem MeshAt.more {w : World} {mb bm N N' pb po n cap : Nat} {px py : Nat → Int} {M : Nat → Nat → Option Nat} {lv : Value} {ls : List (Nat × Nat)} (h : MeshAt w mb bm N pb po n cap px py M lv ls) (hn : N ≤ N') : MeshAt w mb bm N' pb po n cap px py M lv ls :=
  ⟨h.c0, h.c1, h.c2, h.f2, h.ln, h.nl, h.plc, h.map.more hn, h.ne, h.np⟩

theorem fill_step {px py : Nat → Int} {n : Nat} {A0 A A2 : Nat → Nat → Option Nat} {os st s2 : List Nat} {k x mb bm N2 pb po cap : Nat} {lv v v' : Value} {ls : List (Nat × Nat)} {w w2 w3 : World} {o : Obj} (hkl : k < os.length) (hx : x = os[k]) (hsw : sweep px py A0 [] (os.take k) = (A, st)) (hpp : popF px py x A2 s2 = popF px py x A st) (hstop : popF px py x A2 s2 = (A2, s2))
    (hM : MeshAt w2 mb bm N2 pb po n cap px py A2 lv ls) (ho : w2.ownsRow w.heap.size 3 1 v s2.length (s2.reverse.map encN)) (hg : w.grownBy w2 (some bm)) (bl : bm < w.heap.size) (hown : w3.ownsRow w.heap.size 3 1 v' (s2.length + 1) (s2.reverse.map encN ++ [.int .i64 (x : Nat)])) (hgrow : (w2.alloc o).grownBy w3 v.ownBlock) (hxn : x < n) (h1 : mb < w.heap.size) (h2 : pb < w.heap.size) (h3 : ∀ g, lv.ownBlock = some g → g < w.heap.size) :
    sweep px py A0 [] (os.take (k + 1)) = (A2, x :: s2) ∧ ((∀ y ∈ s2, y < n) → ∀ y ∈ x :: s2, y < n) ∧ MeshAt w3 mb bm N2 pb po n cap px py A2 lv ls ∧ w3.ownsRow w.heap.size 3 1 v' (x :: s2).length ((x :: s2).reverse.map encN) ∧ w.grownBy w3 (some bm) := by
  have hs : sweep px py A0 [] (os.take (k + 1)) = (A2, x :: s2) := by
    rw [sweep_take px py os A0 k hkl, hsw, ← hx, ← hpp, hstop]
  have B1 : Below w2.heap.size w2 (w2.alloc o) := (Below.refl _ _).alloc (Nat.le_refl _) o
  have vb : ∀ g, v.ownBlock = some g → w.heap.size ≤ g := by
    intro g hg'
    rcases ho.2 with ⟨rfl, _⟩ | ⟨g', cap', cur, rfl, hb, _⟩
    · cases hg'
    · cases hg'; exact hb
  have hg3 : w.grownBy w3 (some bm) := grown_mono (gr_trans hg (grown_below _ B1)) hgrow vb
  have B3 : Below w.heap.size w2 w3 := (B1.mono hg.size).grown hgrow (by have := hg.size; simp; omega) vb
  refine ⟨hs, fun h y hy => ?_, ?_, by simpa [encN] using hown, hg3⟩
  · rcases List.mem_cons.1 hy with rfl | hy
    · exact hxn
    · exact h y hy
  · exact hM.belowB B3 h1 bl h2 h3

set_option maxRecDepth 100000 in
set_option maxHeartbeats 8000000 in
theorem fillRight_any (mb bm N pb po n cap ob ocap : Nat) (px py : Nat → Int) (A0 : Nat → Nat → Option Nat) (lv : Value) (ls : List (Nat × Nat)) (os : List Nat) (w : World) (hn : n ≤ 40) (hol : os.length ≤ 40) (hN : N ≤ 1000) (hM : MeshAt w mb bm N pb po n cap px py A0 lv ls) (hos : ∀ y ∈ os, y < n) (hobm : ob ≠ bm)
    (hoc : ∀ j, (hj : j < os.length) → w.cell? ⟨ob, j, none⟩ = some (.int .i64 (os[j] : Nat))) :
    Calls Tryz.prog 71 #[.pointer (some ⟨mb, 0, none⟩), .slice (some ⟨ob, 0, none⟩) os.length ocap] w fun e w' =>
      e = .returned (.tuple #[]) ∧ MeshAt w' mb bm (N + 3 * os.length) pb po n cap px py (sweep px py A0 [] os).1 lv ls ∧ w.grownBy w' (some bm) := by
  obtain ⟨i0, hi, hz0, hz1, hz2⟩ := info_parts Tryz.info3
  obtain ⟨len, hlen⟩ : ∃ len, len = os.length := ⟨_, rfl⟩
  have HL : Hid (len = os.length) := hlen
  rw [← hlen] at hol ⊢
  clear hlen
  have HMM := hid hM
  have bl := hid hM.map.lt
  have H1 := hid (World.block_lt_of_cell? w _ hM.c0)
  have H2 := hid hM.plc.lt
  have H3 := hid (own_lt2 hM.ln)
  clear hM
  go_enter Tryz.func71, Tryz.ntmps71
  go_wp2
  go_loopw [4, 6, 7, 8, 11] (fun v _ _ _ i wr => ∃ (k : Nat) (A : Nat → Nat → Option Nat) (s : List Nat) (N' : Nat), k ≤ len ∧ i = .int .i64 k ∧ Hid (sweep px py A0 [] (os.take k) = (A, s)) ∧ s.length ≤ k ∧ (∀ y ∈ s, y < n) ∧ N' + 3 * s.length ≤ N + 3 * k ∧ Hid (MeshAt wr mb bm N' pb po n cap px py A lv ls) ∧ Hid (wr.ownsRow w.heap.size 3 1 v s.length (s.reverse.map encN)) ∧ Hid (w.grownBy wr (some bm)))
    (fun _ _ _ _ i _ => len - (intOf i).toNat)
  case atStart => exact ⟨0, A0, [], N, Nat.zero_le _, rfl, hid rfl, Nat.le_refl _, (fun y hy => by cases hy), Nat.le_refl _, HMM, hid (World.ownsRow_nil _ _ _ _), hid ⟨rfl, rfl, rfl, Nat.le_refl _, fun _ _ _ => rfl⟩⟩
  case round =>
    obtain ⟨k, A, st, N', hk, rfl, HSW, hsl, hsn, hNN, HM, HO, HG⟩ := hrel
    by_cases hlt : k < len
    · have hkl : k < os.length := by have := HL.out; omega
      obtain ⟨x, hx⟩ : ∃ x, x = os[k] := ⟨_, rfl⟩
      have hxn : x < n := by rw [hx]; exact hos _ (List.getElem_mem _)
      have hcx : wr.cell? ⟨ob, k, none⟩ = some (.int .i64 (x : Nat)) := by
        rw [hx]
        exact HG.out.cell (a := ⟨ob, k, none⟩) (hoc k hkl) (fun e => hobm (Option.some.inj e))
      have hlt' : (k : Int) < len := by omega
      have HX : Hid (x = os[k]) := hx
      clear hx
      obtain ⟨a5, c5, hv5⟩ := owns_len HO.out
      subst hv5
      go_wp2
      obtain ⟨W0, hW0⟩ : ∃ W0, W0 = wr := ⟨wr, rfl⟩
      go_loopw [4, 7, 8] (fun v _ _ w2 => ∃ (A2 : Nat → Nat → Option Nat) (s2 : List Nat) (N2 : Nat), Hid (popF px py x A2 s2 = popF px py x A st) ∧ s2.length ≤ k ∧ (∀ y ∈ s2, y < n) ∧ N2 + 3 * s2.length ≤ N + 3 * k ∧ Hid (MeshAt w2 mb bm N2 pb po n cap px py A2 lv ls) ∧ Hid (w2.ownsRow w.heap.size 3 1 v s2.length (s2.reverse.map encN)) ∧ Hid (w.grownBy w2 (some bm))) (fun v _ _ _ => lenOf v)
      case atStart => exact ⟨A, st, N', hid rfl, hsl, hsn, hNN, HM, HO, HG⟩
      case round =>
        obtain ⟨A2, s2, N2, HPP, hs2, hs2n, hN2, HM2, HO2, HG2⟩ := hrel
        clear HM HO HG hsl hsn hNN hcx hW0
        rcases s2 with _ | ⟨l, _ | ⟨b, r⟩⟩
        · obtain ⟨a6, c6, hv6⟩ := owns_len HO2.out
          subst hv6
          have HSTOP : Hid (popF px py x A2 [] = (A2, [])) := hid rfl
          simp only [List.length_nil]
          go_wp2_with (at_builtin; go_must (refine wpList_append_own _ rfl _ _ 25 rfl w.heap.size 3 i0 (.int .i64 0) 1 8 Tryz.underlying25 hi hz0 hz1 hz2 rfl (by decide) _ _ _ rfl (HO2.out.alloc _) ⟨wr.heap.size, 0, none⟩ 1 1 [.int .i64 (x : Nat)] rfl rfl ?c1 ?c2 ?c3 ?c4 ?c5 ?_))
          case c1 =>
            intro j u hj
            match j, hj with
            | 0, hj => simp at hj; subst hj; simp [Addr.add]
          case c2 => intro u hu; simp at hu; subst hu; rfl
          case c3 => unfold maxLen; omega
          case c4 => omega
          case c5 => have := HG2.out.size; simp; omega
          intro v' w3 hown' hgrow _
          have R := fill_step (px := px) (py := py) (n := n) (A0 := A0) hkl HX.out HSW.out HPP.out HSTOP.out HM2.out HO2.out HG2.out bl.out hown' hgrow hxn H1.out H2.out H3.out
          have HR := hid R
          clear R hown' hgrow
          go_wp2
          go_roundw
          case rel => exact ⟨k + 1, A2, x :: ([] : List Nat), N2, by omega, by go_num, hid HR.out.1, by have := hs2; simp only [List.length_cons, List.length_nil] at *; omega, HR.out.2.1 hs2n, by have := hN2; simp only [List.length_cons, List.length_nil] at *; omega, hid HR.out.2.2.1, hid HR.out.2.2.2.1, hid HR.out.2.2.2.2⟩
          case measure => simp [intOf]; omega
        · obtain ⟨a6, c6, hv6⟩ := owns_len HO2.out
          subst hv6
          have HSTOP : Hid (popF px py x A2 [l] = (A2, [l])) := hid rfl
          simp only [List.length_cons, List.length_nil]
          go_wp2_with (at_builtin; go_must (refine wpList_append_own _ rfl _ _ 25 rfl w.heap.size 3 i0 (.int .i64 0) 1 8 Tryz.underlying25 hi hz0 hz1 hz2 rfl (by decide) _ _ _ rfl (HO2.out.alloc _) ⟨wr.heap.size, 0, none⟩ 1 1 [.int .i64 (x : Nat)] rfl rfl ?c1 ?c2 ?c3 ?c4 ?c5 ?_))
          case c1 =>
            intro j u hj
            match j, hj with
            | 0, hj => simp at hj; subst hj; simp [Addr.add]
          case c2 => intro u hu; simp at hu; subst hu; rfl
          case c3 => unfold maxLen; omega
          case c4 => omega
          case c5 => have := HG2.out.size; simp; omega
          intro v' w3 hown' hgrow _
          have R := fill_step (px := px) (py := py) (n := n) (A0 := A0) hkl HX.out HSW.out HPP.out HSTOP.out HM2.out HO2.out HG2.out bl.out hown' hgrow hxn H1.out H2.out H3.out
          have HR := hid R
          clear R hown' hgrow
          go_wp2
          go_roundw
          case rel => exact ⟨k + 1, A2, x :: [l], N2, by omega, by go_num, hid HR.out.1, by have := hs2; simp only [List.length_cons, List.length_nil] at *; omega, HR.out.2.1 hs2n, by have := hN2; simp only [List.length_cons, List.length_nil] at *; omega, hid HR.out.2.2.1, hid HR.out.2.2.2.1, hid HR.out.2.2.2.2⟩
          case measure => simp [intOf]; omega
        · obtain ⟨g, cp, hv6, hgb, hglt, hcp⟩ := ownsRow_shape HO2.out (by simp)
          subst hv6
          have hc1 : wr.cell? ⟨g, r.length, none⟩ = some (.int .i64 (b : Nat)) := by
            rw [HO2.out.cellAt _ (by simp; omega)]; simp [encN]
          have hc2 : wr.cell? ⟨g, r.length + 1, none⟩ = some (.int .i64 (l : Nat)) := by
            rw [HO2.out.cellAt _ (by simp)]; simp [encN]
          have hbn := hs2n b (by simp)
          have hln := hs2n l (by simp)
          have hP := HM2.out.plc
          obtain ⟨rb, ib, cb, ab, ab'⟩ := hP.cell b hbn
          obtain ⟨rl, il, cl, al, al'⟩ := hP.cell l hln
          obtain ⟨rx, ix, cx, ax, ax'⟩ := hP.cell x hxn
          obtain ⟨rt, hr, hT⟩ := turn_any rb ib rl il rx ix _ _ _ _ _ _ ab ab' al al' ax ax' (hP.bd b hbn).1 (hP.bd b hbn).2 (hP.bd l hln).1 (hP.bd l hln).2 (hP.bd x hxn).1 (hP.bd x hxn).2
          have hg := geq_zero hr
          rw [show tw (px b) (py b) (px l) (py l) (px x) (py x) = T px py b l x from rfl] at hg
          have HT := hid hT
          have k0 := HM2.out.c0
          have z1 : (b : Int) < n := by omega
          have z2 : (l : Int) < n := by omega
          have z3 : (x : Int) < n := by omega
          have hge : decide ((2 : Int) ≤ ((r.length + 2 : Nat) : Int)) = true := by simp; omega
          have hrl : r.length + 2 ≤ k := hs2
          have hcpb : r.length + 2 ≤ cp := hcp
          clear hP ab ab' al al' ax ax' hr hT
          simp only [List.length_cons]
          have hpopE : popF px py x A2 (l :: b :: r) = if T px py b l x < 0 then popF px py x (addT A2 b x l) (b :: r) else (A2, l :: b :: r) := rfl
          by_cases hTT : 0 ≤ T px py b l x
          · have HSTOP : Hid (popF px py x A2 (l :: b :: r) = (A2, l :: b :: r)) := hid (by rw [hpopE, if_neg (by omega)])
            rw [decide_eq_true hTT] at hg
            clear hpopE
            go_wp2_with fail
            go_quiet (fail)
            go_wp2_with fail
            have cb' : (wr.drewN nq).cell? ⟨pb, po + b, none⟩ = some (.complex .f64 rb ib) := cb
            have cl' : (wr.drewN nq).cell? ⟨pb, po + l, none⟩ = some (.complex .f64 rl il) := cl
            have cx' : (wr.drewN nq).cell? ⟨pb, po + x, none⟩ = some (.complex .f64 rx ix) := cx
            have k0' : (wr.drewN nq).cell? ⟨mb, 0, none⟩ = some (.slice (some ⟨pb, po, none⟩) n cap) := k0
            have BW : Hid (Below wr.heap.size wr (wr.drewN nq)) := hid (below_drewN (Below.refl _ _) nq)
            obtain ⟨wq, hwq⟩ : ∃ wq, wq = wr.drewN nq := ⟨_, rfl⟩
            rw [← hwq] at cb' cl' cx' k0' BW ⊢
            clear hwq cb cl cx k0 hc1 hc2
            go_quiet ((go_at_call 68; exact Calls.quiet_of_same (HT.out _)))
            obtain ⟨w3, hw3⟩ : ∃ w3, w3 = wq.drewN nq := ⟨_, rfl⟩
            have B3 : Hid (Below wr.heap.size wr w3) := hid (by rw [hw3]; exact below_drewN BW.out nq)
            rw [← hw3]
            have HM3 := hid (HM2.out.below B3.out)
            have HO3 : Hid (w3.ownsRow w.heap.size 3 1 (.slice (some ⟨g, 0, none⟩) (r.length + 1 + 1) cp) (r.length + 1 + 1) ((l :: b :: r).reverse.map encN)) := hid (HO2.out.kept (grown_below none B3.out) (.inr (by simp [Value.ownBlock])))
            have HG3 : Hid (w.grownBy w3 (some bm)) := hid (gr_trans HG2.out (grown_below _ B3.out))
            clear hw3 BW B3 cb' cl' cx' k0' HM2 HG2
            go_wp2_with (at_builtin; go_must (refine wpList_append_own _ rfl _ _ 25 rfl w.heap.size 3 i0 (.int .i64 0) 1 8 Tryz.underlying25 hi hz0 hz1 hz2 rfl (by decide) _ _ _ rfl (HO3.out.alloc _) ⟨w3.heap.size, 0, none⟩ 1 1 [.int .i64 (x : Nat)] rfl rfl ?c1 ?c2 ?c3 ?c4 ?c5 ?_))
            case c1 =>
              intro j u hj
              match j, hj with
              | 0, hj => simp at hj; subst hj; simp [Addr.add]
            case c2 => intro u hu; simp at hu; subst hu; rfl
            case c3 => unfold maxLen; omega
            case c4 => omega
            case c5 => have := HG3.out.size; simp; omega
            intro v' w4 hown' hgrow _
            have hown2 : w4.ownsRow w.heap.size 3 1 v' ((l :: b :: r).length + 1) (List.map encN (l :: b :: r).reverse ++ [Value.int .i64 (x : Nat)]) := by simpa using hown'
            have R := fill_step (px := px) (py := py) (n := n) (A0 := A0) hkl HX.out HSW.out HPP.out HSTOP.out HM3.out HO3.out HG3.out bl.out hown2 hgrow hxn H1.out H2.out H3.out
            have HR := hid R
            clear R hown' hown2 hgrow
            go_wp2
            go_roundw
            case rel => exact ⟨k + 1, A2, x :: (l :: b :: r), N2, by omega, by go_num, hid HR.out.1, by have := hs2; simp only [List.length_cons, List.length_nil] at *; omega, HR.out.2.1 hs2n, by have := hN2; simp only [List.length_cons, List.length_nil] at *; omega, hid HR.out.2.2.1, hid HR.out.2.2.2.1, hid HR.out.2.2.2.2⟩
            case measure => simp [intOf]; omega
          · have HPOP : Hid (popF px py x A2 (l :: b :: r) = popF px py x (addT A2 b x l) (b :: r)) := hid (by rw [hpopE, if_pos (by omega)])
            have hTn : T px py b l x < 0 := by omega
            have d1 : b ≠ l := fun e => by subst e; rw [show T px py b b x = 0 by unfold T tw; grind] at hTn; omega
            have d2 : b ≠ x := fun e => by subst e; rw [show T px py b l b = 0 by unfold T tw; grind] at hTn; omega
            have d3 : x ≠ l := fun e => by subst e; rw [show T px py b x x = 0 by unfold T tw; grind] at hTn; omega
            rw [decide_eq_false hTT] at hg
            clear hpopE hTn
            have HS2 : Hid (∀ y ∈ b :: r, y < n) := hid fun y hy => hs2n y (List.mem_cons_of_mem _ hy)
            clear hs2n
            go_wp2_with fail
            go_quiet (fail)
            go_wp2_with fail
            have cb' : (wr.drewN nq).cell? ⟨pb, po + b, none⟩ = some (.complex .f64 rb ib) := cb
            have cl' : (wr.drewN nq).cell? ⟨pb, po + l, none⟩ = some (.complex .f64 rl il) := cl
            have cx' : (wr.drewN nq).cell? ⟨pb, po + x, none⟩ = some (.complex .f64 rx ix) := cx
            have k0' : (wr.drewN nq).cell? ⟨mb, 0, none⟩ = some (.slice (some ⟨pb, po, none⟩) n cap) := k0
            have BW : Hid (Below wr.heap.size wr (wr.drewN nq)) := hid (below_drewN (Below.refl _ _) nq)
            obtain ⟨wq, hwq⟩ : ∃ wq, wq = wr.drewN nq := ⟨_, rfl⟩
            rw [← hwq] at cb' cl' cx' k0' BW ⊢
            clear hwq cb cl cx k0 hc1 hc2
            go_quiet ((go_at_call 68; exact Calls.quiet_of_same (HT.out _)))
            obtain ⟨w3, hw3⟩ : ∃ w3, w3 = wq.drewN nq := ⟨_, rfl⟩
            have B3 : Hid (Below wr.heap.size wr w3) := hid (by rw [hw3]; exact below_drewN BW.out nq)
            rw [← hw3]
            have HM3 := hid (HM2.out.below B3.out)
            have HO3 : Hid (w3.ownsRow w.heap.size 3 1 (.slice (some ⟨g, 0, none⟩) (r.length + 1 + 1) cp) (r.length + 1 + 1) ((l :: b :: r).reverse.map encN)) := hid (HO2.out.kept (grown_below none B3.out) (.inr (by simp [Value.ownBlock])))
            have HG3 : Hid (w.grownBy w3 (some bm)) := hid (gr_trans HG2.out (grown_below _ B3.out))
            clear hw3 BW B3 cb' cl' cx' k0' HM2 HG2
            go_wp2_with fail
            clear hg
            refine (add_any mb bm N2 b x l A2 w3 HM3.out.c1 HM3.out.ne HM3.out.map (by omega) (by omega) (by omega) (by omega)).mono ?_
            rintro e w4 ⟨rfl, m4, g4⟩
            rw [put3 d2 d1 d3] at m4
            have HM4 := hid (HM3.out.grown g4 m4)
            have HG4 := hid (gr_trans HG3.out g4)
            have HO4 : Hid (w4.ownsRow w.heap.size 3 1 (.slice (some ⟨g, 0, none⟩) (r.length + 1) cp) (r.length + 1) ((b :: r).reverse.map encN)) := hid (by
              have h := HO3.out.kept g4 (.inr (by intro e; have h : g = bm := Option.some.inj e; have := bl.out; omega))
              rw [List.reverse_cons, List.map_append] at h
              exact ownsRow_pop (by simp) h)
            clear m4 g4 HM3 HG3 HO3
            go_wp2_with fail
            go_roundw
            case rel => exact ⟨addT A2 b x l, b :: r, N2 + 3, hid (HPOP.out.symm.trans HPP.out), by simp only [List.length_cons] at *; omega, HS2.out, by simp only [List.length_cons] at *; omega, HM4, HO4, HG4⟩
            case measure => simp [lenOf]
    · have hkl : k = len := by omega
      subst hkl
      have HSW2 : Hid (sweep px py A0 [] os = (A, st)) := hid (by have h := HSW.out; rw [HL.out, List.take_length] at h; exact h)
      have FINM : Hid (MeshAt wr mb bm (N + 3 * k) pb po n cap px py (sweep px py A0 [] os).1 lv ls) := hid (by
        rw [HSW2.out]
        exact HM.out.more (by omega))
      clear HSW HO HM
      go_wp2_with fail
      go_end0
      exact ⟨rfl, FINM.out, HG.out⟩
end Go.Proofs.YtdbebbbceeopaaaGreat

set_option linter.unusedSimpArgs false
namespace Go.Proofs.YtdbebbbceeopaaaGreat
open Go.RowKit Go.Maps
open Go.Sort (grow Holds putRow SWO PermIn SortedIn alloc_eq_grow cell?_grow cell?_putRow_other)
open Geo (sweep)

theorem reads_no : Reads (.map []) no :=
  ⟨⟨_, rfl⟩, fun _ _ _ _ => rfl, (fun _ _ _ _ _ e => by cases e), (fun kl h => by cases h)⟩

theorem holds_grown {n : Nat} [NeZero n] {w w' : World} {g bm : Nat} {d : Array (Fin n)} (h : Holds encF w g 0 d) (hg : w.grownBy w' (some bm)) (hne : g ≠ bm) (hl : g < w.heap.size) : Holds encF w' g 0 d := by
  intro j hj
  obtain ⟨h1, h2⟩ := h j hj
  have hb := hg.block g hl (fun e => hne (Option.some.inj e))
  exact ⟨(World.cell?_of_block (w := w) (a := ⟨g, 0 + j, none⟩) hb).trans h1, (World.frozen?_of_block (w := w) (a := ⟨g, 0 + j, none⟩) hb).trans h2⟩

theorem fillRight_len (mb bm N pb po n cap ob ocap len : Nat) (px py : Nat → Int) (A0 : Nat → Nat → Option Nat) (lv : Value) (ls : List (Nat × Nat)) (os : List Nat) (hlen : os.length = len) (w : World) (hn : n ≤ 40) (hol : len ≤ 40) (hN : N ≤ 1000) (hM : MeshAt w mb bm N pb po n cap px py A0 lv ls) (hos : ∀ y ∈ os, y < n) (hobm : ob ≠ bm)
    (hoc : ∀ j, (hj : j < os.length) → w.cell? ⟨ob, j, none⟩ = some (.int .i64 (os[j] : Nat))) :
    Calls Tryz.prog 71 #[.pointer (some ⟨mb, 0, none⟩), .slice (some ⟨ob, 0, none⟩) len ocap] w fun e w' =>
      e = .returned (.tuple #[]) ∧ MeshAt w' mb bm (N + 3 * len) pb po n cap px py (sweep px py A0 [] os).1 lv ls ∧ w.grownBy w' (some bm) := by
  subst hlen
  exact fillRight_any mb bm N pb po n cap ob ocap px py A0 lv ls os w hn hol hN hM hos hobm hoc

set_option maxRecDepth 100000 in
set_option maxHeartbeats 4000000 in
theorem new_any (px py : Nat → Int) (n : Nat) [NeZero n] (pb po cap : Nat) (w : World) (hp : Plc w pb po n px py) (hm : n ≤ 40) :
    Calls Tryz.prog 41 #[.slice (some ⟨pb, po, none⟩) n cap] w fun e w' =>
      ∃ mb bm, e = .returned (.pointer (some ⟨mb, 0, none⟩)) ∧ w.heap.size ≤ mb ∧ w.heap.size ≤ bm ∧ Below w.heap.size w w' ∧ ∃ d : Array (Fin n), d.size = n ∧ d.toList.Perm (List.finRange n) ∧ SortedIn (ltOf (cfI px py)) 0 n d ∧
        MeshAt w' mb bm 240 pb po n cap px py (mesh0 px py (nums d)) (.slice none 0 0) [] := by
  have HP := hid hp
  have hpb := hp.lt
  clear hp
  have mk := run_makeMap (P := Tryz.prog) 102 w
  obtain ⟨W1, hW1⟩ : ∃ W1, W1 = (w.alloc (.map #[] 0)).alloc (.cells #[.slice (some ⟨pb, po, none⟩) n cap, .map (some w.heap.size), .slice none 0 0] 105) := ⟨_, rfl⟩
  have B1 : Hid (Below w.heap.size w W1) := hid (by rw [hW1]; exact ((Below.refl _ _).alloc (Nat.le_refl _) _).alloc (by simp) _)
  have S1 : Hid (W1.heap.size = w.heap.size + 2) := hid (by rw [hW1]; simp)
  have K1 : Hid (W1.heap[w.heap.size + 1]? = some (.cells #[.slice (some ⟨pb, po, none⟩) n cap, .map (some w.heap.size), .slice none 0 0] 105 (0, 0))) := hid (by
    rw [hW1]
    have := heap_new (w.alloc (.map #[] 0)) (.cells #[.slice (some ⟨pb, po, none⟩) n cap, .map (some w.heap.size), .slice none 0 0] 105)
    rw [size_new] at this
    exact this)
  have HM1 : Hid (MeshAt W1 (w.heap.size + 1) w.heap.size 0 pb po n cap px py no (.slice none 0 0) []) := hid (by
    refine ⟨heap_cell K1.out 0, heap_cell K1.out 1, heap_cell K1.out 2, heap_free K1.out 2, World.ownsRow_nil _ _ _ _, (by intro e; cases e), HP.out.below B1.out hpb, ⟨.map [], ?_, reads_no⟩, by omega, by omega⟩
    rw [hW1]
    exact (World.ownsMap_made w Tryz.prog 110 _).alloc _)
  have c1 := hid (rightward_any px py n pb po cap W1 (HP.out.below B1.out hpb) hm)
  go_enter Tryz.func41, Tryz.ntmps41
  go_wp2_with fail
  rw [← hW1]
  clear hW1 mk
  refine c1.out.mono ?_
  rintro e w2 ⟨rfl, hb2, hs2, d, hd, hperm, hsort, hH⟩
  have HM2 := hid (HM1.out.below hb2)
  have c2 := hid (fillRight_len (w.heap.size + 1) w.heap.size 0 pb po n cap (W1.heap.size + 1) n n px py no (.slice none 0 0) [] (nums d) (by rw [nums_len, hd]) w2 hm hm (by omega) HM2.out (nums_lt d) (by have := S1.out; omega) (nums_cell hH))
  have HH := hid hH
  have HS2 := hid hs2
  have HD := hid (And.intro hperm hsort)
  have HB2 := hid (B1.out.trans (hb2.mono B1.out.size))
  clear c1 hH hperm hsort hb2 hs2
  go_wp2_with fail
  refine c2.out.mono ?_
  rintro e w3 ⟨rfl, hm3, hg3⟩
  have hH3 := holds_grown HH.out hg3 (by have := S1.out; omega) HS2.out
  have hrev := AnyE.slices_Reverse_arr Tryz.revL (encF (n := n)) (fun _ => rfl) (W1.heap.size + 1) 0 n d w3 hH3 (by omega)
  change Calls Tryz.prog 63 _ _ _ at hrev
  rw [hd] at hrev
  have c3 := hid hrev
  have HM3 := hid hm3
  have HH3 := hid hH3
  have HB3 := hid (HB2.out.grown hg3 HB2.out.size (fun k e => by have := Option.some.inj e; omega))
  clear c2 hrev hm3 hH3 hg3
  go_wp2_with fail
  refine c3.out.mono ?_
  rintro e w4 ⟨rfl, k4, hw4⟩
  have B4 : Below W1.heap.size w3 w4 := by rw [hw4]; exact Lib.below_putRow (Below.refl _ _) (by omega)
  have hH4 : Holds (encF (n := n)) w4 (W1.heap.size + 1) 0 d.reverse := by rw [hw4]; exact Sort.holds_putRow encF (Sort.ahead w3 k4) _ 0 d d.reverse HH3.out (by simp)
  have HM4 := hid (HM3.out.belowB B4 (by have := S1.out; omega) (by have := S1.out; omega) (by have := B1.out.size; omega) (fun g e => by cases e))
  have c4 := hid (fillRight_len (w.heap.size + 1) w.heap.size (0 + 3 * n) pb po n cap (W1.heap.size + 1) n n px py (sweep px py no [] (nums d)).1 (.slice none 0 0) [] (nums d.reverse) (by rw [nums_len]; simp [hd]) w4 hm hm (by omega) HM4.out (nums_lt _) (by have := S1.out; omega) (nums_cell hH4))
  have HB4 := hid (HB3.out.trans (B4.mono B1.out.size))
  clear c3 hw4 B4 hH4
  go_wp2_with fail
  refine c4.out.mono ?_
  rintro e w5 ⟨rfl, hm5, hg5⟩
  have HB5 := hid (HB4.out.grown hg5 HB4.out.size (fun k e => by have := Option.some.inj e; omega))
  have HM5 : Hid (MeshAt w5 (w.heap.size + 1) w.heap.size 240 pb po n cap px py (mesh0 px py (nums d)) (.slice none 0 0) []) := hid (by
    have h := hm5.more (show 0 + 3 * n + 3 * n ≤ 240 by omega)
    rw [nums_rev] at h
    exact h)
  clear c4 hm5 hg5
  go_wp2_with fail
  go_ret
  exact ⟨_, _, rfl, by omega, Nat.le_refl _, HB5.out, d, hd, HD.out.1, HD.out.2, HM5.out⟩
end Go.Proofs.YtdbebbbceeopaaaGreat
