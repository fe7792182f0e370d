import Derived.Test.YtdbebbbceeopaaaGreatH27
import Derived.Test.YtdbebbbceeopaaaGreatH29
set_option linter.unusedSimpArgs false
namespace Go.Proofs.YtdbebbbceeopaaaGreat
open Go.RowKit Go.Maps
open Geo (up bad Wg Mesh Cor Quad flipM Inj)

theorem crossB_symm1 (px py : Nat → Int) (i j u v : Nat) : crossB px py i j u v = crossB px py j i u v := by
  have e1 : T px py j i u = - T px py i j u := Geo.T_swap _ _ _
  have e2 : T px py j i v = - T px py i j v := Geo.T_swap _ _ _
  have e3 : T px py u v j * T px py u v i = T px py u v i * T px py u v j := Int.mul_comm _ _
  unfold crossB
  rw [e1, e2, e3, Int.neg_mul_neg]

theorem crossB_pair (px py : Nat → Int) (i j u v : Nat) : crossB px py i j u v = crossB px py u v i j := by
  unfold crossB
  rw [Bool.and_comm]

theorem crossB_self (px py : Nat → Int) (i j : Nat) : crossB px py i j i j = false := by
  unfold crossB
  rw [Geo.T_one, Int.zero_mul]
  rfl

theorem up_is (u v : Nat) : up u v = (u, v) ∨ up u v = (v, u) := by
  unfold up
  rcases Nat.le_total u v with h | h
  · left; rw [Nat.min_eq_left h, Nat.max_eq_right h]
  · right; rw [Nat.min_eq_right h, Nat.max_eq_left h]

theorem crossB_up (px py : Nat → Int) (i j u v : Nat) : crossB px py (up i j).1 (up i j).2 (up u v).1 (up u v).2 = crossB px py i j u v := by
  rcases up_is i j with h | h <;> rcases up_is u v with k | k <;> rw [h, k] <;> dsimp only
  · rw [crossB_symm]
  · rw [crossB_symm1]
  · rw [crossB_symm, crossB_symm1]

theorem betwB_symm (px py : Nat → Int) (i j p : Nat) : betwB px py i j p = betwB px py j i p := by
  have e1 : T px py j i p = - T px py i j p := Geo.T_swap _ _ _
  have e2 : Geo.dt px py p j i = Geo.dt px py p i j := by unfold Geo.dt; rw [Int.mul_comm (px j - px p), Int.mul_comm (py j - py p)]
  unfold betwB
  rw [e1, e2]
  have : decide (- T px py i j p = 0) = decide (T px py i j p = 0) := by
    by_cases h : T px py i j p = 0
    · rw [h]; rfl
    · rw [decide_eq_false h, decide_eq_false (by omega)]
  rw [this]

theorem betwB_up (px py : Nat → Int) (i j p : Nat) : betwB px py (up i j).1 (up i j).2 p = betwB px py i j p := by
  rcases up_is i j with h | h <;> rw [h] <;> dsimp only
  exact (betwB_symm px py i j p).symm

theorem joined_flip {M : Nat → Nat → Option Nat} {a b c d u v : Nat} (h : Joined M u v) (n1 : ¬ (u = a ∧ v = b)) (n2 : ¬ (u = b ∧ v = a)) : Joined (flipM M a b c d) u v := by
  have key : ∀ u v, ¬ (u = a ∧ v = b) → ¬ (u = b ∧ v = a) → M u v ≠ none → flipM M a b c d u v ≠ none := by
    intro u v k1 k2 k
    unfold flipM
    rw [if_neg (by rintro (h | h); exact k1 h; exact k2 h)]
    (repeat' split) <;> first | exact k | simp
  rcases h with h | h
  · exact .inl (key u v n1 n2 h)
  · exact .inr (key v u (fun k => n2 ⟨k.2, k.1⟩) (fun k => n1 ⟨k.2, k.1⟩) h)

/-- A line with nothing in its way is a side, once nothing is to be turned over any more. -/
theorem drawn {px py : Nat → Int} {n : Nat} {M : Nat → Nat → Option Nat} (h : Mesh px py n M) (hi : Inj px py n) (hc : Cor n M) {i j : Nat} (h1 : i < n) (h2 : j < n) (hne : i ≠ j) (hb : ∀ p, p < n → betwB px py i j p = false) (hbad : ∀ u v, bad px py (crossB px py i j) (away px py i j) M u v = false) : Joined M i j := by
  have hl := h.line hi hc h1 h2 hne (fun d hd h0 hlt => by
    have := hb d hd
    unfold betwB at this
    rw [decide_eq_true h0, decide_eq_true hlt] at this
    cases this) (fun a b c d e1 e2 t1 t2 t3 t4 => by
    have hx : crossB px py i j a b = true := by
      unfold crossB
      rw [decide_eq_true (Int.mul_neg_of_neg_of_pos t1 t2), decide_eq_true (Int.mul_neg_of_pos_of_neg t3 t4)]
      rfl
    have := hbad a b
    rw [bad_some e1 e2, hx] at this
    have k : ¬ 0 < Wg px py (away px py i j) a b c d := by
      intro k
      rw [decide_eq_true k] at this
      cases this
    exact Int.not_lt.1 k)
  rcases hl with ⟨c, e⟩ | ⟨c, e⟩
  · exact .inl (by rw [e]; simp)
  · exact .inr (by rw [e]; simp)

/-- Lines that may be drawn. -/
structure Lok (px py : Nat → Int) (n : Nat) (xs : List (Nat × Nat)) : Prop where
  lt : ∀ x ∈ xs, x.1 < n ∧ x.2 < n ∧ x.1 ≠ x.2
  cross : ∀ x ∈ xs, ∀ y ∈ xs, crossB px py x.1 x.2 y.1 y.2 = false
  betw : ∀ x ∈ xs, ∀ p, p < n → betwB px py x.1 x.2 p = false

theorem MeshAt.same {w w' : World} {mb bm N pb po n cap : Nat} {px py : Nat → Int} {M : Nat → Nat → Option Nat} {lv : Value} {ls : List (Nat × Nat)} (h : MeshAt w mb bm N pb po n cap px py M lv ls) (hs : w.heap.size ≤ w'.heap.size) (e1 : w'.heap[mb]? = w.heap[mb]?) (e2 : w'.heap[bm]? = w.heap[bm]?) (e3 : w'.heap[pb]? = w.heap[pb]?) (e4 : ∀ q, lv.ownBlock = some q → w'.heap[q]? = w.heap[q]?) : MeshAt w' mb bm N pb po n cap px py M lv ls := by
  have c : ∀ o, w'.cell? ⟨mb, o, none⟩ = w.cell? ⟨mb, o, none⟩ := fun o => World.cell?_of_block (w := w) (a := ⟨mb, o, none⟩) e1
  refine ⟨(c 0).trans h.c0, (c 1).trans h.c1, (c 2).trans h.c2, (World.frozen?_of_block (w := w) (a := ⟨mb, 2, none⟩) e1).trans h.f2, ⟨h.ln.1, ?_⟩, h.nl, h.plc.ofBlock hs e3, h.map.ofBlock e2, h.ne, h.np⟩
  rcases h.ln.2 with k | ⟨g, cp, cur, k1, k2, k3, k4⟩
  · exact .inl k
  · exact .inr ⟨g, cp, cur, k1, k2, (e4 g (by rw [k1]; rfl)).trans k3, k4⟩

theorem Hp.same {w w' : World} {hb : Nat} {l : List (Nat × Nat)} (h : Hp w hb l) (e1 : w'.heap[hb]? = w.heap[hb]?) (e2 : ∀ q, Rw w hb q → w'.heap[q]? = w.heap[q]?) : Hp w' hb l := by
  obtain ⟨v, c, o⟩ := h.ex
  have c' := (World.cell?_of_block (w := w) (a := ⟨hb, 0, none⟩) e1).trans c
  refine Hp.of c' ⟨o.1, ?_⟩ ((World.frozen?_of_block (w := w) (a := ⟨hb, 0, none⟩) e1).trans h.fr) (h.ne v c)
  rcases o.2 with k | ⟨g, cp, cur, k1, k2, k3, k4⟩
  · exact .inl k
  · exact .inr ⟨g, cp, cur, k1, k2, (e2 g ⟨v, c, by rw [k1]; rfl⟩).trans k3, k4⟩

/-- What is known between two lines that are drawn: w is the world ahead of all. -/
structure Dw (w W : World) (hb mb bm pb po n cap : Nat) (px py : Nat → Int) (M0 M : Nat → Nat → Option Nat) (lv : Value) (ls l : List (Nat × Nat)) : Prop where
  hp : Hp W hb l
  me : MeshAt W mb bm 1600 pb po n cap px py M lv ls
  ap : ∀ q, lv.ownBlock = some q → w.heap.size ≤ q ∧ q ≠ hb ∧ ¬ Rw W hb q
  fr : Dm w W mb bm (.slice none 0 0) lv
  mesh : Mesh px py n M
  cor : Cor n M
  re : Geo.Reach px py n M0 M
  jo : ∀ x ∈ ls, Joined M x.1 x.2

theorem Dw.next {w W W' : World} {hb mb bm pb po n cap : Nat} {px py : Nat → Int} {M0 M : Nat → Nat → Option Nat} {lv : Value} {ls l l' : List (Nat × Nat)} (h : Dw w W hb mb bm pb po n cap px py M0 M lv ls l) (hhb : hb = w.heap.size + 1) (h1 : mb < w.heap.size) (h2 : bm < w.heap.size) (h3 : pb < w.heap.size) (hp' : Hp W' hb l') (hf : Fm W W' hb) : Dw w W' hb mb bm pb po n cap px py M0 M lv ls l' := by
  have rw' : ∀ q, Rw W hb q → w.heap.size ≤ q := by
    rintro q ⟨v, c, e⟩
    obtain ⟨v', c', o⟩ := h.hp.ex
    rw [c] at c'
    cases c'
    have := (own_geH o q e).1
    omega
  have sz := h.fr.size
  have old : ∀ q, q < w.heap.size → W'.heap[q]? = W.heap[q]? := fun q hq => hf.block q (by omega) (by omega) (fun k => by have := rw' q k; omega)
  have own := own_geH h.me.ln
  refine ⟨hp', h.me.same hf.size (old _ h1) (old _ h2) (old _ h3) (fun q e => hf.block q (own q e).2 (h.ap q e).2.1 (h.ap q e).2.2), fun q e => ⟨(h.ap q e).1, (h.ap q e).2.1, fun k => (h.ap q e).2.2 (hf.row q (own q e).2 k)⟩, ?_, h.mesh, h.cor, h.re, h.jo⟩
  exact ⟨hf.os.trans h.fr.os, hf.tape.trans h.fr.tape, hf.output.trans h.fr.output, Nat.le_trans sz hf.size, fun k hk k1 k2 k3 => (old k hk).trans (h.fr.block k hk k1 k2 k3), h.fr.row⟩

theorem Dw.draw {w W W' : World} {hb mb bm pb po n cap : Nat} {px py : Nat → Int} {M0 M M' : Nat → Nat → Option Nat} {lv lv' : Value} {ls l : List (Nat × Nat)} {x : Nat × Nat} (h : Dw w W hb mb bm pb po n cap px py M0 M lv ls l) (hhb : hb = w.heap.size + 1) (h1 : mb < w.heap.size) (h2 : bm < w.heap.size)
    (hM : MeshAt W' mb bm 1600 pb po n cap px py M' lv' (ls ++ [x])) (hd : Dm W W' mb bm lv lv') (hm : Mesh px py n M') (hc : Cor n M') (hr : Geo.Reach px py n M0 M') (hj : ∀ y ∈ ls, Joined M' y.1 y.2) (hx : Joined M' x.1 x.2) : Dw w W' hb mb bm pb po n cap px py M0 M' lv' (ls ++ [x]) l := by
  have rw' : ∀ q, Rw W hb q → w.heap.size ≤ q ∧ q < W.heap.size := by
    rintro q ⟨v, c, e⟩
    obtain ⟨v', c', o⟩ := h.hp.ex
    rw [c] at c'
    cases c'
    have := own_geH o q e
    omega
  have sz := h.fr.size
  have lhb := h.hp.lt
  have nhb : lv.ownBlock ≠ some hb := fun e => (h.ap hb e).2.1 rfl
  have ehb : W'.heap[hb]? = W.heap[hb]? := hd.block hb lhb (by omega) (by omega) nhb
  have own := own_geH hM.ln
  refine ⟨h.hp.same ehb (fun q k => hd.block q (rw' q k).2 (by have := (rw' q k).1; omega) (by have := (rw' q k).1; omega) (fun e => (h.ap q e).2.2 k)), hM, fun q e => ?_, ?_, hm, hc, hr, fun y hy => ?_⟩
  · rcases Nat.lt_or_ge q W.heap.size with k | k
    · have e' := hd.row q k e
      refine ⟨(h.ap q e').1, (h.ap q e').2.1, fun r => (h.ap q e').2.2 ?_⟩
      obtain ⟨v, c, e2⟩ := r
      exact ⟨v, (World.cell?_of_block (w := W) (a := ⟨hb, 0, none⟩) ehb).symm.trans c, e2⟩
    · refine ⟨by omega, by omega, fun r => ?_⟩
      obtain ⟨v, c, e2⟩ := r
      have := (rw' q ⟨v, (World.cell?_of_block (w := W) (a := ⟨hb, 0, none⟩) ehb).symm.trans c, e2⟩).2
      omega
  · refine ⟨hd.os.trans h.fr.os, hd.tape.trans h.fr.tape, hd.output.trans h.fr.output, Nat.le_trans sz hd.size, fun k hk k1 k2 k3 => (hd.block k (by omega) k1 k2 (fun e => by have := (h.ap k e).1; omega)).trans (h.fr.block k hk k1 k2 k3), fun k hk e => ?_⟩
    have e' := hd.row k (by omega) e
    have := (h.ap k e').1
    omega
  · rcases List.mem_append.1 hy with k | k
    · exact hj y k
    · simp at k; subst k; exact hx

end Go.Proofs.YtdbebbbceeopaaaGreat

set_option linter.unusedSimpArgs false
namespace Go.Proofs.YtdbebbbceeopaaaGreat
open Go.RowKit Go.Maps
open Geo (up bad Wg Mesh Cor Quad flipM Inj)

/-- A row of lines: two cells each. -/
def Lns (w : World) (a : Option Addr) (xs : List (Nat × Nat)) : Prop := xs = [] ∨ ∃ g o, a = some ⟨g, o, none⟩ ∧ g < w.heap.size ∧ ∀ i, (hi : i < xs.length) → w.cell? ⟨g, o + i * 2, none⟩ = some (.int .i64 (xs[i].1 : Nat)) ∧ w.cell? ⟨g, o + i * 2 + 1, none⟩ = some (.int .i64 (xs[i].2 : Nat))

theorem Lns.below {w w' : World} {a : Option Addr} {xs : List (Nat × Nat)} (h : Lns w a xs) (hb : Below w.heap.size w w') : Lns w' a xs := by
  rcases h with h | ⟨g, o, e, hg, hc⟩
  · exact .inl h
  · exact .inr ⟨g, o, e, Nat.lt_of_lt_of_le hg hb.size, fun i hi => ⟨(hb.cell (by exact hg)).trans (hc i hi).1, (hb.cell (by exact hg)).trans (hc i hi).2⟩⟩

set_option maxRecDepth 100000 in
set_option maxHeartbeats 8000000 in
theorem drawAll_any (mb bm pb po n cap lcap : Nat) (px py : Nat → Int) (M0 : Nat → Nat → Option Nat) (la : Option Addr) (xs : List (Nat × Nat)) (w : World) (hn : n ≤ 40) (hM : MeshAt w mb bm 1600 pb po n cap px py M0 (.slice none 0 0) []) (hm0 : Mesh px py n M0) (hc0 : Cor n M0) (hinj : Inj px py n) (hmp : mb ≠ pb)
    (hl : Lns w la xs) (hlen : xs.length ≤ 100) (hok : Lok px py n xs) :
    Calls Tryz.prog 42 #[.pointer (some ⟨mb, 0, none⟩), .slice la xs.length lcap] w fun e w' => e = .returned (.tuple #[]) ∧
      ∃ M lv ls, MeshAt w' mb bm 1600 pb po n cap px py M lv ls ∧ Dm w w' mb bm (.slice none 0 0) lv ∧ Mesh px py n M ∧ Cor n M ∧ Geo.Reach px py n M0 M ∧ ls.length ≤ 100 ∧ (∀ x ∈ ls, Joined M x.1 x.2) ∧ (∀ x ∈ xs, up x.1 x.2 ∈ ls) ∧ ∀ y ∈ ls, ∃ x ∈ xs, y = up x.1 x.2 := by
  obtain ⟨hb, hhb⟩ : ∃ hb, hb = w.heap.size + 1 := ⟨_, rfl⟩
  have HHB := hid hhb
  obtain ⟨W1, hW1⟩ : ∃ W1, W1 = (w.alloc (.cells #[] 110)).alloc (.cells #[.slice (some ⟨w.heap.size, 0, none⟩) 0 0] 107) := ⟨_, rfl⟩
  have B1 : Hid (Below w.heap.size w W1) := hid (by rw [hW1]; exact ((Below.refl _ _).alloc (Nat.le_refl _) _).alloc (by simp) _)
  have S1 : Hid (W1.heap.size = w.heap.size + 2) := hid (by rw [hW1]; simp)
  have G0 : Hid (W1.heap[w.heap.size]? = some (.cells #[] 110 (0, 0))) := hid (by
    rw [hW1]
    rw [Below.heap_alloc _ _ _ (by simp)]
    exact heap_new w (.cells #[] 110))
  have K1 : Hid (W1.heap[hb]? = some (.cells #[.slice (some ⟨w.heap.size, 0, none⟩) 0 0] 107 (0, 0))) := hid (by
    rw [hW1, HHB.out]
    have := heap_new (w.alloc (.cells #[] 110)) (.cells #[.slice (some ⟨w.heap.size, 0, none⟩) 0 0] 107)
    rw [size_new] at this
    exact this)
  have HP1 : Hid (Hp W1 hb []) := hid (Hp.of (heap_cell K1.out 0) ⟨rfl, .inr ⟨w.heap.size, 0, #[], rfl, by have := HHB.out; omega, G0.out, Nat.le_refl _, by unfold maxLen; omega, rfl, rfl⟩⟩ (heap_free K1.out 0) (by intro e; have h : w.heap.size = hb := Option.some.inj e; have := HHB.out; omega))
  have HM := hid hM
  have HL := hid hl
  have HOK := hid hok
  have m1 : mb < w.heap.size := World.block_lt_of_cell? w _ hM.c0
  have m2 : bm < w.heap.size := hM.map.lt
  have m3 : pb < w.heap.size := hM.plc.lt
  obtain ⟨k, hk⟩ : ∃ k, k = xs.length := ⟨_, rfl⟩
  have HK := hid hk
  rw [← hk] at hlen ⊢
  clear hM hl hok hk K1 G0
  go_enter Tryz.func42, Tryz.ntmps42
  go_wp2_with fail
  rw [← hW1, ← hhb]
  clear hW1 hhb
  go_loopw [11] (fun ix wr => ∃ (i : Nat) (l : List (Nat × Nat)), i ≤ k ∧ ix = .int .i64 i ∧ l.length = i ∧ Hid (Hp wr hb l) ∧ Hid (∀ y ∈ l, ∃ x ∈ xs, y = up x.1 x.2) ∧ Hid (∀ r, (hr : r < xs.length) → r < i → up xs[r].1 xs[r].2 ∈ l) ∧ Hid (Below w.heap.size w wr)) (fun ix _ => k - (intOf ix).toNat)
  case atStart => exact ⟨0, [], Nat.zero_le _, rfl, rfl, HP1, hid (fun y hy => by cases hy), hid (fun r _ hr => by omega), B1⟩
  case round =>
    obtain ⟨i, l, hi, rfl, hll, HP, HY, HX, HB⟩ := hrel
    clear HP1 B1
    by_cases hik : i < k
    · have hik' : (i : Int) < k := by omega
      have hix : i < xs.length := by rw [← HK.out]; exact hik
      obtain ⟨lg, lo, hla, hlg, hlc⟩ : ∃ lg lo, la = some ⟨lg, lo, none⟩ ∧ lg < w.heap.size ∧ (w.cell? ⟨lg, lo + i * 2, none⟩ = some (.int .i64 (xs[i].1 : Nat)) ∧ w.cell? ⟨lg, lo + i * 2 + 1, none⟩ = some (.int .i64 (xs[i].2 : Nat))) := by
        rcases HL.out with h | ⟨g, o, e, h1, h2⟩
        · rw [h] at hix; simp at hix
        · exact ⟨g, o, e, h1, h2 i hix⟩
      subst hla
      have xc := (HB.out.cell (p := ⟨lg, lo + i * 2, none⟩) hlg).trans hlc.1
      have yc := (HB.out.cell (p := ⟨lg, lo + i * 2 + 1, none⟩) hlg).trans hlc.2
      have HUP : Hid (∃ x ∈ xs, up xs[i].1 xs[i].2 = up x.1 x.2) := hid ⟨xs[i], List.getElem_mem hix, rfl⟩
      have HXI : Hid (∀ z, z = up xs[i].1 xs[i].2 → ∀ r, (hr : r < xs.length) → r < i + 1 → up xs[r].1 xs[r].2 ∈ z :: l) := hid (fun z hz r hr hri => by
        rcases Nat.lt_or_ge r i with q | q
        · exact List.mem_cons_of_mem _ (HX.out r hr q)
        · have : r = i := by omega
          subst this; rw [hz]; exact List.mem_cons_self)
      obtain ⟨u, hu⟩ : ∃ u, u = xs[i].1 := ⟨_, rfl⟩
      obtain ⟨v, hv⟩ : ∃ v, v = xs[i].2 := ⟨_, rfl⟩
      rw [← hu] at xc HUP HXI
      rw [← hv] at yc HUP HXI
      have HXJ := hid (HXI.out _ rfl)
      clear hu hv hlc HXI
      obtain ⟨W2, hW2⟩ : ∃ W2, W2 = wr.alloc (.cells #[.int .i64 (u : Nat), .int .i64 (v : Nat)] 54) := ⟨_, rfl⟩
      have B2 : Hid (Below wr.heap.size wr W2) := hid (by rw [hW2]; exact (Below.refl _ _).alloc (Nat.le_refl _) _)
      have HP2 := hid (HP.out.below B2.out (Nat.le_refl _))
      have WA := hid (wait_any hb u v l W2 HP2.out (by omega))
      have HB2 : Hid (Below w.heap.size w W2) := hid (HB.out.trans (B2.out.mono HB.out.size))
      have q1 : (0 : Int) ≤ (i : Int) := by omega
      go_wp2_with fail
      rw [← hW2]
      refine WA.out.mono ?_
      rintro e w3 ⟨rfl, ⟨l', hp3, hpm⟩, hf3⟩
      have HP3 := hid hp3
      have HB3 : Hid (Below w.heap.size w w3) := hid (HB2.out.trans (hf3.belowB HP2.out (by have := HHB.out; omega) HB2.out.size))
      have HY3 : Hid (∀ y ∈ l', ∃ x ∈ xs, y = up x.1 x.2) := hid (fun y hy => by
        rcases List.mem_cons.1 (hpm.mem_iff.1 hy) with rfl | hy
        · exact HUP.out
        · exact HY.out y hy)
      have HX3 : Hid (∀ r, (hr : r < xs.length) → r < i + 1 → up xs[r].1 xs[r].2 ∈ l') := hid (fun r hr hri => hpm.mem_iff.2 (HXJ.out r hr hri))
      have hl3 : l'.length = i + 1 := by rw [hpm.length_eq, List.length_cons, hll]
      clear hp3 hf3 hpm hW2 WA xc yc
      go_wp2_with fail
      go_roundw
      case rel => exact ⟨i + 1, l', by omega, by go_num, hl3, HP3, HY3, HX3, HB3⟩
      case measure => simp [intOf]; omega
    · have hii : k = i := by omega
      subst hii
      have HXX : Hid (∀ x ∈ xs, up x.1 x.2 ∈ l) := hid (fun x hx => by
        obtain ⟨r, hr, rfl⟩ := List.getElem_of_mem hx
        exact HX.out r hr (by rw [HK.out]; exact hr))
      have D0 : Hid (Dw w wr hb mb bm pb po n cap px py M0 M0 (.slice none 0 0) [] l) := hid ⟨HP.out, (HM.out.belowB HB.out m1 m2 m3 (fun g e => by cases e)), fun q e => (by cases e), ⟨HB.out.os, HB.out.tape, HB.out.output, HB.out.size, fun k hk _ _ _ => HB.out.block k hk, fun k hk e => e⟩, hm0, hc0, .refl, fun x hx => by cases hx⟩
      clear HX HP HB HM hm0 hc0
      go_wp2_with fail
      clear HL HK
      go_loopw [23] (fun _ wr => ∃ (M : Nat → Nat → Option Nat) (lv : Value) (ls l : List (Nat × Nat)), Hid (Dw w wr hb mb bm pb po n cap px py M0 M lv ls l) ∧ ls.length + l.length = k ∧ Hid (∀ y ∈ l, ∃ x ∈ xs, y = up x.1 x.2) ∧ Hid (∀ y ∈ ls, ∃ x ∈ xs, y = up x.1 x.2) ∧ Hid (∀ x ∈ xs, up x.1 x.2 ∈ ls ∨ up x.1 x.2 ∈ l)) (fun _ wr => lenW wr hb)
      case atStart => exact ⟨M0, _, [], l, D0, by simp [hll], HY, hid (fun y hy => by cases hy), hid (fun x hx => .inr (HXX.out x hx))⟩
      case round =>
        clear D0 HY HXX hll
        obtain ⟨M, lv, ls, l, HD, hlen2, HY, HZ, HE⟩ := hrel
        obtain ⟨v, c0, ho⟩ := HD.out.hp.ex
        obtain ⟨a1, c1, hv⟩ := owns_len2 ho
        subst hv
        have HLN := hid (len_any a1 l.length c1 wr)
        clear ho
        by_cases hl0 : l.length = 0
        · have hle : l = [] := List.eq_nil_of_length_eq_zero hl0
          rw [hl0] at c0 HLN
          have FIN : Hid (∀ x ∈ xs, up x.1 x.2 ∈ ls) := hid (fun x hx => by
            rcases HE.out x hx with h | h
            · exact h
            · rw [hle] at h; cases h)
          clear hle
          go_wp2_with fail
          refine HLN.out.mono ?_
          rintro e w1 ⟨rfl, rfl⟩
          go_wp2_with fail
          go_end0
          exact ⟨rfl, M, lv, ls, HD.out.me, HD.out.fr, HD.out.mesh, HD.out.cor, HD.out.re, by omega, HD.out.jo, FIN.out, HZ.out⟩
        · have hd : decide ((0 : Int) < (l.length : Int)) = true := by simp; omega
          have NX := hid (next_any hb l wr HD.out.hp (by omega) (by omega))
          go_wp2_with fail
          refine HLN.out.mono ?_
          rintro e w1 ⟨rfl, rfl⟩
          go_wp2_with fail
          refine NX.out.mono ?_
          rintro e w2 ⟨⟨x, l1, rfl, hp2, hpm⟩, hf2⟩
          have HD2 := hid (HD.out.next HHB.out m1 m2 m3 hp2 hf2)
          have LW : Hid (lenW w1 hb = l.length) := hid (lenW_eq HD.out.hp)
          have hl1 : l.length = l1.length + 1 := by rw [hpm.length_eq]; rfl
          obtain ⟨x0, hx0, ex0⟩ := HY.out x (hpm.mem_iff.2 List.mem_cons_self)
          have lx := HOK.out.lt x0 hx0
          have ux : x.1 < n ∧ x.2 < n ∧ x.1 ≠ x.2 := by
            rw [ex0]
            rcases up_is x0.1 x0.2 with h | h <;> rw [h] <;> dsimp only <;> omega
          have bx : ∀ p, p < n → betwB px py x.1 x.2 p = false := fun p hp => by rw [ex0, betwB_up]; exact HOK.out.betw x0 hx0 p hp
          have cx : ∀ y ∈ ls, crossB px py x.1 x.2 y.1 y.2 = false := fun y hy => by
            obtain ⟨y0, hy0, ey0⟩ := HZ.out y hy
            rw [ex0, ey0, crossB_up]
            exact HOK.out.cross x0 hx0 y0 hy0
          have nlp : lv.ownBlock ≠ some pb := fun e => by have := (HD.out.ap pb e).1; omega
          have DR := hid (draw_any mb bm pb po n cap x.1 x.2 px py M lv ls (fun M => Geo.Reach px py n M0 M ∧ ∀ y ∈ ls, Joined M y.1 y.2) w2 hn HD2.out.me (by omega) HD2.out.mesh HD2.out.cor ⟨HD2.out.re, HD2.out.jo⟩ ux.1 ux.2.1 hmp nlp
            (fun M a b c d hm q hx hk => ⟨.flip hk.1 hm q, fun y hy => joined_flip (hk.2 y hy) (fun e => by rw [← e.1, ← e.2, cx y hy] at hx; cases hx) (fun e => by rw [crossB_symm, ← e.1, ← e.2, cx y hy] at hx; cases hx)⟩))
          have HUX := hid ux
          have HBX := hid bx
          have HPM := hid hpm
          have HX0 := hid (⟨x0, hx0, ex0⟩ : ∃ x0 ∈ xs, x = up x0.1 x0.2)
          clear hp2 hpm hf2 c0 NX HLN ex0 hx0 lx ux bx cx nlp HD
          go_wp2_with fail
          refine DR.out.mono ?_
          rintro e w3 ⟨rfl, M', lv', hM3, hd3, hm3, hc3, hk3, hbad⟩
          have HJ := drawn hm3 hinj hc3 HUX.out.1 HUX.out.2.1 HUX.out.2.2 HBX.out hbad
          have HD3 := hid (HD2.out.draw HHB.out m1 m2 hM3 hd3 hm3 hc3 hk3.1 hk3.2 HJ)
          have LW3 : Hid (lenW w3 hb = l1.length) := hid (lenW_eq HD3.out.hp)
          clear hM3 hd3 hm3 hc3 hk3 hbad HJ DR HD2
          go_wp2_with fail
          go_roundw
          case rel =>
            refine ⟨M', lv', ls ++ [x], l1, HD3, by simp; omega, hid (fun y hy => HY.out y (HPM.out.mem_iff.2 (List.mem_cons_of_mem _ hy))), hid (fun y hy => ?_), hid (fun z hz => ?_)⟩
            · rcases List.mem_append.1 hy with h | h
              · exact HZ.out y h
              · simp at h; subst h; exact HX0.out
            · rcases HE.out z hz with h | h
              · exact .inl (List.mem_append_left _ h)
              · rcases List.mem_cons.1 (HPM.out.mem_iff.1 h) with h | h
                · exact .inl (List.mem_append_right _ (by rw [h]; simp))
                · exact .inr h
          case measure => rw [LW3.out, LW.out]; omega
end Go.Proofs.YtdbebbbceeopaaaGreat

set_option linter.unusedSimpArgs false
namespace Go.Proofs.YtdbebbbceeopaaaGreat
open Go.RowKit Go.Maps

/-- A row of lines as they come in: two numbers each. -/
def LnI (w : World) (a : Option Addr) (xs : List (Int × Int)) : Prop := xs = [] ∨ ∃ g o, a = some ⟨g, o, none⟩ ∧ g < w.heap.size ∧ ∀ i, (hi : i < xs.length) → w.cell? ⟨g, o + i * 2, none⟩ = some (.int .i64 xs[i].1) ∧ w.cell? ⟨g, o + i * 2 + 1, none⟩ = some (.int .i64 xs[i].2)

theorem LnI.below {w w' : World} {a : Option Addr} {xs : List (Int × Int)} (h : LnI w a xs) (hb : Below w.heap.size w w') : LnI w' a xs := by
  rcases h with h | ⟨g, o, e, hg, hc⟩
  · exact .inl h
  · exact .inr ⟨g, o, e, Nat.lt_of_lt_of_le hg hb.size, fun i hi => ⟨(hb.cell (by exact hg)).trans (hc i hi).1, (hb.cell (by exact hg)).trans (hc i hi).2⟩⟩

/-- Is a line one of two different points? -/
def Jn (n : Nat) (x : Int × Int) : Prop := (0 ≤ x.1 ∧ x.1 < n) ∧ (0 ≤ x.2 ∧ x.2 < n) ∧ x.1 ≠ x.2

/-- What allJoinTwo answers. -/
def JnR (n : Nat) (xs : List (Int × Int)) (e : Ending) : Prop := ∃ b : Bool, e = .returned (.bool b) ∧ (b = true ↔ ∀ x ∈ xs, Jn n x)

set_option maxRecDepth 100000 in
set_option maxHeartbeats 4000000 in
theorem allJoin_any (n cap lcap : Nat) (pa la : Option Addr) (xs : List (Int × Int)) (w : World) (hl : LnI w la xs) (hk : xs.length ≤ 1000000) :
    Calls Tryz.prog 69 #[.slice pa n cap, .slice la xs.length lcap] w fun e w' => JnR n xs e ∧ Below w.heap.size w w' := by
  have HL := hid hl
  obtain ⟨k, hkk⟩ : ∃ k, k = xs.length := ⟨_, rfl⟩
  have HK := hid hkk
  rw [← hkk] at hk ⊢
  clear hl hkk
  go_enter Tryz.func69, Tryz.ntmps69
  go_wp2_with fail
  go_loopw [9] (fun ix wr => ∃ i : Nat, i ≤ k ∧ ix = .int .i64 i ∧ Hid (∀ r, (hr : r < xs.length) → r < i → Jn n xs[r]) ∧ Hid (Below w.heap.size w wr)) (fun ix _ => k - (intOf ix).toNat)
  case atStart => exact ⟨0, Nat.zero_le _, rfl, hid (fun r _ h => by omega), hid (Below.refl _ _)⟩
  case round =>
    obtain ⟨i, hi, rfl, HJ, HB⟩ := hrel
    by_cases hik : i < k
    · have hik' : (i : Int) < k := by omega
      have hix : i < xs.length := by rw [← HK.out]; exact hik
      obtain ⟨lg, lo, hla, hlg, hlc⟩ : ∃ lg lo, la = some ⟨lg, lo, none⟩ ∧ lg < w.heap.size ∧ (w.cell? ⟨lg, lo + i * 2, none⟩ = some (.int .i64 xs[i].1) ∧ w.cell? ⟨lg, lo + i * 2 + 1, none⟩ = some (.int .i64 xs[i].2)) := by
        rcases HL.out with h | ⟨g, o, e, h1, h2⟩
        · rw [h] at hix; simp at hix
        · exact ⟨g, o, e, h1, h2 i hix⟩
      subst hla
      have xc := (HB.out.cell (p := ⟨lg, lo + i * 2, none⟩) hlg).trans hlc.1
      have yc := (HB.out.cell (p := ⟨lg, lo + i * 2 + 1, none⟩) hlg).trans hlc.2
      have HNO : Hid (¬ Jn n xs[i] → ¬ ∀ x ∈ xs, Jn n x) := hid (fun h h' => h (h' _ (List.getElem_mem hix)))
      have HYES : Hid (Jn n xs[i] → ∀ r, (hr : r < xs.length) → r < i + 1 → Jn n xs[r]) := hid (fun h r hr hri => by
        rcases Nat.lt_or_ge r i with q | q
        · exact HJ.out r hr q
        · have : r = i := by omega
          subst this; exact h)
      obtain ⟨a, ha⟩ : ∃ a, a = xs[i].1 := ⟨_, rfl⟩
      obtain ⟨b, hb⟩ : ∃ b, b = xs[i].2 := ⟨_, rfl⟩
      have hab : xs[i] = (a, b) := by rw [ha, hb]
      rw [← ha] at xc
      rw [← hb] at yc
      rw [hab] at HNO HYES
      clear ha hb hab hlc
      have q1 : (0 : Int) ≤ (i : Int) := by omega
      have HB2 : Hid (∀ o, Below w.heap.size w (wr.alloc o)) := hid (fun o => HB.out.alloc HB.out.size o)
      obtain ⟨mn, hmn⟩ : ∃ mn, min a b = mn := ⟨_, rfl⟩
      obtain ⟨mx, hmx⟩ : ∃ mx, max a b = mx := ⟨_, rfl⟩
      have HMN := hid (show mn ≤ a ∧ mn ≤ b ∧ (mn = a ∨ mn = b) by omega)
      have HMX := hid (show a ≤ mx ∧ b ≤ mx ∧ (mx = a ∨ mx = b) by omega)
      by_cases g1 : mn < 0
      · have NO := hid (HNO.out (fun h => by have := HMN.out; have := h.1; have := h.2.1; dsimp only at *; omega))
        clear HNO HYES
        go_wp2_with fail
        go_ret
        exact ⟨⟨false, rfl, ⟨fun h => (by cases h), fun h => absurd h NO.out⟩⟩, HB2.out _⟩
      · by_cases g2 : (n : Int) ≤ mx
        · have NO := hid (HNO.out (fun h => by have := HMX.out; have := h.1; have := h.2.1; dsimp only at *; omega))
          clear HNO HYES
          go_wp2_with fail
          go_ret
          exact ⟨⟨false, rfl, ⟨fun h => (by cases h), fun h => absurd h NO.out⟩⟩, HB2.out _⟩
        · by_cases g3 : a = b
          · have NO := hid (HNO.out (fun h => h.2.2 g3))
            have d3 : (a == b) = true := by simpa using g3
            clear HNO HYES g3
            go_wp2_with fail
            go_ret
            exact ⟨⟨false, rfl, ⟨fun h => (by cases h), fun h => absurd h NO.out⟩⟩, HB2.out _⟩
          · have YES := hid (HYES.out ⟨by have := HMN.out; have := HMX.out; dsimp only; omega, by have := HMN.out; have := HMX.out; dsimp only; omega, g3⟩)
            have d3 : (a == b) = false := by simpa using g3
            clear HNO HYES
            go_wp2_with fail
            go_roundw
            case rel => exact ⟨i + 1, by omega, by go_num, YES, hid (HB2.out _)⟩
            case measure => simp [intOf]; omega
    · have hii : k = i := by omega
      subst hii
      go_wp2_with fail
      go_ret
      exact ⟨⟨true, rfl, ⟨fun _ x hx => by
        obtain ⟨r, hr, rfl⟩ := List.getElem_of_mem hx
        exact HJ.out r hr (by rw [HK.out]; exact hr), fun _ => rfl⟩⟩, HB.out⟩
end Go.Proofs.YtdbebbbceeopaaaGreat

set_option linter.unusedSimpArgs false
namespace Go.Proofs.YtdbebbbceeopaaaGreat
open Go.RowKit Go.Maps
open Flt (Is)

/-- What IndexFunc answers: a number from 0 on, if there is one. -/
def IdxR (f : Nat → Bool) (n : Nat) (e : Ending) : Prop := ∃ r : Int, e = .returned (.int .i64 r) ∧ decide (0 ≤ r) = decide (∃ i, i < n ∧ f i = true)

def BolR (f : Nat → Bool) (n : Nat) (e : Ending) : Prop := e = .returned (.bool (decide (∃ i, i < n ∧ f i = true)))

set_option maxRecDepth 100000 in
set_option maxHeartbeats 2000000 in
theorem index126 (pb po n cap : Nat) (px py : Nat → Int) (f : Nat → Bool) (caps : Array Value) (w : World) (hn : n ≤ 1000) (hp : Plc w pb po n px py)
    (hcl : ∀ (W : World) (i r q : Nat), i < n → Below w.heap.size w W → w.cell? ⟨pb, po + i, none⟩ = some (.complex .f64 r q) → Calls Tryz.prog 99 (#[.complex .f64 r q] ++ caps) W fun e w' => e = .returned (.bool (f i)) ∧ Below W.heap.size W w') :
    Calls Tryz.prog 126 #[.slice (some ⟨pb, po, none⟩) n cap, .func (.func 99) #[] caps] w fun e w' => IdxR f n e ∧ Below w.heap.size w w' := by
  have HP := hid hp
  have CL := hid hcl
  clear hp hcl
  go_enter Tryz.func126, Tryz.ntmps126
  go_wp2_with fail
  go_loopw [8] (fun ix wr => ∃ i : Nat, i ≤ n ∧ ix = .int .i64 i ∧ Hid (∀ r, r < i → f r = false) ∧ Hid (Below w.heap.size w wr)) (fun ix _ => n - (intOf ix).toNat)
  case atStart => exact ⟨0, Nat.zero_le _, rfl, hid (fun r h => by omega), hid (Below.refl _ _)⟩
  case round =>
    obtain ⟨i, hi, rfl, HF, HB⟩ := hrel
    by_cases hin : i < n
    · have hin' : (i : Int) < n := by omega
      obtain ⟨r, q, c0, _, _⟩ := HP.out.cell i hin
      have c1 := (HB.out.cell (p := ⟨pb, po + i, none⟩) HP.out.lt).trans c0
      have C := hid (CL.out wr i r q hin HB.out c0)
      have q1 : (0 : Int) ≤ (i : Int) := by omega
      clear c0
      go_wp2_with fail
      refine C.out.mono ?_
      rintro e w1 ⟨rfl, hb1⟩
      have HB1 := hid (HB.out.trans (hb1.mono HB.out.size))
      clear hb1 C c1
      obtain ⟨b, hb⟩ : ∃ b, b = f i := ⟨_, rfl⟩
      rw [← hb]
      cases b with
      | true =>
        have HR : Hid (decide (0 ≤ (i : Int)) = decide (∃ i, i < n ∧ f i = true)) := hid (by rw [decide_eq_true (show (0 : Int) ≤ i by omega), decide_eq_true (⟨i, hin, hb.symm⟩ : ∃ i, i < n ∧ f i = true)])
        clear hb
        go_wp2_with fail
        go_ret
        exact ⟨⟨i, rfl, HR.out⟩, HB1.out⟩
      | false =>
        have HF1 : Hid (∀ r, r < i + 1 → f r = false) := hid (fun r hr => by
          rcases Nat.lt_or_ge r i with k | k
          · exact HF.out r k
          · have : r = i := by omega
            subst this; exact hb.symm)
        clear hb
        go_wp2_with fail
        go_roundw
        case rel => exact ⟨i + 1, by omega, by go_num, HF1, HB1⟩
        case measure => simp [intOf]; omega
    · have hii : n = i := by omega
      subst hii
      go_wp2_with fail
      go_ret
      exact ⟨⟨-1, rfl, by
        rw [decide_eq_false (by omega), decide_eq_false]
        rintro ⟨r, hr, h⟩
        rw [HF.out r hr] at h
        cases h⟩, HB.out⟩

set_option maxHeartbeats 1000000 in
theorem contains98 (pb po n cap : Nat) (px py : Nat → Int) (f : Nat → Bool) (caps : Array Value) (w : World) (hn : n ≤ 1000) (hp : Plc w pb po n px py)
    (hcl : ∀ (W : World) (i r q : Nat), i < n → Below w.heap.size w W → w.cell? ⟨pb, po + i, none⟩ = some (.complex .f64 r q) → Calls Tryz.prog 99 (#[.complex .f64 r q] ++ caps) W fun e w' => e = .returned (.bool (f i)) ∧ Below W.heap.size W w') :
    Calls Tryz.prog 98 #[.slice (some ⟨pb, po, none⟩) n cap, .func (.func 99) #[] caps] w fun e w' => BolR f n e ∧ Below w.heap.size w w' := by
  have C := hid (index126 pb po n cap px py f caps w hn hp hcl)
  clear hp hcl
  go_enter Tryz.func98, Tryz.ntmps98
  go_wp2_with fail
  refine C.out.mono ?_
  rintro e w1 ⟨⟨r, rfl, hr⟩, hb⟩
  have HB := hid hb
  obtain ⟨b, hbb⟩ : ∃ b, b = decide (∃ i, i < n ∧ f i = true) := ⟨_, rfl⟩
  have HBB := hid hbb
  rw [← hbb] at hr
  clear hb hbb
  go_wp2_with fail
  go_ret
  exact ⟨by unfold BolR; rw [← HBB.out]; rfl, HB.out⟩
set_option maxRecDepth 100000 in
set_option maxHeartbeats 2000000 in
theorem index127 (n cap : Nat) (la : Option Addr) (xs : List (Nat × Nat)) (f : Nat → Bool) (caps : Array Value) (w : World) (hn : n ≤ 1000) (hp : Lns w la xs) (hx : n ≤ xs.length)
    (hcl : ∀ (W : World) (i : Nat) (hi : i < xs.length), i < n → Below w.heap.size w W → Calls Tryz.prog 102 (#[.agg #[.int .i64 (xs[i].1 : Nat), .int .i64 (xs[i].2 : Nat)]] ++ caps) W fun e w' => e = .returned (.bool (f i)) ∧ Below W.heap.size W w') :
    Calls Tryz.prog 127 #[.slice la n cap, .func (.func 102) #[] caps] w fun e w' => IdxR f n e ∧ Below w.heap.size w w' := by
  have HP := hid hp
  have CL := hid hcl
  clear hp hcl
  go_enter Tryz.func127, Tryz.ntmps127
  go_wp2_with fail
  go_loopw [8] (fun ix wr => ∃ i : Nat, i ≤ n ∧ ix = .int .i64 i ∧ Hid (∀ r, r < i → f r = false) ∧ Hid (Below w.heap.size w wr)) (fun ix _ => n - (intOf ix).toNat)
  case atStart => exact ⟨0, Nat.zero_le _, rfl, hid (fun r h => by omega), hid (Below.refl _ _)⟩
  case round =>
    obtain ⟨i, hi, rfl, HF, HB⟩ := hrel
    by_cases hin : i < n
    · have hin' : (i : Int) < n := by omega
      have hix : i < xs.length := by omega
      obtain ⟨lg, lo, hla, hlg, hlc⟩ : ∃ lg lo, la = some ⟨lg, lo, none⟩ ∧ lg < w.heap.size ∧ (w.cell? ⟨lg, lo + i * 2, none⟩ = some (.int .i64 (xs[i].1 : Nat)) ∧ w.cell? ⟨lg, lo + i * 2 + 1, none⟩ = some (.int .i64 (xs[i].2 : Nat))) := by
        rcases HP.out with h | ⟨g, o, e, h1, h2⟩
        · rw [h] at hix; simp at hix
        · exact ⟨g, o, e, h1, h2 i hix⟩
      subst hla
      have c1 := (HB.out.cell (p := ⟨lg, lo + i * 2, none⟩) hlg).trans hlc.1
      have c2 := (HB.out.cell (p := ⟨lg, lo + i * 2 + 1, none⟩) hlg).trans hlc.2
      have C := hid (CL.out wr i hix hin HB.out)
      have q1 : (0 : Int) ≤ (i : Int) := by omega
      obtain ⟨u, hu⟩ : ∃ u, u = xs[i].1 := ⟨_, rfl⟩
      obtain ⟨v, hv⟩ : ∃ v, v = xs[i].2 := ⟨_, rfl⟩
      rw [← hu] at c1 C
      rw [← hv] at c2 C
      clear hlc hu hv
      go_wp2_with fail
      refine C.out.mono ?_
      rintro e w1 ⟨rfl, hb1⟩
      have HB1 := hid (HB.out.trans (hb1.mono HB.out.size))
      clear hb1 C c1 c2
      obtain ⟨b, hb⟩ : ∃ b, b = f i := ⟨_, rfl⟩
      rw [← hb]
      cases b with
      | true =>
        have HR : Hid (decide (0 ≤ (i : Int)) = decide (∃ i, i < n ∧ f i = true)) := hid (by rw [decide_eq_true (show (0 : Int) ≤ i by omega), decide_eq_true (⟨i, hin, hb.symm⟩ : ∃ i, i < n ∧ f i = true)])
        clear hb
        go_wp2_with fail
        go_ret
        exact ⟨⟨i, rfl, HR.out⟩, HB1.out⟩
      | false =>
        have HF1 : Hid (∀ r, r < i + 1 → f r = false) := hid (fun r hr => by
          rcases Nat.lt_or_ge r i with k | k
          · exact HF.out r k
          · have : r = i := by omega
            subst this; exact hb.symm)
        clear hb
        go_wp2_with fail
        go_roundw
        case rel => exact ⟨i + 1, by omega, by go_num, HF1, HB1⟩
        case measure => simp [intOf]; omega
    · have hii : n = i := by omega
      subst hii
      go_wp2_with fail
      go_ret
      exact ⟨⟨-1, rfl, by
        rw [decide_eq_false (by omega), decide_eq_false]
        rintro ⟨r, hr, h⟩
        rw [HF.out r hr] at h
        cases h⟩, HB.out⟩

set_option maxHeartbeats 1000000 in
theorem contains101 (n cap : Nat) (la : Option Addr) (xs : List (Nat × Nat)) (f : Nat → Bool) (caps : Array Value) (w : World) (hn : n ≤ 1000) (hp : Lns w la xs) (hx : n ≤ xs.length)
    (hcl : ∀ (W : World) (i : Nat) (hi : i < xs.length), i < n → Below w.heap.size w W → Calls Tryz.prog 102 (#[.agg #[.int .i64 (xs[i].1 : Nat), .int .i64 (xs[i].2 : Nat)]] ++ caps) W fun e w' => e = .returned (.bool (f i)) ∧ Below W.heap.size W w') :
    Calls Tryz.prog 101 #[.slice la n cap, .func (.func 102) #[] caps] w fun e w' => BolR f n e ∧ Below w.heap.size w w' := by
  have C := hid (index127 n cap la xs f caps w hn hp hx hcl)
  clear hp hcl
  go_enter Tryz.func101, Tryz.ntmps101
  go_wp2_with fail
  refine C.out.mono ?_
  rintro e w1 ⟨⟨r, rfl, hr⟩, hb⟩
  have HB := hid hb
  obtain ⟨b, hbb⟩ : ∃ b, b = decide (∃ i, i < n ∧ f i = true) := ⟨_, rfl⟩
  have HBB := hid hbb
  rw [← hbb] at hr
  clear hb hbb
  go_wp2_with fail
  go_ret
  exact ⟨by unfold BolR; rw [← HBB.out]; rfl, HB.out⟩
end Go.Proofs.YtdbebbbceeopaaaGreat

set_option linter.unusedSimpArgs false
namespace Go.Proofs.YtdbebbbceeopaaaGreat
open Go.RowKit Go.Maps
open Flt (Is)

set_option maxHeartbeats 1000000 in
theorem btw99 (ra ia rb ib rp ip bA bB : Nat) (px py : Nat → Int) (a b p : Nat) (hax : Is ra (px a)) (hay : Is ia (py a)) (hbx : Is rb (px b)) (hby : Is ib (py b)) (hpx : Is rp (px p)) (hpy : Is ip (py p))
    (A : (-1000 ≤ px a ∧ px a ≤ 1000) ∧ (-1000 ≤ py a ∧ py a ≤ 1000)) (B : (-1000 ≤ px b ∧ px b ≤ 1000) ∧ (-1000 ≤ py b ∧ py b ≤ 1000)) (P : (-1000 ≤ px p ∧ px p ≤ 1000) ∧ (-1000 ≤ py p ∧ py p ≤ 1000)) (w : World)
    (cA : w.cell? ⟨bA, 0, none⟩ = some (.complex .f64 ra ia)) (cB : w.cell? ⟨bB, 0, none⟩ = some (.complex .f64 rb ib)) :
    Calls Tryz.prog 99 #[.complex .f64 rp ip, .pointer (some ⟨bA, 0, none⟩), .pointer (some ⟨bB, 0, none⟩)] w fun e w' => e = .returned (.bool (betwB px py a b p)) ∧ Below w.heap.size w w' := by
  have C := hid (fun W => plBetween_any ra ia rb ib rp ip px py a b p hax hay hbx hby hpx hpy A B P W)
  clear hax hay hbx hby hpx hpy A B P
  go_enter Tryz.func99, Tryz.ntmps99
  go_wp2_with fail
  refine (C.out _).mono ?_
  rintro e w1 ⟨rfl, rfl⟩
  go_wp2_with fail
  go_ret
  exact ⟨rfl, Below.refl _ _⟩

set_option maxRecDepth 100000 in
set_option maxHeartbeats 2000000 in
theorem crs102 (ra ia rb ib bA bB bP pb po n cap u v : Nat) (px py : Nat → Int) (a b : Nat) (hax : Is ra (px a)) (hay : Is ia (py a)) (hbx : Is rb (px b)) (hby : Is ib (py b))
    (A : (-1000 ≤ px a ∧ px a ≤ 1000) ∧ (-1000 ≤ py a ∧ py a ≤ 1000)) (B : (-1000 ≤ px b ∧ px b ≤ 1000) ∧ (-1000 ≤ py b ∧ py b ≤ 1000)) (w : World) (hp : Plc w pb po n px py) (hu : u < n) (hv : v < n)
    (cA : w.cell? ⟨bA, 0, none⟩ = some (.complex .f64 ra ia)) (cB : w.cell? ⟨bB, 0, none⟩ = some (.complex .f64 rb ib)) (cP : w.cell? ⟨bP, 0, none⟩ = some (.slice (some ⟨pb, po, none⟩) n cap)) :
    Calls Tryz.prog 102 #[.agg #[.int .i64 u, .int .i64 v], .pointer (some ⟨bA, 0, none⟩), .pointer (some ⟨bB, 0, none⟩), .pointer (some ⟨bP, 0, none⟩)] w fun e w' => e = .returned (.bool (crossB px py a b u v)) ∧ Below w.heap.size w w' := by
  obtain ⟨W1, hW1⟩ : ∃ W1 : World, W1 = w.alloc (.cells #[.int .i64 u, .int .i64 v] 54) := ⟨_, rfl⟩
  have B1 : Hid (Below w.heap.size w W1) := hid (by rw [hW1]; exact (Below.refl _ _).alloc (Nat.le_refl _) _)
  obtain ⟨ru, iu, cu, au, au'⟩ := hp.cell u hu
  obtain ⟨rv, iv, cv, av, av'⟩ := hp.cell v hv
  have C := hid (fun W => cross_any ra ia rb ib ru iu rv iv px py a b u v hax hay hbx hby au au' av av' A B (hp.bd u hu) (hp.bd v hv) W)
  have x0 : W1.cell? ⟨w.heap.size, 0, none⟩ = some (.int .i64 u) := by rw [hW1]; exact World.cell?_alloc_at _ _ _ _ rfl
  have x1 : W1.cell? ⟨w.heap.size, 1, none⟩ = some (.int .i64 v) := by rw [hW1]; exact World.cell?_alloc_at _ _ _ _ rfl
  have yA : W1.cell? ⟨bA, 0, none⟩ = some (.complex .f64 ra ia) := by rw [hW1]; exact cell_new cA
  have yB : W1.cell? ⟨bB, 0, none⟩ = some (.complex .f64 rb ib) := by rw [hW1]; exact cell_new cB
  have yP : W1.cell? ⟨bP, 0, none⟩ = some (.slice (some ⟨pb, po, none⟩) n cap) := by rw [hW1]; exact cell_new cP
  have zu : W1.cell? ⟨pb, po + u, none⟩ = some (.complex .f64 ru iu) := by rw [hW1]; exact cell_new cu
  have zv : W1.cell? ⟨pb, po + v, none⟩ = some (.complex .f64 rv iv) := by rw [hW1]; exact cell_new cv
  have gu : (u : Int) < n := by omega
  have gv : (v : Int) < n := by omega
  have gu0 : (0 : Int) ≤ u := by omega
  have gv0 : (0 : Int) ≤ v := by omega
  have START : W1.drew.cell? ⟨w.heap.size, 0, none⟩ = some (.int .i64 u) ∧ W1.drew.cell? ⟨w.heap.size, 1, none⟩ = some (.int .i64 v) ∧ W1.drew.cell? ⟨bA, 0, none⟩ = some (.complex .f64 ra ia) ∧ W1.drew.cell? ⟨bB, 0, none⟩ = some (.complex .f64 rb ib) ∧ W1.drew.cell? ⟨bP, 0, none⟩ = some (.slice (some ⟨pb, po, none⟩) n cap) ∧ W1.drew.cell? ⟨pb, po + u, none⟩ = some (.complex .f64 ru iu) ∧ W1.drew.cell? ⟨pb, po + v, none⟩ = some (.complex .f64 rv iv) := ⟨x0, x1, yA, yB, yP, zu, zv⟩
  obtain ⟨cr, hcr⟩ : ∃ cr, cr = crossB px py a b u v := ⟨_, rfl⟩
  rw [← hcr] at C ⊢
  clear hcr hp cu cv au au' av av' hax hay hbx hby A B cA cB cP
  go_enter Tryz.func102, Tryz.ntmps102
  go_wp2_with fail
  rw [← hW1]
  clear hW1
  go_region_held3 (fun W => W.cell? ⟨w.heap.size, 0, none⟩ = some (.int .i64 u) ∧ W.cell? ⟨w.heap.size, 1, none⟩ = some (.int .i64 v) ∧ W.cell? ⟨bA, 0, none⟩ = some (.complex .f64 ra ia) ∧ W.cell? ⟨bB, 0, none⟩ = some (.complex .f64 rb ib) ∧ W.cell? ⟨bP, 0, none⟩ = some (.slice (some ⟨pb, po, none⟩) n cap) ∧ W.cell? ⟨pb, po + u, none⟩ = some (.complex .f64 ru iu) ∧ W.cell? ⟨pb, po + v, none⟩ = some (.complex .f64 rv iv)) (assumption)
    ((go_at_call 103; refine (C.out _).mono ?_; rintro e w9 ⟨rfl, he9⟩; subst he9))
  clear START
  go_wp2_with fail
  go_ret
  exact ⟨rfl, B1.out.drew⟩
end Go.Proofs.YtdbebbbceeopaaaGreat

set_option linter.unusedSimpArgs false
namespace Go.Proofs.YtdbebbbceeopaaaGreat
open Go.RowKit Go.Maps
open Flt (Is)

/-- Is something in the way of the line of this number? -/
def wayB (px py : Nat → Int) (n : Nat) (xs : List (Nat × Nat)) (i : Nat) : Prop := (∃ p, p < n ∧ betwB px py (xs.getD i (0, 0)).1 (xs.getD i (0, 0)).2 p = true) ∨ ∃ j, j < i ∧ crossB px py (xs.getD i (0, 0)).1 (xs.getD i (0, 0)).2 (xs.getD j (0, 0)).1 (xs.getD j (0, 0)).2 = true

/-- Does a line cross one ahead of it? -/
def crF (px py : Nat → Int) (xs : List (Nat × Nat)) (u v j : Nat) : Bool := crossB px py u v (xs.getD j (0, 0)).1 (xs.getD j (0, 0)).2

/-- What isInTheWay answers. -/
def WayR (px py : Nat → Int) (n : Nat) (xs : List (Nat × Nat)) (e : Ending) : Prop := ∃ b : Bool, e = .returned (.bool b) ∧ (b = true ↔ ∃ i, i < xs.length ∧ wayB px py n xs i)

set_option maxRecDepth 100000 in
set_option maxHeartbeats 8000000 in
theorem inWay_any (pb po n cap lcap : Nat) (px py : Nat → Int) (la : Option Addr) (xs : List (Nat × Nat)) (w : World) (hn : n ≤ 40) (hp : Plc w pb po n px py) (hl : Lns w la xs) (hk : xs.length ≤ 100) (hcap : xs.length ≤ lcap) (hx : ∀ x ∈ xs, x.1 < n ∧ x.2 < n) :
    Calls Tryz.prog 70 #[.slice (some ⟨pb, po, none⟩) n cap, .slice la xs.length lcap] w fun e w' => WayR px py n xs e ∧ Below w.heap.size w w' := by
  obtain ⟨W0, hW0⟩ : ∃ W0 : World, W0 = w.alloc (.cells #[.slice (some ⟨pb, po, none⟩) n cap] 68) := ⟨_, rfl⟩
  have B0 : Hid (Below w.heap.size w W0) := hid (by rw [hW0]; exact (Below.refl _ _).alloc (Nat.le_refl _) _)
  have P0 : W0.cell? ⟨w.heap.size, 0, none⟩ = some (.slice (some ⟨pb, po, none⟩) n cap) := by rw [hW0]; exact World.cell?_alloc_at _ _ _ _ rfl
  have HP := hid (hp.below B0.out hp.lt)
  have HL := hid (hl.below B0.out)
  have HX := hid hx
  have HP0 := hid P0
  have hW0s : Hid (w.heap.size < W0.heap.size) := hid (World.block_lt_of_cell? W0 _ P0)
  obtain ⟨k, hkk⟩ : ∃ k, k = xs.length := ⟨_, rfl⟩
  have HK := hid hkk
  rw [← hkk] at hk hcap ⊢
  clear hp hl hx hkk P0
  go_enter Tryz.func70, Tryz.ntmps70
  go_wp2_with fail
  rw [← hW0]
  clear hW0
  obtain ⟨bP, hbP⟩ : ∃ bP, bP = w.heap.size := ⟨_, rfl⟩
  rw [← hbP] at HP0 hW0s ⊢
  have HBP := hid hbP
  clear hbP
  go_loopw [11] (fun ix wr => ∃ i : Nat, i ≤ k ∧ ix = .int .i64 i ∧ Hid (∀ r, r < i → ¬ wayB px py n xs r) ∧ Hid (Below W0.heap.size W0 wr)) (fun ix _ => k - (intOf ix).toNat)
  case atStart => exact ⟨0, Nat.zero_le _, rfl, hid (fun r h => by omega), hid (Below.refl _ _)⟩
  case round =>
    obtain ⟨i, hi, rfl, HJ, HB⟩ := hrel
    by_cases hik : i < k
    · have hik' : (i : Int) < k := by omega
      have hix : i < xs.length := by rw [← HK.out]; exact hik
      obtain ⟨lg, lo, hla, hlg, hlc⟩ : ∃ lg lo, la = some ⟨lg, lo, none⟩ ∧ lg < W0.heap.size ∧ (W0.cell? ⟨lg, lo + i * 2, none⟩ = some (.int .i64 (xs[i].1 : Nat)) ∧ W0.cell? ⟨lg, lo + i * 2 + 1, none⟩ = some (.int .i64 (xs[i].2 : Nat))) := by
        rcases HL.out with h | ⟨g, o, e, h1, h2⟩
        · rw [h] at hix; simp at hix
        · exact ⟨g, o, e, h1, h2 i hix⟩
      subst hla
      have xc := (HB.out.cell (p := ⟨lg, lo + i * 2, none⟩) hlg).trans hlc.1
      have yc := (HB.out.cell (p := ⟨lg, lo + i * 2 + 1, none⟩) hlg).trans hlc.2
      have gd : xs.getD i (0, 0) = xs[i] := by simp [List.getD_eq_getElem?_getD, hix]
      have huv := HX.out xs[i] (List.getElem_mem hix)
      have HWB : Hid (wayB px py n xs i ↔ (∃ p, p < n ∧ betwB px py xs[i].1 xs[i].2 p = true) ∨ ∃ j, j < i ∧ crossB px py xs[i].1 xs[i].2 (xs.getD j (0, 0)).1 (xs.getD j (0, 0)).2 = true) := hid (by unfold wayB; rw [gd])
      obtain ⟨u, hu⟩ : ∃ u, u = xs[i].1 := ⟨_, rfl⟩
      obtain ⟨v, hv⟩ : ∃ v, v = xs[i].2 := ⟨_, rfl⟩
      rw [← hu] at xc huv HWB
      rw [← hv] at yc huv HWB
      clear hu hv hlc gd
      obtain ⟨W1, hW1⟩ : ∃ W1, W1 = wr.alloc (.cells #[.int .i64 (u : Nat), .int .i64 (v : Nat)] 54) := ⟨_, rfl⟩
      have b1 : Below wr.heap.size wr W1 := by rw [hW1]; exact (Below.refl _ _).alloc (Nat.le_refl _) _
      have S1 : W1.heap.size = wr.heap.size + 1 := by rw [hW1]; simp
      have HB1 := hid (HB.out.trans (b1.mono HB.out.size))
      have HPW := HP.out.below HB1.out HP.out.lt
      obtain ⟨ri, ii, ci, Ii, Ii'⟩ := HPW.cell u huv.1
      obtain ⟨rj, ij, cj, Ij, Ij'⟩ := HPW.cell v huv.2
      have cP := (HB1.out.cell (p := ⟨bP, 0, none⟩) hW0s.out).trans HP0.out
      have x0 : W1.cell? ⟨wr.heap.size, 0, none⟩ = some (.int .i64 (u : Nat)) := by rw [hW1]; exact World.cell?_alloc_at _ _ _ _ rfl
      have x1 : W1.cell? ⟨wr.heap.size, 1, none⟩ = some (.int .i64 (v : Nat)) := by rw [hW1]; exact World.cell?_alloc_at _ _ _ _ rfl
      have l1 := World.block_lt_of_cell? W1 _ cP
      have l2 := World.block_lt_of_cell? W1 _ ci
      have l3 := World.block_lt_of_cell? W1 _ x0
      have gu : (u : Int) < n := by omega
      have gv : (v : Int) < n := by omega
      have gu0 : (0 : Int) ≤ u := by omega
      have gv0 : (0 : Int) ≤ v := by omega
      have q1 : (0 : Int) ≤ (i : Int) := by omega
      have t0 : ((W1.alloc (.cells #[.complex .f64 0 0] 94)).alloc (.cells #[.complex .f64 0 0] 94)).cell? ⟨wr.heap.size + 1, 0, none⟩ = some (.complex .f64 0 0) := by
        rw [World.cell?_alloc_past _ _ _ (by simp; omega), World.cell?_alloc_at _ _ _ _ (by omega)]; rfl
      have t1 : ((W1.alloc (.cells #[.complex .f64 0 0] 94)).alloc (.cells #[.complex .f64 0 0] 94)).cell? ⟨wr.heap.size + 1 + 1, 0, none⟩ = some (.complex .f64 0 0) := by
        rw [World.cell?_alloc_at _ _ _ _ (by simp; omega)]; rfl
      have f0 : ((W1.alloc (.cells #[.complex .f64 0 0] 94)).alloc (.cells #[.complex .f64 0 0] 94)).frozen? ⟨wr.heap.size + 1, 0, none⟩ = false := by
        rw [World.frozen?_alloc_past _ _ _ (by simp; omega), World.frozen?_alloc_at _ _ _ _ (by omega)]
      have f1 : ((W1.alloc (.cells #[.complex .f64 0 0] 94)).alloc (.cells #[.complex .f64 0 0] 94)).frozen? ⟨wr.heap.size + 1 + 1, 0, none⟩ = false := by
        rw [World.frozen?_alloc_at _ _ _ _ (by simp; omega)]
      have s0 : ∀ u, (((W1.alloc (.cells #[.complex .f64 0 0] 94)).alloc (.cells #[.complex .f64 0 0] 94)).drew.setCell ⟨wr.heap.size + 1, 0, none⟩ u).cell? ⟨wr.heap.size + 1 + 1, 0, none⟩ = some (.complex .f64 0 0) := fun u => by rw [World.cell?_setCell_far _ _ _ _ (by show _ + 1 ≠ _ + 1 + 1; omega)]; exact t1
      have s1 : ∀ u, (((W1.alloc (.cells #[.complex .f64 0 0] 94)).alloc (.cells #[.complex .f64 0 0] 94)).drew.setCell ⟨wr.heap.size + 1 + 1, 0, none⟩ u).cell? ⟨wr.heap.size + 1, 0, none⟩ = some (.complex .f64 0 0) := fun u => by rw [World.cell?_setCell_far _ _ _ _ (by show _ + 1 + 1 ≠ _ + 1; omega)]; exact t0
      have t0' : ((W1.alloc (.cells #[.complex .f64 0 0] 94)).alloc (.cells #[.complex .f64 0 0] 94)).drew.cell? ⟨wr.heap.size + 1, 0, none⟩ = some (.complex .f64 0 0) := t0
      have t1' : ((W1.alloc (.cells #[.complex .f64 0 0] 94)).alloc (.cells #[.complex .f64 0 0] 94)).drew.cell? ⟨wr.heap.size + 1 + 1, 0, none⟩ = some (.complex .f64 0 0) := t1
      have f0' : ((W1.alloc (.cells #[.complex .f64 0 0] 94)).alloc (.cells #[.complex .f64 0 0] 94)).drew.frozen? ⟨wr.heap.size + 1, 0, none⟩ = false := f0
      have f1' : ((W1.alloc (.cells #[.complex .f64 0 0] 94)).alloc (.cells #[.complex .f64 0 0] 94)).drew.frozen? ⟨wr.heap.size + 1 + 1, 0, none⟩ = false := f1
      have h0 : ∀ u, (((W1.alloc (.cells #[.complex .f64 0 0] 94)).alloc (.cells #[.complex .f64 0 0] 94)).drew.setCell ⟨wr.heap.size + 1, 0, none⟩ u).frozen? ⟨wr.heap.size + 1 + 1, 0, none⟩ = false := fun u => by rw [World.frozen?_setCell]; exact f1
      have h1 : ∀ u, (((W1.alloc (.cells #[.complex .f64 0 0] 94)).alloc (.cells #[.complex .f64 0 0] 94)).drew.setCell ⟨wr.heap.size + 1 + 1, 0, none⟩ u).frozen? ⟨wr.heap.size + 1, 0, none⟩ = false := fun u => by rw [World.frozen?_setCell]; exact f0
      have hst : ∀ (a : Addr) (m : Mode) (x y : Nat) (w : World), (store a (.complex .f64 x y) m).run Tryz.prog w = stored Tryz.prog w a (.complex .f64 x y) m := fun a m x y w => run_store Tryz.prog w a _ m rfl
      have HII := hid (And.intro (And.intro Ii Ii') (And.intro Ij Ij'))
      have HPP := hid HPW
      clear Ii Ii' Ij Ij' HPW
      go_wp2_with fail
      rw [← hW1]
      clear hW1
      go_region_held3 (fun W => W.cell? ⟨bP, 0, none⟩ = some (.slice (some ⟨pb, po, none⟩) n cap) ∧ W.cell? ⟨wr.heap.size, 0, none⟩ = some (.int .i64 (u : Nat)) ∧ W.cell? ⟨wr.heap.size, 1, none⟩ = some (.int .i64 (v : Nat)) ∧ W.cell? ⟨pb, po + u, none⟩ = some (.complex .f64 ri ii) ∧ W.cell? ⟨pb, po + v, none⟩ = some (.complex .f64 rj ij)) (go_keep) (fail)
      all_goals
        clear t0 t1 f0 f1 s0 s1 t0' t1' f0' f1' h0 h1 hst
        first
          | (obtain ⟨W4, hW4⟩ : ∃ W4 : World, W4 = ((W1.alloc (.cells #[.complex .f64 ri ii] 94)).alloc (.cells #[.complex .f64 rj ij] 94)).drew := ⟨_, rfl⟩
             rw [← hW4]
             have hAB := ab_new W1 (wr.heap.size + 1) S1 (.complex .f64 ri ii) (.complex .f64 rj ij)
             rw [← hW4] at hAB
             obtain ⟨b3, hb3⟩ : ∃ b3, b3 = wr.heap.size + 1 + 1 := ⟨_, rfl⟩
             obtain ⟨b2, hb2⟩ : ∃ b2, b2 = wr.heap.size + 1 := ⟨_, rfl⟩
             rw [← hb3, ← hb2]
             rw [← hb3, ← hb2] at hAB
             obtain ⟨bA, hbA⟩ : ∃ bA, bA = b2 := ⟨_, rfl⟩
             obtain ⟨bB, hbB⟩ : ∃ bB, bB = b3 := ⟨_, rfl⟩
             rw [← hbA, ← hbB]
             rw [← hbA, ← hbB] at hAB
             have cA : W4.cell? ⟨bA, 0, none⟩ = some (.complex .f64 ri ii) := hAB.1
             have cB : W4.cell? ⟨bB, 0, none⟩ = some (.complex .f64 rj ij) := hAB.2.1)
          | (obtain ⟨W4, hW4⟩ : ∃ W4 : World, W4 = ((W1.alloc (.cells #[.complex .f64 rj ij] 94)).alloc (.cells #[.complex .f64 ri ii] 94)).drew := ⟨_, rfl⟩
             rw [← hW4]
             have hAB := ab_new W1 (wr.heap.size + 1) S1 (.complex .f64 rj ij) (.complex .f64 ri ii)
             rw [← hW4] at hAB
             obtain ⟨b3, hb3⟩ : ∃ b3, b3 = wr.heap.size + 1 + 1 := ⟨_, rfl⟩
             obtain ⟨b2, hb2⟩ : ∃ b2, b2 = wr.heap.size + 1 := ⟨_, rfl⟩
             rw [← hb3, ← hb2]
             rw [← hb3, ← hb2] at hAB
             obtain ⟨bA, hbA⟩ : ∃ bA, bA = b3 := ⟨_, rfl⟩
             obtain ⟨bB, hbB⟩ : ∃ bB, bB = b2 := ⟨_, rfl⟩
             rw [← hbA, ← hbB]
             rw [← hbA, ← hbB] at hAB
             have cA : W4.cell? ⟨bA, 0, none⟩ = some (.complex .f64 ri ii) := hAB.2.1
             have cB : W4.cell? ⟨bB, 0, none⟩ = some (.complex .f64 rj ij) := hAB.1)
        have b4 := hAB.2.2.1
        have z4 : W4.heap.size = wr.heap.size + 3 := by have := hAB.2.2.2; omega
        have HB4 := hid (HB1.out.trans (b4.mono HB1.out.size))
        have HP4 := hid (HPP.out.below b4 HPP.out.lt)
        have cP4 := (b4.cell l1).trans cP
        have HC := hid (And.intro cA (And.intro cB cP4))
        have bu := HP4.out.bd u huv.1
        have bv := HP4.out.bd v huv.2
        have kp : ∀ W, Below W4.heap.size W4 W → W.cell? ⟨bA, 0, none⟩ = some (.complex .f64 ri ii) ∧ W.cell? ⟨bB, 0, none⟩ = some (.complex .f64 rj ij) ∧ W.cell? ⟨bP, 0, none⟩ = some (.slice (some ⟨pb, po, none⟩) n cap) := fun W hW => ⟨(hW.cell (World.block_lt_of_cell? W4 _ cA)).trans cA, (hW.cell (World.block_lt_of_cell? W4 _ cB)).trans cB, (hW.cell (World.block_lt_of_cell? W4 _ cP4)).trans cP4⟩
        have CL : ∀ (W : World) (p r q : Nat), p < n → Below W4.heap.size W4 W → W4.cell? ⟨pb, po + p, none⟩ = some (.complex .f64 r q) → Calls Tryz.prog 99 #[.complex .f64 r q, .pointer (some ⟨bA, 0, none⟩), .pointer (some ⟨bB, 0, none⟩)] W fun e w' => e = .returned (.bool (betwB px py u v p)) ∧ Below W.heap.size W w' := fun W p r q hpn hW hc => by
          obtain ⟨r', q', e1, e2, e3⟩ := HP4.out.cell p hpn
          rw [e1] at hc
          have e4 : r' = r ∧ q' = q := by simpa using hc
          obtain ⟨rfl, rfl⟩ := e4
          exact btw99 ri ii rj ij r' q' bA bB px py u v p HII.out.1.1 HII.out.1.2 HII.out.2.1 HII.out.2.2 e2 e3 bu bv (HP4.out.bd p hpn) W (kp W hW).1 (kp W hW).2.1
        have C98 := hid (contains98 pb po n cap px py (betwB px py u v) #[.pointer (some ⟨bA, 0, none⟩), .pointer (some ⟨bB, 0, none⟩)] W4 (by omega) HP4.out CL)
        clear CL
        have HKP := hid kp
        have HUV := hid (And.intro huv (And.intro bu bv))
        clear hAB hW4 hb3 hb2 hbA hbB b4 x0 x1 ci cj cP S1 l1 l2 l3 cA cB kp xc yc b1 huv bu bv
        go_wp2_with fail
        refine C98.out.mono ?_
        rintro e w5 ⟨he, hb5⟩
        obtain ⟨bt, hbt⟩ : ∃ bt, bt = decide (∃ p, p < n ∧ betwB px py u v p = true) := ⟨_, rfl⟩
        have he' : e = .returned (.bool bt) := by rw [hbt]; exact he
        subst he'
        have HB5 := hid (HB4.out.trans (hb5.mono HB4.out.size))
        have HBE := hid hb5
        have HBT := hid hbt
        clear he hb5 hbt C98
        cases bt with
        | true =>
          have YES := hid (HWB.out.2 (.inl (of_decide_eq_true HBT.out.symm)))
          go_wp2_with fail
          go_ret
          exact ⟨⟨true, rfl, ⟨fun _ => ⟨i, by rw [← HK.out]; exact hik, YES.out⟩, fun _ => rfl⟩⟩, B0.out.trans (HB5.out.mono B0.out.size)⟩
        | false =>
          have NB := hid (of_decide_eq_false HBT.out.symm)
          have CL2 : ∀ (W : World) (j : Nat) (hj : j < xs.length), j < i → Below w5.heap.size w5 W → Calls Tryz.prog 102 #[.agg #[.int .i64 (xs[j].1 : Nat), .int .i64 (xs[j].2 : Nat)], .pointer (some ⟨bA, 0, none⟩), .pointer (some ⟨bB, 0, none⟩), .pointer (some ⟨bP, 0, none⟩)] W fun e w' => e = .returned (.bool (crF px py xs u v j)) ∧ Below W.heap.size W w' := fun W j hj hji hW => by
            have hWW := HBE.out.trans (hW.mono HBE.out.size)
            have gd : xs.getD j (0, 0) = xs[j] := by simp [List.getD_eq_getElem?_getD, hj]
            have ge : crF px py xs u v j = crossB px py u v xs[j].1 xs[j].2 := by unfold crF; rw [gd]
            rw [ge]
            have hxj := HX.out xs[j] (List.getElem_mem hj)
            have kk := HKP.out W hWW
            exact crs102 ri ii rj ij bA bB bP pb po n cap xs[j].1 xs[j].2 px py u v HII.out.1.1 HII.out.1.2 HII.out.2.1 HII.out.2.2 HUV.out.2.1 HUV.out.2.2 W (HP4.out.below hWW HP4.out.lt) hxj.1 hxj.2 kk.1 kk.2.1 kk.2.2
          have C101 := hid (contains101 i lcap (some ⟨lg, lo, none⟩) xs (crF px py xs u v) #[.pointer (some ⟨bA, 0, none⟩), .pointer (some ⟨bB, 0, none⟩), .pointer (some ⟨bP, 0, none⟩)] w5 (by omega) (HL.out.below HB5.out) (by omega) CL2)
          clear CL2
          have hil : (i : Int) ≤ lcap := by omega
          go_wp2_with fail
          refine C101.out.mono ?_
          rintro e w6 ⟨he, hb6⟩
          obtain ⟨ct, hct⟩ : ∃ ct, ct = decide (∃ j, j < i ∧ crF px py xs u v j = true) := ⟨_, rfl⟩
          have he' : e = .returned (.bool ct) := by rw [hct]; exact he
          subst he'
          have HB6 := hid (HB5.out.trans (hb6.mono HB5.out.size))
          have HCT := hid hct
          clear he hb6 hct C101
          cases ct with
          | true =>
            have YES := hid (HWB.out.2 (.inr (of_decide_eq_true HCT.out.symm)))
            go_wp2_with fail
            go_ret
            exact ⟨⟨true, rfl, ⟨fun _ => ⟨i, by rw [← HK.out]; exact hik, YES.out⟩, fun _ => rfl⟩⟩, B0.out.trans (HB6.out.mono B0.out.size)⟩
          | false =>
            have NC := hid (of_decide_eq_false HCT.out.symm)
            have HN : Hid (∀ r, r < i + 1 → ¬ wayB px py n xs r) := hid (fun r hr h => by
              rcases Nat.lt_or_ge r i with q | q
              · exact HJ.out r q h
              · have : r = i := by omega
                subst this
                rcases HWB.out.1 h with g | g
                · exact NB.out g
                · exact NC.out g)
            go_wp2_with fail
            go_roundw
            case rel => exact ⟨i + 1, by omega, by go_num, HN, HB6⟩
            case measure => simp [intOf]; omega
    · have hii : k = i := by omega
      subst hii
      go_wp2_with fail
      go_ret
      exact ⟨⟨false, rfl, ⟨fun h => (by cases h), fun ⟨r, hr, h⟩ => absurd h (HJ.out r (by rw [HK.out]; exact hr))⟩⟩, B0.out.trans (HB.out.mono B0.out.size)⟩
end Go.Proofs.YtdbebbbceeopaaaGreat
