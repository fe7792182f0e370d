import Derived.Test.YtdbebbbceeopaaaGreatC9
import Derived.Deep.RegionHeld3
import Derived.Deep.QuietTactic
set_option linter.unusedSimpArgs false
namespace Go.Proofs.YtdbebbbceeopaaaGreat
open Go.RowKit
open Flt (Is)

/-! What the statements without the document's answer are made of: pick, turn, points, known. -/

def pickI (c n : Int) : Int := (if c < 0 then -(c + 1) else c) % n

theorem pickI_bd (c n : Int) (h : 0 < n) : 0 ≤ pickI c n ∧ pickI c n < n :=
  ⟨Int.emod_nonneg _ (by omega), Int.emod_lt_of_pos _ h⟩

set_option maxHeartbeats 400000 in
theorem pick_any (c n : Int) (hc : -9223372036854775808 ≤ c ∧ c ≤ 9223372036854775807) (hn : 0 < n) (hn' : n ≤ 1000000) (w : World) :
    Calls Tryz.prog 19 #[.int .i64 c, .int .i64 n] w fun e w' => e = .returned (.int .i64 (pickI c n)) ∧ w' = w := by
  unfold pickI
  by_cases h : c < 0
  · rw [if_pos h]
    go_enter Tryz.func19, Tryz.ntmps19
    go_wp2
    go_ret
    refine ⟨?_, rfl⟩
    show Ending.returned (.int .i64 _) = _
    rw [← Int.neg_tmod, Int.tmod_eq_emod_of_nonneg (by omega)]
  · rw [if_neg h]
    go_enter Tryz.func19, Tryz.ntmps19
    go_wp2
    go_ret
    refine ⟨?_, rfl⟩
    rfl

set_option maxHeartbeats 400000 in
theorem kturn_any (ax ay bx bya cx cy : Int) (A : -1000 ≤ ax ∧ ax ≤ 1000) (A' : -1000 ≤ ay ∧ ay ≤ 1000) (B : -1000 ≤ bx ∧ bx ≤ 1000) (B' : -1000 ≤ bya ∧ bya ≤ 1000) (C : -1000 ≤ cx ∧ cx ≤ 1000) (C' : -1000 ≤ cy ∧ cy ≤ 1000) (w : World) :
    Calls Tryz.prog 23 #[.agg #[.int .i64 ax, .int .i64 ay], .agg #[.int .i64 bx, .int .i64 bya], .agg #[.int .i64 cx, .int .i64 cy]] w fun e w' => e = .returned (.int .i64 (tw ax ay bx bya cx cy)) ∧ Below w.heap.size w w' := by
  have hb := tw_bd A A' B B' C C'
  obtain ⟨hb1, hb2, hb3, hb4⟩ := hb
  unfold tw
  go_enter Tryz.func23, Tryz.ntmps23
  go_wp2
  go_ret
  refine ⟨?_, ?_⟩
  · rfl
  · exact (((Below.refl _ _).alloc (Nat.le_refl _) _).alloc (by simp) _).alloc (by simp; omega) _


/-- Points as cells. -/
def cellsP (ps : List (Int × Int)) : List Value := ps.flatMap fun p => [.int .i64 p.1, .int .i64 p.2]

theorem cellsP_len (ps : List (Int × Int)) : (cellsP ps).length = ps.length * 2 := by
  induction ps with
  | nil => rfl
  | cons p r ih =>
    show (cellsP r).length + 2 = _
    rw [ih]; simp; omega

theorem cellsP_snoc (ps : List (Int × Int)) (p : Int × Int) : cellsP (ps ++ [p]) = cellsP ps ++ [.int .i64 p.1, .int .i64 p.2] := by
  unfold cellsP; rw [List.flatMap_append]; rfl

theorem cellsP_get (ps : List (Int × Int)) : ∀ i, (h : i < ps.length) → (cellsP ps)[i * 2]? = some (.int .i64 ps[i].1) ∧ (cellsP ps)[i * 2 + 1]? = some (.int .i64 ps[i].2) := by
  induction ps with
  | nil => intro i h; simp at h
  | cons p r ih =>
    intro i h
    have e : cellsP (p :: r) = .int .i64 p.1 :: .int .i64 p.2 :: cellsP r := rfl
    cases i with
    | zero => exact ⟨rfl, rfl⟩
    | succ i =>
      have := ih i (by simpa using h)
      rw [e, show (i + 1) * 2 = i * 2 + 1 + 1 by omega]
      exact this

/-- What 'points' makes: three corners of a square, and others in it, all different. -/
structure Sq (N : Int) (ps : List (Int × Int)) : Prop where
  big : 8 ≤ N
  small : N ≤ 407
  len : 3 ≤ ps.length
  len' : ps.length ≤ 30
  p0 : ps[0]? = some (0, 0)
  p1 : ps[1]? = some (N, 0)
  p2 : ps[2]? = some (0, N)
  bd : ∀ p ∈ ps, (0 ≤ p.1 ∧ p.1 ≤ N) ∧ (0 ≤ p.2 ∧ p.2 ≤ N)
  nodup : ps.Nodup

theorem Sq.start (N : Int) (h : 8 ≤ N) (h' : N ≤ 407) : Sq N [(0, 0), (N, 0), (0, N)] := by
  refine ⟨h, h', by simp, by simp, rfl, rfl, rfl, ?_, ?_⟩
  · intro p hp
    simp at hp
    rcases hp with rfl | rfl | rfl <;> simp <;> omega
  · simp; omega

theorem Sq.snoc {N : Int} {ps : List (Int × Int)} (h : Sq N ps) (hl : ps.length < 30) (p : Int × Int) (hp : (0 ≤ p.1 ∧ p.1 ≤ N) ∧ (0 ≤ p.2 ∧ p.2 ≤ N)) (hn : p ∉ ps) : Sq N (ps ++ [p]) := by
  have := h.len
  refine ⟨h.big, h.small, by simp; omega, by simp; omega, ?_, ?_, ?_, ?_, ?_⟩
  · rw [List.getElem?_append_left (by omega)]; exact h.p0
  · rw [List.getElem?_append_left (by omega)]; exact h.p1
  · rw [List.getElem?_append_left (by omega)]; exact h.p2
  · intro q hq
    rcases List.mem_append.1 hq with hq | hq
    · exact h.bd q hq
    · rw [List.mem_singleton.1 hq]; exact hp
  · rw [List.nodup_append]
    refine ⟨h.nodup, by simp, ?_⟩
    intro a ha b hb e
    rw [List.mem_singleton.1 hb] at e
    exact hn (e ▸ ha)

def IsRow (k : IntKind) (w : World) (a : Option Addr) (len cap : Nat) (zs : List Int) : Prop :=
  (a = none ∧ len = 0 ∧ cap = 0 ∧ zs = []) ∨
  ∃ x, a = some x ∧ len ≤ cap ∧ cap ≤ maxLen ∧ zs.length = cap ∧ (∀ i, i < zs.length → w.cell? (x.add i) = some (.int k (zs.getD i 0))) ∧ ∀ n ∈ zs, (Lit.int k n).wf = true

theorem wf_bd {n : Int} (h : (Lit.int .i64 n).wf = true) : -9223372036854775808 ≤ n ∧ n ≤ 9223372036854775807 := by
  simpa [Lit.wf, IntKind.min, IntKind.max, IntKind.signed, IntKind.bits] using h

theorem addr_block (x : Addr) (i : Nat) : (x.add i).block = x.block := by
  unfold Addr.add; split <;> rfl

theorem getD_memI {zs : List Int} {i : Nat} (h : i < zs.length) : zs.getD i 0 ∈ zs := by
  rw [List.getD_eq_getElem?_getD, List.getElem?_eq_getElem h]; exact List.getElem_mem _

theorem start_owns (w : World) (N : Int) : (w.alloc (.cells #[.int .i64 0, .int .i64 0, .int .i64 N, .int .i64 0, .int .i64 0, .int .i64 N] 35)).ownsRow w.heap.size 35 2 (.slice (some ⟨w.heap.size, 0, none⟩) 3 3) [((0 : Int), (0 : Int)), (N, 0), (0, N)].length (cellsP [(0, 0), (N, 0), (0, N)]) :=
  ⟨rfl, .inr ⟨w.heap.size, 3, _, rfl, Nat.le_refl _, heap_alloc_new w _, Nat.le_refl _, by unfold maxLen; omega, rfl, rfl⟩⟩

theorem shape33 {w : World} {base : Nat} {v : Value} {ps : List (Int × Int)} (h : w.ownsRow base 35 2 v ps.length (cellsP ps)) (hn : 0 < ps.length) :
    ∃ g cap, v = .slice (some ⟨g, 0, none⟩) ps.length cap ∧ base ≤ g ∧ g < w.heap.size ∧ ps.length ≤ cap ∧ ∀ i, (hi : i < ps.length) → w.cell? ⟨g, i * 2, none⟩ = some (.int .i64 ps[i].1) ∧ w.cell? ⟨g, i * 2 + 1, none⟩ = some (.int .i64 ps[i].2) := by
  rcases h.2 with ⟨_, h'⟩ | ⟨g, cap, cur, rfl, hb, hg, hc, _⟩
  · omega
  · refine ⟨g, cap, rfl, hb, (Array.getElem?_eq_some_iff.1 hg).1, hc, fun i hi => ?_⟩
    rw [h.cellAt (i * 2) (by omega), h.cellAt (i * 2 + 1) (by omega)]
    exact cellsP_get ps i hi

theorem drew_more {W wq : World} (h : ∃ q', wq = W.drewN q') (n : Nat) : ∃ q, wq.drewN n = W.drewN q := by
  obtain ⟨q', rfl⟩ := h
  exact ⟨_, drewN_drewN _ _ _⟩

/-- Is a point one of the first j of a list? -/
def memB (ps : List (Int × Int)) (q : Int × Int) (j : Nat) : Bool := decide (q ∈ ps.take j)

theorem memB_succ (ps : List (Int × Int)) (q : Int × Int) (j : Nat) (h : j < ps.length) : memB ps q (j + 1) = (memB ps q j || (ps[j].1 == q.1 && ps[j].2 == q.2)) := by
  unfold memB
  rw [List.take_succ_eq_append_getElem h, Bool.eq_iff_iff]
  simp only [List.mem_append, List.mem_singleton, Bool.or_eq_true, decide_eq_true_eq, Bool.and_eq_true, beq_iff_eq]
  constructor
  · rintro (h | h)
    · exact Or.inl h
    · right; rw [h]; exact ⟨rfl, rfl⟩
  · rintro (h | ⟨h1, h2⟩)
    · exact Or.inl h
    · right; exact Prod.ext h1.symm h2.symm

theorem cells_over {wr : World} {g i : Nat} {a b : Value} (hg : g < wr.heap.size) (h : wr.cell? ⟨g, i * 2, none⟩ = some a ∧ wr.cell? ⟨g, i * 2 + 1, none⟩ = some b) (o : Obj) (q : Nat) :
    ((wr.alloc o).drew.drewN q).cell? ⟨g, i * 2, none⟩ = some a ∧ ((wr.alloc o).drew.drewN q).cell? ⟨g, i * 2 + 1, none⟩ = some b := by
  have hb := below_drewN ((Below.refl wr.heap.size wr).alloc (Nat.le_refl _) o).drew q
  exact ⟨(hb.cell (by exact hg)).trans h.1, (hb.cell (by exact hg)).trans h.2⟩

theorem owns_over {wr : World} {base : Nat} {e : TypeId} {size : Nat} {v : Value} {n : Nat} {xs : List Value} (h : wr.ownsRow base e size v n xs) (o : Obj) (q : Nat) : ((wr.alloc o).drew.drewN q).ownsRow base e size v n xs := h.alloc o

set_option maxRecDepth 100000 in
set_option maxHeartbeats 2000000 in
theorem points_any (x : Addr) (len cap : Nat) (zs : List Int) (sz : Int) (w : World) (hlc : len ≤ cap) (hcm : len ≤ 17592186043904) (hzl : zs.length = cap) (hz : ∀ i, i < zs.length → w.cell? (x.add i) = some (.int .i64 (zs.getD i 0)))
    (hxb : x.block < w.heap.size) (hwz : ∀ n ∈ zs, (Lit.int .i64 n).wf = true) (hsz : (Lit.int .i64 sz).wf = true) :
    Calls Tryz.prog 14 #[.slice (some x) len cap, .int .i64 sz] w fun e w' => ∃ v N ps, e = .returned v ∧ Below w.heap.size w w' ∧ Sq N ps ∧ w'.ownsRow w.heap.size 35 2 v ps.length (cellsP ps) := by
  obtain ⟨i0, hi, hz0, hz1, hz2⟩ := info_parts Tryz.info35
  have hpk := pickI_bd sz 400 (by omega)
  have c1 := hid (pick_any sz 400 (wf_bd hsz) (by omega) (by omega))
  generalize pickI sz 400 = pk at *
  have HZ := hid hz
  have HWZ := hid hwz
  clear hz hwz hsz
  go_enter Tryz.func14, Tryz.ntmps14
  go_wp2_with (go_at_call 19; refine (c1.out _).mono ?_; rintro e w' ⟨rfl, he⟩; have he' := he.symm; subst he'; clear he)
  obtain ⟨N, hN⟩ : ∃ N, N = 8 + pk := ⟨_, rfl⟩
  have hN1 : 8 ≤ N := by omega
  have hN2 : N ≤ 407 := by omega
  rw [← hN]
  have H0 := hid (Sq.start N hN1 hN2)
  have H1 := hid (start_owns w N)
  have H2 := hid ((Below.refl w.heap.size w).alloc (Nat.le_refl _) (.cells #[.int .i64 0, .int .i64 0, .int .i64 N, .int .i64 0, .int .i64 0, .int .i64 N] 35))
  clear hN hpk c1
  go_loopw [6, 7] (fun l i wr => ∃ (k : Nat) (ps : List (Int × Int)), i = .int .i64 k ∧ k ≤ len ∧ Sq N ps ∧ wr.ownsRow w.heap.size 35 2 l ps.length (cellsP ps) ∧ Below w.heap.size w wr) (fun _ i _ => len + 1 - (intOf i).toNat)
  case atStart => exact ⟨0, _, rfl, by omega, H0.out, H1.out, H2.out⟩
  case round =>
    obtain ⟨k, ps, rfl, hk, hsq, ho, hb⟩ := hrel
    clear H0 H1 H2
    obtain ⟨g, cp, hv, hgb, hgl, hcp, hcells⟩ := shape33 ho (by have := hsq.len; omega)
    subst hv
    have hl3 := hsq.len
    have hl30 := hsq.len'
    obtain ⟨n, hn⟩ : ∃ n, n = ps.length := ⟨_, rfl⟩
    have HN := hid hn
    have HSQ := hid hsq
    rw [← hn] at ho
    have HO := hid ho
    have HB := hid hb
    have HCL := hid hcells
    rw [← hn] at hcp hl3 hl30 ⊢
    clear hn hsq ho hb hcells
    by_cases hlt : k + 1 < len
    · by_cases h30 : n < 30
      · obtain ⟨z0, hz0'⟩ : ∃ z, z = zs.getD k 0 := ⟨_, rfl⟩
        obtain ⟨z1, hz1'⟩ : ∃ z, z = zs.getD (k + 1) 0 := ⟨_, rfl⟩
        have hc0 : wr.cell? (x.add k) = some (.int .i64 z0) := by
          rw [hz0', HB.out.cell (by rw [addr_block]; exact hxb)]; exact HZ.out k (by omega)
        have hc1 : wr.cell? (x.add (k + 1)) = some (.int .i64 z1) := by
          rw [hz1', HB.out.cell (by rw [addr_block]; exact hxb)]; exact HZ.out (k + 1) (by omega)
        have hc1' : wr.cell? ⟨x.block, x.off + (k + 1), none⟩ = some (.int .i64 z1) := hc1
        have p0 := pickI_bd z0 (N + 1) (by omega)
        have p1 := pickI_bd z1 (N + 1) (by omega)
        have cp0 := hid (pick_any z0 (N + 1) (wf_bd (HWZ.out _ (by rw [hz0']; exact getD_memI (by omega)))) (by omega) (by omega))
        have cp1 := hid (pick_any z1 (N + 1) (wf_bd (HWZ.out _ (by rw [hz1']; exact getD_memI (by omega)))) (by omega) (by omega))
        clear hz0' hz1'
        generalize pickI z0 (N + 1) = qx at *
        generalize pickI z1 (N + 1) = qy at *
        have hlt' : (k : Int) + 1 < len := by omega
        have hlt'' : (k : Int) < len := by omega
        have h30' : (n : Int) < 30 := by omega
        have y1 : IntKind.i64.wrap (N + 1) = N + 1 := by rw [IntKind.wrap_i64]; omega
        have y2 : IntKind.i64.wrap ((k : Int) + 1) = k + 1 := by rw [IntKind.wrap_i64]; omega
        go_wp2
        have ne0 := World.new_ne wr (x.add k) hc0
        have ne1 := World.new_ne wr ⟨x.block, x.off + (k + 1), none⟩ hc1'
        have zz0 : (0 : Int) ≤ (k : Int) := by omega
        have zz1 : (0 : Int) ≤ (k : Int) + 1 := by omega
        go_region_held3 (fun w' => w'.cell? (x.add k) = some (.int .i64 z0) ∧ w'.cell? ⟨x.block, x.off + (k + 1), none⟩ = some (.int .i64 z1)) (go_keep) (first | (go_at_call_of 19 (Value.int .i64 z0); refine (cp0.out _).mono ?_; rintro e w' ⟨rfl, he⟩; have he' := he.symm; subst he'; clear he) | (go_at_call_of 19 (Value.int .i64 z1); refine (cp1.out _).mono ?_; rintro e w' ⟨rfl, he⟩; have he' := he.symm; subst he'; clear he))
        all_goals go_wp2
        all_goals
          have hbx0 : ∀ q, ((wr.alloc (.cells #[.int .i64 qx, .int .i64 qy] 35)).drew.drewN q).cell? ⟨wr.heap.size, 0, none⟩ = some (.int .i64 qx) := fun q => World.cell?_alloc_at _ _ _ _ rfl
          have hbx1 : ∀ q, ((wr.alloc (.cells #[.int .i64 qx, .int .i64 qy] 35)).drew.drewN q).cell? ⟨wr.heap.size, 1, none⟩ = some (.int .i64 qy) := fun q => World.cell?_alloc_at _ _ _ _ rfl
          have HCL2 := hid (fun q i (hi : i < ps.length) => cells_over (wr := wr) (g := g) hgl (HCL.out i hi) (.cells #[.int .i64 qx, .int .i64 qy] 35) q)
          have HB2 := hid (fun q => below_drewN (HB.out.alloc HB.out.size (.cells #[.int .i64 qx, .int .i64 qy] 35)).drew q)
          have HO2 := hid (fun q => owns_over HO.out (.cells #[.int .i64 qx, .int .i64 qy] 35) q)
          have hsz2 : ∀ q, ((wr.alloc (.cells #[.int .i64 qx, .int .i64 qy] 35)).drew.drewN q).heap.size = wr.heap.size + 1 := fun q => by show (wr.alloc _).heap.size = _; simp
          generalize (wr.alloc (.cells #[.int .i64 qx, .int .i64 qy] 35)).drew = W0 at *
          go_loopw [9, 10] (fun ag kk w2 => ∃ j : Nat, j ≤ n ∧ kk = .int .i64 j ∧ ag = .bool (memB ps (qx, qy) j) ∧ ∃ q, w2 = W0.drewN q) (fun _ kk _ => n - (intOf kk).toNat)
          case atStart => exact ⟨0, Nat.zero_le _, rfl, by simp [memB], 0, rfl⟩
          case round =>
            obtain ⟨j, hj, rfl, rfl, q, rfl⟩ := hrel
            have b0 := hbx0 q
            have b1 := hbx1 q
            have HB3 := hid (HB2.out q)
            have HO3 := hid (HO2.out q)
            have hsz3 := hsz2 q
            have HQ := hid (⟨q, rfl⟩ : ∃ q', W0.drewN q = W0.drewN q')
            have hjc := fun hjl : j < ps.length => HCL2.out q j hjl
            generalize W0.drewN q = wq at *
            clear hbx0 hbx1 HCL2 HB2 HO2 hsz2 HCL HO ne0 ne1 hc0 hc1 hc1' cp0 cp1 y1 y2
            by_cases hjn : j < n
            · have hjl : j < ps.length := by rw [← HN.out]; exact hjn
              obtain ⟨cx, cy⟩ := hjc hjl
              have hms := hid (memB_succ ps (qx, qy) j hjl)
              have hjn' : (j : Int) < n := by omega
              have heq := eqPt.1 (ps[j].1, ps[j].2) (qx, qy)
              simp only [encPt] at heq
              clear hjc
              generalize ps[j].1 = ax at *
              generalize ps[j].2 = ay at *
              cases hm : memB ps (qx, qy) j
              · have HM := hid hm
                clear hm
                generalize (ax == qx && ay == qy) = bb at *
                go_wp2
                go_quiet (fail)
                go_wp2
                go_roundw
                case rel => exact ⟨j + 1, by omega, by go_num, by rw [hms.out, HM.out]; rfl, drew_more HQ.out _⟩
                case measure => simp [intOf]; omega
              · have HM := hid hm
                clear hm
                go_wp2
                go_quiet (fail)
                go_wp2
                go_roundw
                case rel => exact ⟨j + 1, by omega, by go_num, by rw [hms.out, HM.out]; rfl, drew_more HQ.out _⟩
                case measure => simp [intOf]; omega
            · have hjn' : j = n := by omega
              subst hjn'
              clear hjc
              have hmem : memB ps (qx, qy) j = decide ((qx, qy) ∈ ps) := by unfold memB; rw [HN.out, List.take_length]
              rw [hmem]
              clear hmem
              have hpq : (0 ≤ qx ∧ qx ≤ N) ∧ (0 ≤ qy ∧ qy ≤ N) := by omega
              by_cases hin : (qx, qy) ∈ ps
              · rw [decide_eq_true hin]
                clear hin
                go_wp2
                go_roundw
                case rel => exact ⟨k + 2, ps, by go_num, by omega, HSQ.out, by rw [← HN.out]; exact HO3.out, HB3.out⟩
                case measure => simp [intOf]; omega
              · rw [decide_eq_false hin]
                have HIN := hid hin
                clear hin hsz3
                go_wp2_with (at_builtin; go_must (refine wpList_append_own _ rfl _ _ 26 rfl w.heap.size 35 i0 (.agg #[.int .i64 0, .int .i64 0]) 2 16 Tryz.underlying26 hi hz0 hz1 hz2 rfl (by decide) _ _ _ rfl (HO3.out.alloc _) ⟨wq.heap.size, 0, none⟩ 1 1 [.int .i64 qx, .int .i64 qy] rfl rfl ?c1 ?c2 ?c3 ?c4 ?c5 ?_))
                case c1 =>
                  intro i u hu
                  match i, hu with
                  | 0, hu => simp at hu; subst hu; exact World.cell?_alloc_at _ _ _ _ rfl
                  | 1, hu => simp at hu; subst hu; exact World.cell?_alloc_at _ _ _ _ rfl
                  | i + 2, hu => simp at hu
                case c2 => intro u hu; simp at hu; rcases hu with rfl | rfl <;> rfl
                case c3 => unfold maxLen; omega
                case c4 => omega
                case c5 => have := HB3.out.size; simp; omega
                intro v' w3 hown' hgrow _
                have hb3 : Below w.heap.size w w3 := (HB3.out.alloc HB3.out.size _).grown hgrow (by have := HB3.out.size; simp; omega) (fun k hk => by cases hk; exact hgb)
                have hsq3 := HSQ.out.snoc (by rw [← HN.out]; exact h30) (qx, qy) hpq HIN.out
                have hown3 : w3.ownsRow w.heap.size 35 2 v' (ps ++ [(qx, qy)]).length (cellsP (ps ++ [(qx, qy)])) := by
                  rw [cellsP_snoc, List.length_append, ← HN.out]; exact hown'
                have HR := hid (And.intro hsq3 (And.intro hown3 hb3))
                clear hown' hgrow hb3 hsq3 hown3
                go_wp2
                go_roundw
                case rel => exact ⟨k + 2, _, by go_num, by omega, HR.out.1, HR.out.2.1, HR.out.2.2⟩
                case measure => simp [intOf]; omega
      · have HR := hid (And.intro HSQ.out (And.intro HO.out HB.out))
        have h30' : decide ((n : Int) < 30) = false := by simp; omega
        have hlt' : (k : Int) + 1 < len := by omega
        clear HSQ HO HB HCL
        go_wp2
        go_ret
        exact ⟨_, N, ps, rfl, HR.out.2.2, HR.out.1, by rw [← HN.out]; exact HR.out.2.1⟩
    · have HR := hid (And.intro HSQ.out (And.intro HO.out HB.out))
      have hlt' : decide ((k : Int) + 1 < len) = false := by simp; omega
      clear HSQ HO HB HCL
      go_wp2
      go_ret
      exact ⟨_, N, ps, rfl, HR.out.2.2, HR.out.1, by rw [← HN.out]; exact HR.out.2.1⟩
set_option maxRecDepth 100000 in
set_option maxHeartbeats 1000000 in
theorem known_any (g len cap n : Nat) (h : Nat → Nat) (w : World) (h3 : 3 ≤ len) (hlen : len ≤ 100) (hcell : ∀ j, j < len → w.cell? ⟨g, j, none⟩ = some (.int .i64 (h j : Nat))) (hlt : ∀ j, j < len → h j < n) (hinj : ∀ i j, i < j → j < len → h i ≠ h j) :
    Calls Tryz.prog 22 #[.slice (some ⟨g, 0, none⟩) len cap, .int .i64 n] w fun e w' => e = .returned (.bool true) ∧ ∃ q, w' = w.drewN q := by
  have HC := hid hcell
  have HL := hid hlt
  have HI := hid hinj
  clear hcell hlt hinj
  go_enter Tryz.func22, Tryz.ntmps22
  go_wp2
  go_loopw [5] (fun i wr => ∃ k : Nat, k ≤ len ∧ i = .int .i64 k ∧ ∃ q, wr = w.drewN q) (fun i _ => len - (intOf i).toNat)
  case atStart => exact ⟨0, Nat.zero_le _, rfl, 0, rfl⟩
  case round =>
    obtain ⟨k, hk, rfl, q, rfl⟩ := hrel
    by_cases hkl : k < len
    · have hc : (w.drewN q).cell? ⟨g, k, none⟩ = some (.int .i64 (h k : Nat)) := HC.out k hkl
      have hln := HL.out k hkl
      have hd1 : decide (((h k : Nat) : Int) < 0) = false := by simp
      have hd2 : decide ((n : Int) ≤ ((h k : Nat) : Int)) = false := by simp; omega
      have hk' : (k : Int) < len := by omega
      have HQ := hid (⟨q, rfl⟩ : ∃ q', w.drewN q = w.drewN q')
      have HCQ : Hid (∀ q' j, j < len → ((w.drewN q).drewN q').cell? ⟨g, j, none⟩ = some (.int .i64 (h j : Nat))) := fun q' j hj => HC.out j hj
      generalize w.drewN q = wq at *
      go_wp2
      go_loopw [6] (fun kk w2 => ∃ j : Nat, j ≤ k ∧ kk = .int .i64 j ∧ ∃ q, w2 = wq.drewN q) (fun kk _ => k - (intOf kk).toNat)
      case atStart => exact ⟨0, Nat.zero_le _, rfl, 0, rfl⟩
      case round =>
        obtain ⟨j, hj, rfl, q2, rfl⟩ := hrel
        have HQ2 := hid (⟨q2, rfl⟩ : ∃ q', wq.drewN q2 = wq.drewN q')
        have ck := HCQ.out q2 k hkl
        have cj := fun hjl : j < len => HCQ.out q2 j hjl
        generalize wq.drewN q2 = wz at *
        by_cases hjk : j < k
        · have cj' := cj (by omega)
          have hne : (((h j : Nat) : Int) == ((h k : Nat) : Int)) = false := by
            have := HI.out j k hjk hkl
            rw [beq_eq_false_iff_ne]; omega
          have hjk' : (j : Int) < k := by omega
          have hjl' : (j : Int) < len := by omega
          clear cj hc
          generalize h j = x at *
          generalize h k = y at *
          go_wp2
          go_quiet (fail)
          go_wp2
          go_roundw
          case rel => exact ⟨j + 1, by omega, by go_num, drew_more' HQ2.out _⟩
          case measure => simp [intOf]; omega
        · have : j = k := by omega
          subst this
          clear cj hc ck
          go_wp2
          go_roundw
          case rel => exact ⟨j + 1, by omega, by go_num, by obtain ⟨q', e⟩ := HQ2.out; rw [e]; exact drew_more' HQ.out _⟩
          case measure => simp [intOf]; omega
    · have : k = len := by omega
      subst this
      have hge : decide ((3 : Int) ≤ (k : Int)) = true := by simp; omega
      go_wp2
      go_ret
      exact ⟨rfl, q, rfl⟩
open Go.Sort (SortedIn)
open Geo (IsHull)

set_option maxRecDepth 100000 in
set_option maxHeartbeats 1000000 in
theorem points_zero (a : Option Addr) (cap : Nat) (sz : Int) (w : World) (hsz : (Lit.int .i64 sz).wf = true) :
    Calls Tryz.prog 14 #[.slice a 0 cap, .int .i64 sz] w fun e w' => ∃ v N ps, e = .returned v ∧ Below w.heap.size w w' ∧ Sq N ps ∧ w'.ownsRow w.heap.size 35 2 v ps.length (cellsP ps) := by
  have hpk := pickI_bd sz 400 (by omega)
  have c1 := hid (pick_any sz 400 (wf_bd hsz) (by omega) (by omega))
  generalize pickI sz 400 = pk at *
  clear hsz
  go_enter Tryz.func14, Tryz.ntmps14
  go_wp2_with (go_at_call 19; refine (c1.out _).mono ?_; rintro e w' ⟨rfl, he⟩; have he' := he.symm; subst he'; clear he)
  refine wp_loop_rounds 1 ?_
  rw [rounds_succ]
  obtain ⟨N, hN⟩ : ∃ N, N = 8 + pk := ⟨_, rfl⟩
  have hN1 : 8 ≤ N := by omega
  have hN2 : N ≤ 407 := by omega
  rw [← hN]
  have H0 := hid (Sq.start N hN1 hN2)
  have H1 := hid (start_owns w N)
  have H2 := hid ((Below.refl w.heap.size w).alloc (Nat.le_refl _) (.cells #[.int .i64 0, .int .i64 0, .int .i64 N, .int .i64 0, .int .i64 0, .int .i64 N] 35))
  clear hN hpk c1
  go_wp2
  go_ret
  exact ⟨_, N, _, rfl, H2.out, H0.out, H1.out⟩

/-- The points of a square, by their numbers. -/
def sx (ps : List (Int × Int)) (i : Nat) : Int := (ps.getD i (0, 0)).1
def sy (ps : List (Int × Int)) (i : Nat) : Int := (ps.getD i (0, 0)).2

theorem sqr_bds {N : Int} {ps : List (Int × Int)} (h : Sq N ps) (i : Nat) (hi : i < ps.length) : (0 ≤ sx ps i ∧ sx ps i ≤ N) ∧ (0 ≤ sy ps i ∧ sy ps i ≤ N) := by
  unfold sx sy
  rw [List.getD_eq_getElem?_getD, List.getElem?_eq_getElem hi]
  exact h.bd _ (List.getElem_mem _)

theorem sq_ne {N : Int} {ps : List (Int × Int)} (h : Sq N ps) (i j : Nat) (hi : i < ps.length) (hj : j < ps.length) (hne : i ≠ j) : ¬ (sx ps i = sx ps j ∧ sy ps i = sy ps j) := by
  rintro ⟨e1, e2⟩
  unfold sx at e1
  unfold sy at e2
  rw [List.getD_eq_getElem?_getD, List.getD_eq_getElem?_getD, List.getElem?_eq_getElem hi, List.getElem?_eq_getElem hj] at e1 e2
  have e : ps[i] = ps[j] := Prod.ext e1 e2
  have nd := List.pairwise_iff_getElem.1 h.nodup
  rcases Nat.lt_or_gt_of_ne hne with hl | hl
  · exact nd i j hi hj hl e
  · exact nd j i hj hi hl e.symm

theorem sq_wide {N : Int} {ps : List (Int × Int)} (h : Sq N ps) : T (sx ps) (sy ps) 0 1 2 ≠ 0 := by
  have b := h.big
  have e0 : ps.getD 0 (0, 0) = (0, 0) := by rw [List.getD_eq_getElem?_getD, h.p0]; rfl
  have e1 : ps.getD 1 (0, 0) = (N, 0) := by rw [List.getD_eq_getElem?_getD, h.p1]; rfl
  have e2 : ps.getD 2 (0, 0) = (0, N) := by rw [List.getD_eq_getElem?_getD, h.p2]; rfl
  unfold T tw sx sy
  rw [e0, e1, e2]
  simp
  omega

theorem sq_ref {N : Int} {ps : List (Int × Int)} (h : Sq N ps) : refI (sx ps) (sy ps) ps.length = 0 := by
  have hA : allB (sx ps) (sy ps) ps.length = true := by
    rw [allB_iff]
    intro i hi
    have := sqr_bds h i hi
    have b := h.small
    rw [near_iff, near_iff]
    omega
  have hT : twB (sx ps) (sy ps) ps.length = false := by
    cases hc : twB (sx ps) (sy ps) ps.length with
    | false => rfl
    | true =>
      obtain ⟨i, hi, hc⟩ := (twB_iff _ _ _).1 hc
      obtain ⟨j, hj, e⟩ := (twiceAt_iff _ _ _).1 hc
      exact absurd e (sq_ne h i j hi (by omega) (by omega))
  have hF : flatB (sx ps) (sy ps) (ps.length - 2) = false :=
    flatB_false _ _ _ 0 (by have := h.len; omega) (sq_wide h)
  simp [refI, hA, hT, hF]

theorem sq_pts {w : World} {g : Nat} {ps : List (Int × Int)} (hg : g < w.heap.size)
    (hc : ∀ i, (hi : i < ps.length) → w.cell? ⟨g, i * 2, none⟩ = some (.int .i64 ps[i].1) ∧ w.cell? ⟨g, i * 2 + 1, none⟩ = some (.int .i64 ps[i].2)) : Pts w g 0 ps.length (sx ps) (sy ps) := by
  refine ⟨hg, fun i hi => ?_, fun i hi => ?_⟩
  · rw [Nat.zero_add, (hc i hi).1]
    simp [sx, hi]
  · rw [Nat.zero_add, (hc i hi).2]
    simp [sy, hi]


/-- What Convex knows of the points, by their numbers. -/
structure Sett (n : Nat) (px py : Nat → Int) : Prop where
  len : 3 ≤ n
  len' : n ≤ 30
  bd : ∀ i, i < n → (0 ≤ px i ∧ px i ≤ 407) ∧ (0 ≤ py i ∧ py i ≤ 407)
  ne : ∀ i j, i < n → j < n → i ≠ j → ¬ (px i = px j ∧ py i = py j)
  wide : T px py 0 1 2 ≠ 0
  ref : refI px py n = 0

theorem sq_set {N : Int} {ps : List (Int × Int)} (h : Sq N ps) : Sett ps.length (sx ps) (sy ps) :=
  ⟨h.len, h.len', fun i hi => by have := sqr_bds h i hi; have := h.small; omega, sq_ne h, sq_wide h, sq_ref h⟩

theorem points_set {arg : Array Value} {w : World} (hpts : Calls Tryz.prog 14 arg w fun e w' => ∃ v N ps, e = .returned v ∧ Below w.heap.size w w' ∧ Sq N ps ∧ w'.ownsRow w.heap.size 35 2 v ps.length (cellsP ps)) :
    Calls Tryz.prog 14 arg w fun e w' => ∃ g n cp px py, e = .returned (.slice (some ⟨g, 0, none⟩) n cp) ∧ Below w.heap.size w w' ∧ n ≤ cp ∧ Sett n px py ∧ Pts w' g 0 n px py := by
  refine hpts.mono ?_
  rintro e w1 ⟨v, N, ps, rfl, hb1, hsq, ho⟩
  obtain ⟨g, cp, rfl, hgb, hgl, hcp, hcells⟩ := shape33 ho (by have := hsq.len; omega)
  exact ⟨g, ps.length, cp, sx ps, sy ps, rfl, hb1, hcp, sq_set hsq, sq_pts hgl hcells⟩

/-- What Convex knows of the corners, by their numbers. -/
structure Cnr (n : Nat) (px py : Nat → Int) (m : Nat) (h : Nat → Nat) : Prop where
  len : 3 ≤ m
  lt : ∀ i, i < m → h i < n
  inj : ∀ i j, i < j → j < m → h i ≠ h j
  side : ∀ i, i < m → ∀ p, p < n → 0 ≤ T px py (h i) (h ((i + 1) % m)) p
  turn : ∀ i, i < m → 0 < T px py (h i) (h ((i + 1) % m)) (h ((i + 2) % m))

theorem hull_set {n : Nat} {px py : Nat → Int} (hS : Sett n px py) (g cp : Nat) (w : World) (hp : Pts w g 0 n px py) (hcp : n ≤ cp) :
    Calls Tryz.prog 21 #[.slice (some ⟨g, 0, none⟩) n cp] w fun e w' => ∃ g2 m cp2 h, e = .returned (.tuple #[.slice (some ⟨g2, 0, none⟩) m cp2, .int .i64 0]) ∧ Below w.heap.size w w' ∧ m ≤ 100 ∧ g2 < w'.heap.size ∧
      Cnr n px py m h ∧ ∀ j, j < m → w'.cell? ⟨g2, j, none⟩ = some (.int .i64 (h j : Nat)) := by
  have hz : NeZero n := ⟨by have := hS.len; omega⟩
  refine (hull_ok px py n g 0 cp w hp hS.len (by have := hS.len'; omega) hcp hS.ref).mono ?_
  rintro e w2 ⟨v2, rfl, hb2, d, hd, hperm, hsort, hown⟩
  have H := hullOf_isHull hS.len hd hperm hsort hS.ne ⟨2, by have := hS.len; omega, hS.wide⟩
  obtain ⟨g2, cp2, rfl, _, hg2, _, _, hc⟩ := row_of_owns hown (by have := H.len; omega)
  refine ⟨g2, _, cp2, fun i => (hullOf (T px py) (nums d)).getD i 0, rfl, hb2, ?_, hg2, ⟨H.len, H.lt, H.inj, H.side, H.turn⟩, ?_⟩
  · have a1 := stk_le (T px py) (nums d)
    have a2 := stk_le (T px py) (nums d).reverse
    rw [List.length_reverse] at a2
    rw [nums_len, hd] at a1 a2
    have := hS.len'
    simp only [hullOf, List.length_append, List.length_dropLast, List.length_reverse]
    omega
  · intro j hj
    rw [hc j hj]
    simp [encN, hj]

end Go.Proofs.YtdbebbbceeopaaaGreat
