import Derived.Test.YtdbebbbceeopaaaGreatN11
import Derived.Test.YtdbebbbceeopaaaGreatN12
import Derived.Deep.RegionHeld3
import Derived.Deep.QuietTactic
import Derived.Test.YtdbebbbceeopaaaGreatN9
import Derived.Test.YtdbebbbceeopaaaGreatN1
set_option linter.unusedSimpArgs false
namespace Go.Proofs.YtdbebbbceeopaaaGreat
open Go.RowKit
open Flt (Is)

/-! What the statements without the document's answer are made of: pick, turn, points, known. -/

def pickI (c n : Int) : Int := (if c < 0 then -(c + 1) else c) % n

theorem pickI_bd (c n : Int) (h : 0 < n) : 0 ≤ pickI c n ∧ pickI c n < n :=
  ⟨Int.emod_nonneg _ (by omega), Int.emod_lt_of_pos _ h⟩

set_option maxHeartbeats 400000 in
theorem pick_any (c n : Int) (hc : -9223372036854775808 ≤ c ∧ c ≤ 9223372036854775807) (hn : 0 < n) (hn' : n ≤ 1000000) (w : World) :
    Calls Tryz.prog 19 #[.int .i64 c, .int .i64 n] w fun e w' => e = .returned (.int .i64 (pickI c n)) ∧ w' = w := by
  unfold pickI
  by_cases h : c < 0
  · rw [if_pos h]
    go_enter Tryz.func19, Tryz.ntmps19
    go_wp2
    go_ret
    refine ⟨?_, rfl⟩
    show Ending.returned (.int .i64 _) = _
    rw [← Int.neg_tmod, Int.tmod_eq_emod_of_nonneg (by omega)]
  · rw [if_neg h]
    go_enter Tryz.func19, Tryz.ntmps19
    go_wp2
    go_ret
    refine ⟨?_, rfl⟩
    rfl

set_option maxHeartbeats 400000 in
theorem kturn_any (ax ay bx bya cx cy : Int) (A : -1000 ≤ ax ∧ ax ≤ 1000) (A' : -1000 ≤ ay ∧ ay ≤ 1000) (B : -1000 ≤ bx ∧ bx ≤ 1000) (B' : -1000 ≤ bya ∧ bya ≤ 1000) (C : -1000 ≤ cx ∧ cx ≤ 1000) (C' : -1000 ≤ cy ∧ cy ≤ 1000) (w : World) :
    Calls Tryz.prog 23 #[.agg #[.int .i64 ax, .int .i64 ay], .agg #[.int .i64 bx, .int .i64 bya], .agg #[.int .i64 cx, .int .i64 cy]] w fun e w' => e = .returned (.int .i64 (tw ax ay bx bya cx cy)) ∧ Below w.heap.size w w' := by
  have hb := tw_bd A A' B B' C C'
  obtain ⟨hb1, hb2, hb3, hb4⟩ := hb
  unfold tw
  go_enter Tryz.func23, Tryz.ntmps23
  go_wp2
  go_ret
  refine ⟨?_, ?_⟩
  · rfl
  · exact (((Below.refl _ _).alloc (Nat.le_refl _) _).alloc (by simp) _).alloc (by simp; omega) _

/-- Points as cells. -/
def cellsP (ps : List (Int × Int)) : List Value := ps.flatMap fun p => [.int .i64 p.1, .int .i64 p.2]

theorem cellsP_snoc (ps : List (Int × Int)) (p : Int × Int) : cellsP (ps ++ [p]) = cellsP ps ++ [.int .i64 p.1, .int .i64 p.2] := by
  unfold cellsP; rw [List.flatMap_append]; rfl

theorem cellsP_get (ps : List (Int × Int)) : ∀ i, (h : i < ps.length) → (cellsP ps)[i * 2]? = some (.int .i64 ps[i].1) ∧ (cellsP ps)[i * 2 + 1]? = some (.int .i64 ps[i].2) := by
  induction ps with
  | nil => intro i h; simp at h
  | cons p r ih =>
    intro i h
    have e : cellsP (p :: r) = .int .i64 p.1 :: .int .i64 p.2 :: cellsP r := rfl
    cases i with
    | zero => exact ⟨rfl, rfl⟩
    | succ i =>
      have := ih i (by simpa using h)
      rw [e, show (i + 1) * 2 = i * 2 + 1 + 1 by omega]
      exact this

/-- What 'points' makes: three corners of a square, and others in it, all different. -/
structure Sq (N : Int) (ps : List (Int × Int)) : Prop where
  big : 8 ≤ N
  small : N ≤ 407
  len : 3 ≤ ps.length
  len' : ps.length ≤ 30
  p0 : ps[0]? = some (0, 0)
  p1 : ps[1]? = some (N, 0)
  p2 : ps[2]? = some (0, N)
  bd : ∀ p ∈ ps, (0 ≤ p.1 ∧ p.1 ≤ N) ∧ (0 ≤ p.2 ∧ p.2 ≤ N)
  nodup : ps.Nodup

theorem Sq.start (N : Int) (h : 8 ≤ N) (h' : N ≤ 407) : Sq N [(0, 0), (N, 0), (0, N)] := by
  refine ⟨h, h', by simp, by simp, rfl, rfl, rfl, ?_, ?_⟩
  · intro p hp
    simp at hp
    rcases hp with rfl | rfl | rfl <;> simp <;> omega
  · simp; omega

theorem Sq.snoc {N : Int} {ps : List (Int × Int)} (h : Sq N ps) (hl : ps.length < 30) (p : Int × Int) (hp : (0 ≤ p.1 ∧ p.1 ≤ N) ∧ (0 ≤ p.2 ∧ p.2 ≤ N)) (hn : p ∉ ps) : Sq N (ps ++ [p]) := by
  have := h.len
  refine ⟨h.big, h.small, by simp; omega, by simp; omega, ?_, ?_, ?_, ?_, ?_⟩
  · rw [List.getElem?_append_left (by omega)]; exact h.p0
  · rw [List.getElem?_append_left (by omega)]; exact h.p1
  · rw [List.getElem?_append_left (by omega)]; exact h.p2
  · intro q hq
    rcases List.mem_append.1 hq with hq | hq
    · exact h.bd q hq
    · rw [List.mem_singleton.1 hq]; exact hp
  · rw [List.nodup_append]
    refine ⟨h.nodup, by simp, ?_⟩
    intro a ha b hb e
    rw [List.mem_singleton.1 hb] at e
    exact hn (e ▸ ha)

def IsRow (k : IntKind) (w : World) (a : Option Addr) (len cap : Nat) (zs : List Int) : Prop :=
  (a = none ∧ len = 0 ∧ cap = 0 ∧ zs = []) ∨
  ∃ x, a = some x ∧ len ≤ cap ∧ cap ≤ maxLen ∧ zs.length = cap ∧ (∀ i, i < zs.length → w.cell? (x.add i) = some (.int k (zs.getD i 0))) ∧ ∀ n ∈ zs, (Lit.int k n).wf = true

theorem wf_bd {n : Int} (h : (Lit.int .i64 n).wf = true) : -9223372036854775808 ≤ n ∧ n ≤ 9223372036854775807 := by
  simpa [Lit.wf, IntKind.min, IntKind.max, IntKind.signed, IntKind.bits] using h

theorem addr_block (x : Addr) (i : Nat) : (x.add i).block = x.block := by
  unfold Addr.add; split <;> rfl

theorem getD_memI {zs : List Int} {i : Nat} (h : i < zs.length) : zs.getD i 0 ∈ zs := by
  rw [List.getD_eq_getElem?_getD, List.getElem?_eq_getElem h]; exact List.getElem_mem _

theorem start_owns (w : World) (N : Int) : (w.alloc (.cells #[.int .i64 0, .int .i64 0, .int .i64 N, .int .i64 0, .int .i64 0, .int .i64 N] 35)).ownsRow w.heap.size 35 2 (.slice (some ⟨w.heap.size, 0, none⟩) 3 3) [((0 : Int), (0 : Int)), (N, 0), (0, N)].length (cellsP [(0, 0), (N, 0), (0, N)]) :=
  ⟨rfl, .inr ⟨w.heap.size, 3, _, rfl, Nat.le_refl _, heap_alloc_new w _, Nat.le_refl _, by unfold maxLen; omega, rfl, rfl⟩⟩

theorem shape33 {w : World} {base : Nat} {v : Value} {ps : List (Int × Int)} (h : w.ownsRow base 35 2 v ps.length (cellsP ps)) (hn : 0 < ps.length) :
    ∃ g cap, v = .slice (some ⟨g, 0, none⟩) ps.length cap ∧ base ≤ g ∧ g < w.heap.size ∧ ps.length ≤ cap ∧ ∀ i, (hi : i < ps.length) → w.cell? ⟨g, i * 2, none⟩ = some (.int .i64 ps[i].1) ∧ w.cell? ⟨g, i * 2 + 1, none⟩ = some (.int .i64 ps[i].2) := by
  rcases h.2 with ⟨_, h'⟩ | ⟨g, cap, cur, rfl, hb, hg, hc, _⟩
  · omega
  · refine ⟨g, cap, rfl, hb, (Array.getElem?_eq_some_iff.1 hg).1, hc, fun i hi => ?_⟩
    rw [h.cellAt (i * 2) (by omega), h.cellAt (i * 2 + 1) (by omega)]
    exact cellsP_get ps i hi

theorem drew_more {W wq : World} (h : ∃ q', wq = W.drewN q') (n : Nat) : ∃ q, wq.drewN n = W.drewN q := by
  obtain ⟨q', rfl⟩ := h
  exact ⟨_, drewN_drewN _ _ _⟩

/-- Is a point one of the first j of a list? -/
def memB (ps : List (Int × Int)) (q : Int × Int) (j : Nat) : Bool := decide (q ∈ ps.take j)

theorem memB_succ (ps : List (Int × Int)) (q : Int × Int) (j : Nat) (h : j < ps.length) : memB ps q (j + 1) = (memB ps q j || (ps[j].1 == q.1 && ps[j].2 == q.2)) := by
  unfold memB
  rw [List.take_succ_eq_append_getElem h, Bool.eq_iff_iff]
  simp only [List.mem_append, List.mem_singleton, Bool.or_eq_true, decide_eq_true_eq, Bool.and_eq_true, beq_iff_eq]
  constructor
  · rintro (h | h)
    · exact Or.inl h
    · right; rw [h]; exact ⟨rfl, rfl⟩
  · rintro (h | ⟨h1, h2⟩)
    · exact Or.inl h
    · right; exact Prod.ext h1.symm h2.symm

theorem cells_over {wr : World} {g i : Nat} {a b : Value} (hg : g < wr.heap.size) (h : wr.cell? ⟨g, i * 2, none⟩ = some a ∧ wr.cell? ⟨g, i * 2 + 1, none⟩ = some b) (o : Obj) (q : Nat) :
    ((wr.alloc o).drew.drewN q).cell? ⟨g, i * 2, none⟩ = some a ∧ ((wr.alloc o).drew.drewN q).cell? ⟨g, i * 2 + 1, none⟩ = some b := by
  have hb := below_drewN ((Below.refl wr.heap.size wr).alloc (Nat.le_refl _) o).drew q
  exact ⟨(hb.cell (by exact hg)).trans h.1, (hb.cell (by exact hg)).trans h.2⟩

theorem owns_over {wr : World} {base : Nat} {e : TypeId} {size : Nat} {v : Value} {n : Nat} {xs : List Value} (h : wr.ownsRow base e size v n xs) (o : Obj) (q : Nat) : ((wr.alloc o).drew.drewN q).ownsRow base e size v n xs := h.alloc o

set_option maxRecDepth 100000 in
set_option maxHeartbeats 2000000 in
theorem points_any (x : Addr) (len cap : Nat) (zs : List Int) (sz : Int) (w : World) (hlc : len ≤ cap) (hcm : len ≤ 17592186043904) (hzl : zs.length = cap) (hz : ∀ i, i < zs.length → w.cell? (x.add i) = some (.int .i64 (zs.getD i 0)))
    (hxb : x.block < w.heap.size) (hwz : ∀ n ∈ zs, (Lit.int .i64 n).wf = true) (hsz : (Lit.int .i64 sz).wf = true) :
    Calls Tryz.prog 14 #[.slice (some x) len cap, .int .i64 sz] w fun e w' => ∃ v N ps, e = .returned v ∧ Below w.heap.size w w' ∧ Sq N ps ∧ w'.ownsRow w.heap.size 35 2 v ps.length (cellsP ps) := by
  obtain ⟨i0, hi, hz0, hz1, hz2⟩ := info_parts Tryz.info35
  have hpk := pickI_bd sz 400 (by omega)
  have c1 := hid (pick_any sz 400 (wf_bd hsz) (by omega) (by omega))
  generalize pickI sz 400 = pk at *
  have HZ := hid hz
  have HWZ := hid hwz
  clear hz hwz hsz
  go_enter Tryz.func14, Tryz.ntmps14
  go_wp2_with (go_at_call 19; refine (c1.out _).mono ?_; rintro e w' ⟨rfl, he⟩; have he' := he.symm; subst he'; clear he)
  obtain ⟨N, hN⟩ : ∃ N, N = 8 + pk := ⟨_, rfl⟩
  have hN1 : 8 ≤ N := by omega
  have hN2 : N ≤ 407 := by omega
  rw [← hN]
  have H0 := hid (Sq.start N hN1 hN2)
  have H1 := hid (start_owns w N)
  have H2 := hid ((Below.refl w.heap.size w).alloc (Nat.le_refl _) (.cells #[.int .i64 0, .int .i64 0, .int .i64 N, .int .i64 0, .int .i64 0, .int .i64 N] 35))
  clear hN hpk c1
  go_loopw [6, 7] (fun l i wr => ∃ (k : Nat) (ps : List (Int × Int)), i = .int .i64 k ∧ k ≤ len ∧ Sq N ps ∧ wr.ownsRow w.heap.size 35 2 l ps.length (cellsP ps) ∧ Below w.heap.size w wr) (fun _ i _ => len + 1 - (intOf i).toNat)
  case atStart => exact ⟨0, _, rfl, by omega, H0.out, H1.out, H2.out⟩
  case round =>
    obtain ⟨k, ps, rfl, hk, hsq, ho, hb⟩ := hrel
    clear H0 H1 H2
    obtain ⟨g, cp, hv, hgb, hgl, hcp, hcells⟩ := shape33 ho (by have := hsq.len; omega)
    subst hv
    have hl3 := hsq.len
    have hl30 := hsq.len'
    obtain ⟨n, hn⟩ : ∃ n, n = ps.length := ⟨_, rfl⟩
    have HN := hid hn
    have HSQ := hid hsq
    rw [← hn] at ho
    have HO := hid ho
    have HB := hid hb
    have HCL := hid hcells
    rw [← hn] at hcp hl3 hl30 ⊢
    clear hn hsq ho hb hcells
    by_cases hlt : k + 1 < len
    · by_cases h30 : n < 30
      · obtain ⟨z0, hz0'⟩ : ∃ z, z = zs.getD k 0 := ⟨_, rfl⟩
        obtain ⟨z1, hz1'⟩ : ∃ z, z = zs.getD (k + 1) 0 := ⟨_, rfl⟩
        have hc0 : wr.cell? (x.add k) = some (.int .i64 z0) := by
          rw [hz0', HB.out.cell (by rw [addr_block]; exact hxb)]; exact HZ.out k (by omega)
        have hc1 : wr.cell? (x.add (k + 1)) = some (.int .i64 z1) := by
          rw [hz1', HB.out.cell (by rw [addr_block]; exact hxb)]; exact HZ.out (k + 1) (by omega)
        have hc1' : wr.cell? ⟨x.block, x.off + (k + 1), none⟩ = some (.int .i64 z1) := hc1
        have p0 := pickI_bd z0 (N + 1) (by omega)
        have p1 := pickI_bd z1 (N + 1) (by omega)
        have cp0 := hid (pick_any z0 (N + 1) (wf_bd (HWZ.out _ (by rw [hz0']; exact getD_memI (by omega)))) (by omega) (by omega))
        have cp1 := hid (pick_any z1 (N + 1) (wf_bd (HWZ.out _ (by rw [hz1']; exact getD_memI (by omega)))) (by omega) (by omega))
        clear hz0' hz1'
        generalize pickI z0 (N + 1) = qx at *
        generalize pickI z1 (N + 1) = qy at *
        have hlt' : (k : Int) + 1 < len := by omega
        have hlt'' : (k : Int) < len := by omega
        have h30' : (n : Int) < 30 := by omega
        have y1 : IntKind.i64.wrap (N + 1) = N + 1 := by rw [IntKind.wrap_i64]; omega
        have y2 : IntKind.i64.wrap ((k : Int) + 1) = k + 1 := by rw [IntKind.wrap_i64]; omega
        go_wp2
        have ne0 := World.new_ne wr (x.add k) hc0
        have ne1 := World.new_ne wr ⟨x.block, x.off + (k + 1), none⟩ hc1'
        have zz0 : (0 : Int) ≤ (k : Int) := by omega
        have zz1 : (0 : Int) ≤ (k : Int) + 1 := by omega
        go_region_held3 (fun w' => w'.cell? (x.add k) = some (.int .i64 z0) ∧ w'.cell? ⟨x.block, x.off + (k + 1), none⟩ = some (.int .i64 z1)) (go_keep) (first | (go_at_call_of 19 (Value.int .i64 z0); refine (cp0.out _).mono ?_; rintro e w' ⟨rfl, he⟩; have he' := he.symm; subst he'; clear he) | (go_at_call_of 19 (Value.int .i64 z1); refine (cp1.out _).mono ?_; rintro e w' ⟨rfl, he⟩; have he' := he.symm; subst he'; clear he))
        all_goals go_wp2
        all_goals
          have hbx0 : ∀ q, ((wr.alloc (.cells #[.int .i64 qx, .int .i64 qy] 35)).drew.drewN q).cell? ⟨wr.heap.size, 0, none⟩ = some (.int .i64 qx) := fun q => World.cell?_alloc_at _ _ _ _ rfl
          have hbx1 : ∀ q, ((wr.alloc (.cells #[.int .i64 qx, .int .i64 qy] 35)).drew.drewN q).cell? ⟨wr.heap.size, 1, none⟩ = some (.int .i64 qy) := fun q => World.cell?_alloc_at _ _ _ _ rfl
          have HCL2 := hid (fun q i (hi : i < ps.length) => cells_over (wr := wr) (g := g) hgl (HCL.out i hi) (.cells #[.int .i64 qx, .int .i64 qy] 35) q)
          have HB2 := hid (fun q => below_drewN (HB.out.alloc HB.out.size (.cells #[.int .i64 qx, .int .i64 qy] 35)).drew q)
          have HO2 := hid (fun q => owns_over HO.out (.cells #[.int .i64 qx, .int .i64 qy] 35) q)
          have hsz2 : ∀ q, ((wr.alloc (.cells #[.int .i64 qx, .int .i64 qy] 35)).drew.drewN q).heap.size = wr.heap.size + 1 := fun q => by show (wr.alloc _).heap.size = _; simp
          generalize (wr.alloc (.cells #[.int .i64 qx, .int .i64 qy] 35)).drew = W0 at *
          go_loopw [9, 10] (fun ag kk w2 => ∃ j : Nat, j ≤ n ∧ kk = .int .i64 j ∧ ag = .bool (memB ps (qx, qy) j) ∧ ∃ q, w2 = W0.drewN q) (fun _ kk _ => n - (intOf kk).toNat)
          case atStart => exact ⟨0, Nat.zero_le _, rfl, by simp [memB], 0, rfl⟩
          case round =>
            obtain ⟨j, hj, rfl, rfl, q, rfl⟩ := hrel
            have b0 := hbx0 q
            have b1 := hbx1 q
            have HB3 := hid (HB2.out q)
            have HO3 := hid (HO2.out q)
            have hsz3 := hsz2 q
            have HQ := hid (⟨q, rfl⟩ : ∃ q', W0.drewN q = W0.drewN q')
            have hjc := fun hjl : j < ps.length => HCL2.out q j hjl
            generalize W0.drewN q = wq at *
            clear hbx0 hbx1 HCL2 HB2 HO2 hsz2 HCL HO ne0 ne1 hc0 hc1 hc1' cp0 cp1 y1 y2
            by_cases hjn : j < n
            · have hjl : j < ps.length := by rw [← HN.out]; exact hjn
              obtain ⟨cx, cy⟩ := hjc hjl
              have hms := hid (memB_succ ps (qx, qy) j hjl)
              have hjn' : (j : Int) < n := by omega
              have heq := eqPt.1 (ps[j].1, ps[j].2) (qx, qy)
              simp only [encPt] at heq
              clear hjc
              generalize ps[j].1 = ax at *
              generalize ps[j].2 = ay at *
              cases hm : memB ps (qx, qy) j
              · have HM := hid hm
                clear hm
                generalize (ax == qx && ay == qy) = bb at *
                go_wp2
                go_quiet (fail)
                go_wp2
                go_roundw
                case rel => exact ⟨j + 1, by omega, by go_num, by rw [hms.out, HM.out]; rfl, drew_more HQ.out _⟩
                case measure => simp [intOf]; omega
              · have HM := hid hm
                clear hm
                go_wp2
                go_quiet (fail)
                go_wp2
                go_roundw
                case rel => exact ⟨j + 1, by omega, by go_num, by rw [hms.out, HM.out]; rfl, drew_more HQ.out _⟩
                case measure => simp [intOf]; omega
            · have hjn' : j = n := by omega
              subst hjn'
              clear hjc
              have hmem : memB ps (qx, qy) j = decide ((qx, qy) ∈ ps) := by unfold memB; rw [HN.out, List.take_length]
              rw [hmem]
              clear hmem
              have hpq : (0 ≤ qx ∧ qx ≤ N) ∧ (0 ≤ qy ∧ qy ≤ N) := by omega
              by_cases hin : (qx, qy) ∈ ps
              · rw [decide_eq_true hin]
                clear hin
                go_wp2
                go_roundw
                case rel => exact ⟨k + 2, ps, by go_num, by omega, HSQ.out, by rw [← HN.out]; exact HO3.out, HB3.out⟩
                case measure => simp [intOf]; omega
              · rw [decide_eq_false hin]
                have HIN := hid hin
                clear hin hsz3
                go_wp2_with (at_builtin; go_must (refine wpList_append_own _ rfl _ _ 26 rfl w.heap.size 35 i0 (.agg #[.int .i64 0, .int .i64 0]) 2 16 Tryz.underlying26 hi hz0 hz1 hz2 rfl (by decide) _ _ _ rfl (HO3.out.alloc _) ⟨wq.heap.size, 0, none⟩ 1 1 [.int .i64 qx, .int .i64 qy] rfl rfl ?c1 ?c2 ?c3 ?c4 ?c5 ?_))
                case c1 =>
                  intro i u hu
                  match i, hu with
                  | 0, hu => simp at hu; subst hu; exact World.cell?_alloc_at _ _ _ _ rfl
                  | 1, hu => simp at hu; subst hu; exact World.cell?_alloc_at _ _ _ _ rfl
                  | i + 2, hu => simp at hu
                case c2 => intro u hu; simp at hu; rcases hu with rfl | rfl <;> rfl
                case c3 => unfold maxLen; omega
                case c4 => omega
                case c5 => have := HB3.out.size; simp; omega
                intro v' w3 hown' hgrow _
                have hb3 : Below w.heap.size w w3 := (HB3.out.alloc HB3.out.size _).grown hgrow (by have := HB3.out.size; simp; omega) (fun k hk => by cases hk; exact hgb)
                have hsq3 := HSQ.out.snoc (by rw [← HN.out]; exact h30) (qx, qy) hpq HIN.out
                have hown3 : w3.ownsRow w.heap.size 35 2 v' (ps ++ [(qx, qy)]).length (cellsP (ps ++ [(qx, qy)])) := by
                  rw [cellsP_snoc, List.length_append, ← HN.out]; exact hown'
                have HR := hid (And.intro hsq3 (And.intro hown3 hb3))
                clear hown' hgrow hb3 hsq3 hown3
                go_wp2
                go_roundw
                case rel => exact ⟨k + 2, _, by go_num, by omega, HR.out.1, HR.out.2.1, HR.out.2.2⟩
                case measure => simp [intOf]; omega
      · have HR := hid (And.intro HSQ.out (And.intro HO.out HB.out))
        have h30' : decide ((n : Int) < 30) = false := by simp; omega
        have hlt' : (k : Int) + 1 < len := by omega
        clear HSQ HO HB HCL
        go_wp2
        go_ret
        exact ⟨_, N, ps, rfl, HR.out.2.2, HR.out.1, by rw [← HN.out]; exact HR.out.2.1⟩
    · have HR := hid (And.intro HSQ.out (And.intro HO.out HB.out))
      have hlt' : decide ((k : Int) + 1 < len) = false := by simp; omega
      clear HSQ HO HB HCL
      go_wp2
      go_ret
      exact ⟨_, N, ps, rfl, HR.out.2.2, HR.out.1, by rw [← HN.out]; exact HR.out.2.1⟩
set_option maxRecDepth 100000 in
set_option maxHeartbeats 1000000 in
theorem known_any (g len cap n : Nat) (h : Nat → Nat) (w : World) (h3 : 3 ≤ len) (hlen : len ≤ 100) (hcell : ∀ j, j < len → w.cell? ⟨g, j, none⟩ = some (.int .i64 (h j : Nat))) (hlt : ∀ j, j < len → h j < n) (hinj : ∀ i j, i < j → j < len → h i ≠ h j) :
    Calls Tryz.prog 22 #[.slice (some ⟨g, 0, none⟩) len cap, .int .i64 n] w fun e w' => e = .returned (.bool true) ∧ ∃ q, w' = w.drewN q := by
  have HC := hid hcell
  have HL := hid hlt
  have HI := hid hinj
  clear hcell hlt hinj
  go_enter Tryz.func22, Tryz.ntmps22
  go_wp2
  go_loopw [5] (fun i wr => ∃ k : Nat, k ≤ len ∧ i = .int .i64 k ∧ ∃ q, wr = w.drewN q) (fun i _ => len - (intOf i).toNat)
  case atStart => exact ⟨0, Nat.zero_le _, rfl, 0, rfl⟩
  case round =>
    obtain ⟨k, hk, rfl, q, rfl⟩ := hrel
    by_cases hkl : k < len
    · have hc : (w.drewN q).cell? ⟨g, k, none⟩ = some (.int .i64 (h k : Nat)) := HC.out k hkl
      have hln := HL.out k hkl
      have hd1 : decide (((h k : Nat) : Int) < 0) = false := by simp
      have hd2 : decide ((n : Int) ≤ ((h k : Nat) : Int)) = false := by simp; omega
      have hk' : (k : Int) < len := by omega
      have HQ := hid (⟨q, rfl⟩ : ∃ q', w.drewN q = w.drewN q')
      have HCQ : Hid (∀ q' j, j < len → ((w.drewN q).drewN q').cell? ⟨g, j, none⟩ = some (.int .i64 (h j : Nat))) := fun q' j hj => HC.out j hj
      generalize w.drewN q = wq at *
      go_wp2
      go_loopw [6] (fun kk w2 => ∃ j : Nat, j ≤ k ∧ kk = .int .i64 j ∧ ∃ q, w2 = wq.drewN q) (fun kk _ => k - (intOf kk).toNat)
      case atStart => exact ⟨0, Nat.zero_le _, rfl, 0, rfl⟩
      case round =>
        obtain ⟨j, hj, rfl, q2, rfl⟩ := hrel
        have HQ2 := hid (⟨q2, rfl⟩ : ∃ q', wq.drewN q2 = wq.drewN q')
        have ck := HCQ.out q2 k hkl
        have cj := fun hjl : j < len => HCQ.out q2 j hjl
        generalize wq.drewN q2 = wz at *
        by_cases hjk : j < k
        · have cj' := cj (by omega)
          have hne : (((h j : Nat) : Int) == ((h k : Nat) : Int)) = false := by
            have := HI.out j k hjk hkl
            rw [beq_eq_false_iff_ne]; omega
          have hjk' : (j : Int) < k := by omega
          have hjl' : (j : Int) < len := by omega
          clear cj hc
          generalize h j = x at *
          generalize h k = y at *
          go_wp2
          go_quiet (fail)
          go_wp2
          go_roundw
          case rel => exact ⟨j + 1, by omega, by go_num, drew_more' HQ2.out _⟩
          case measure => simp [intOf]; omega
        · have : j = k := by omega
          subst this
          clear cj hc ck
          go_wp2
          go_roundw
          case rel => exact ⟨j + 1, by omega, by go_num, by obtain ⟨q', e⟩ := HQ2.out; rw [e]; exact drew_more' HQ.out _⟩
          case measure => simp [intOf]; omega
    · have : k = len := by omega
      subst this
      have hge : decide ((3 : Int) ≤ (k : Int)) = true := by simp; omega
      go_wp2
      go_ret
      exact ⟨rfl, q, rfl⟩
open Go.Sort (SortedIn)
open Geo (IsHull)

set_option maxRecDepth 100000 in
set_option maxHeartbeats 1000000 in
theorem points_zero (a : Option Addr) (cap : Nat) (sz : Int) (w : World) (hsz : (Lit.int .i64 sz).wf = true) :
    Calls Tryz.prog 14 #[.slice a 0 cap, .int .i64 sz] w fun e w' => ∃ v N ps, e = .returned v ∧ Below w.heap.size w w' ∧ Sq N ps ∧ w'.ownsRow w.heap.size 35 2 v ps.length (cellsP ps) := by
  have hpk := pickI_bd sz 400 (by omega)
  have c1 := hid (pick_any sz 400 (wf_bd hsz) (by omega) (by omega))
  generalize pickI sz 400 = pk at *
  clear hsz
  go_enter Tryz.func14, Tryz.ntmps14
  go_wp2_with (go_at_call 19; refine (c1.out _).mono ?_; rintro e w' ⟨rfl, he⟩; have he' := he.symm; subst he'; clear he)
  refine wp_loop_rounds 1 ?_
  rw [rounds_succ]
  obtain ⟨N, hN⟩ : ∃ N, N = 8 + pk := ⟨_, rfl⟩
  have hN1 : 8 ≤ N := by omega
  have hN2 : N ≤ 407 := by omega
  rw [← hN]
  have H0 := hid (Sq.start N hN1 hN2)
  have H1 := hid (start_owns w N)
  have H2 := hid ((Below.refl w.heap.size w).alloc (Nat.le_refl _) (.cells #[.int .i64 0, .int .i64 0, .int .i64 N, .int .i64 0, .int .i64 0, .int .i64 N] 35))
  clear hN hpk c1
  go_wp2
  go_ret
  exact ⟨_, N, _, rfl, H2.out, H0.out, H1.out⟩

/-- The points of a square, by their numbers. -/
def sx (ps : List (Int × Int)) (i : Nat) : Int := (ps.getD i (0, 0)).1
def sy (ps : List (Int × Int)) (i : Nat) : Int := (ps.getD i (0, 0)).2

theorem sqr_bds {N : Int} {ps : List (Int × Int)} (h : Sq N ps) (i : Nat) (hi : i < ps.length) : (0 ≤ sx ps i ∧ sx ps i ≤ N) ∧ (0 ≤ sy ps i ∧ sy ps i ≤ N) := by
  unfold sx sy
  rw [List.getD_eq_getElem?_getD, List.getElem?_eq_getElem hi]
  exact h.bd _ (List.getElem_mem _)

theorem sq_ne {N : Int} {ps : List (Int × Int)} (h : Sq N ps) (i j : Nat) (hi : i < ps.length) (hj : j < ps.length) (hne : i ≠ j) : ¬ (sx ps i = sx ps j ∧ sy ps i = sy ps j) := by
  rintro ⟨e1, e2⟩
  unfold sx at e1
  unfold sy at e2
  rw [List.getD_eq_getElem?_getD, List.getD_eq_getElem?_getD, List.getElem?_eq_getElem hi, List.getElem?_eq_getElem hj] at e1 e2
  have e : ps[i] = ps[j] := Prod.ext e1 e2
  have nd := List.pairwise_iff_getElem.1 h.nodup
  rcases Nat.lt_or_gt_of_ne hne with hl | hl
  · exact nd i j hi hj hl e
  · exact nd j i hj hi hl e.symm

theorem sq_wide {N : Int} {ps : List (Int × Int)} (h : Sq N ps) : T (sx ps) (sy ps) 0 1 2 ≠ 0 := by
  have b := h.big
  have e0 : ps.getD 0 (0, 0) = (0, 0) := by rw [List.getD_eq_getElem?_getD, h.p0]; rfl
  have e1 : ps.getD 1 (0, 0) = (N, 0) := by rw [List.getD_eq_getElem?_getD, h.p1]; rfl
  have e2 : ps.getD 2 (0, 0) = (0, N) := by rw [List.getD_eq_getElem?_getD, h.p2]; rfl
  unfold T tw sx sy
  rw [e0, e1, e2]
  simp
  omega

theorem sq_ref {N : Int} {ps : List (Int × Int)} (h : Sq N ps) : refI (sx ps) (sy ps) ps.length = 0 := by
  have hA : allB (sx ps) (sy ps) ps.length = true := by
    rw [allB_iff]
    intro i hi
    have := sqr_bds h i hi
    have b := h.small
    rw [near_iff, near_iff]
    omega
  have hT : twB (sx ps) (sy ps) ps.length = false := by
    cases hc : twB (sx ps) (sy ps) ps.length with
    | false => rfl
    | true =>
      obtain ⟨i, hi, hc⟩ := (twB_iff _ _ _).1 hc
      obtain ⟨j, hj, e⟩ := (twiceAt_iff _ _ _).1 hc
      exact absurd e (sq_ne h i j hi (by omega) (by omega))
  have hF : flatB (sx ps) (sy ps) (ps.length - 2) = false :=
    flatB_false _ _ _ 0 (by have := h.len; omega) (sq_wide h)
  simp [refI, hA, hT, hF]

theorem sq_pts {w : World} {g : Nat} {ps : List (Int × Int)} (hg : g < w.heap.size)
    (hc : ∀ i, (hi : i < ps.length) → w.cell? ⟨g, i * 2, none⟩ = some (.int .i64 ps[i].1) ∧ w.cell? ⟨g, i * 2 + 1, none⟩ = some (.int .i64 ps[i].2)) : Pts w g 0 ps.length (sx ps) (sy ps) := by
  refine ⟨hg, fun i hi => ?_, fun i hi => ?_⟩
  · rw [Nat.zero_add, (hc i hi).1]
    simp [sx, hi]
  · rw [Nat.zero_add, (hc i hi).2]
    simp [sy, hi]

/-- What Convex knows of the points, by their numbers. -/
structure Sett (n : Nat) (px py : Nat → Int) : Prop where
  len : 3 ≤ n
  len' : n ≤ 30
  bd : ∀ i, i < n → (0 ≤ px i ∧ px i ≤ 407) ∧ (0 ≤ py i ∧ py i ≤ 407)
  ne : ∀ i j, i < n → j < n → i ≠ j → ¬ (px i = px j ∧ py i = py j)
  wide : T px py 0 1 2 ≠ 0
  ref : refI px py n = 0

theorem sq_set {N : Int} {ps : List (Int × Int)} (h : Sq N ps) : Sett ps.length (sx ps) (sy ps) :=
  ⟨h.len, h.len', fun i hi => by have := sqr_bds h i hi; have := h.small; omega, sq_ne h, sq_wide h, sq_ref h⟩

theorem points_set {arg : Array Value} {w : World} (hpts : Calls Tryz.prog 14 arg w fun e w' => ∃ v N ps, e = .returned v ∧ Below w.heap.size w w' ∧ Sq N ps ∧ w'.ownsRow w.heap.size 35 2 v ps.length (cellsP ps)) :
    Calls Tryz.prog 14 arg w fun e w' => ∃ g n cp px py, e = .returned (.slice (some ⟨g, 0, none⟩) n cp) ∧ Below w.heap.size w w' ∧ n ≤ cp ∧ Sett n px py ∧ Pts w' g 0 n px py := by
  refine hpts.mono ?_
  rintro e w1 ⟨v, N, ps, rfl, hb1, hsq, ho⟩
  obtain ⟨g, cp, rfl, hgb, hgl, hcp, hcells⟩ := shape33 ho (by have := hsq.len; omega)
  exact ⟨g, ps.length, cp, sx ps, sy ps, rfl, hb1, hcp, sq_set hsq, sq_pts hgl hcells⟩

/-- What Convex knows of the corners, by their numbers. -/
structure Cnr (n : Nat) (px py : Nat → Int) (m : Nat) (h : Nat → Nat) : Prop where
  len : 3 ≤ m
  lt : ∀ i, i < m → h i < n
  inj : ∀ i j, i < j → j < m → h i ≠ h j
  side : ∀ i, i < m → ∀ p, p < n → 0 ≤ T px py (h i) (h ((i + 1) % m)) p
  turn : ∀ i, i < m → 0 < T px py (h i) (h ((i + 1) % m)) (h ((i + 2) % m))

end Go.Proofs.YtdbebbbceeopaaaGreat

set_option linter.unusedSimpArgs false
namespace Go.Proofs.YtdbebbbceeopaaaGreat
open Go.RowKit
open Flt (Is)

theorem bstep {w W W' : World} (h : Hid (Below w.heap.size w W)) (hb : Below W.heap.size W W') : Hid (Below w.heap.size w W') := hid (h.out.trans (hb.mono h.out.size))

/-- The number of a point in bounds? -/
def usB (px py : Nat → Int) (n : Nat) (k : Int) : Bool := decide (0 ≤ k) && (decide (k < n) && (nearB (px k.toNat) && nearB (py k.toNat)))

theorem nearB_iff (n : Int) : nearB n = true ↔ -1000 ≤ n ∧ n ≤ 1000 := by
  unfold nearB; simp

theorem usB_true {px py : Nat → Int} {n : Nat} {k : Int} (h : usB px py n k = true) : ∃ m : Nat, k = m ∧ m < n ∧ (-1000 ≤ px m ∧ px m ≤ 1000) ∧ (-1000 ≤ py m ∧ py m ≤ 1000) := by
  unfold usB at h
  simp only [Bool.and_eq_true, decide_eq_true_eq, nearB_iff] at h
  obtain ⟨h1, h2, h3, h4⟩ := h
  exact ⟨k.toNat, by omega, by omega, h3, h4⟩

set_option maxHeartbeats 1000000 in
theorem usable_any (px py : Nat → Int) (n qb qo cap : Nat) (k : Int) (w : World) (hp : Pts w qb qo n px py) :
    Calls Tryz.prog 67 #[.slice (some ⟨qb, qo, none⟩) n cap, .int .i64 k] w fun e w' => e = .returned (.bool (usB px py n k)) ∧ Below w.heap.size w w' := by
  by_cases h0 : 0 ≤ k
  · by_cases h1 : k < n
    · obtain ⟨m, rfl⟩ : ∃ m : Nat, k = m := ⟨k.toNat, by omega⟩
      have hx := hp.x m (by omega)
      have hy := hp.y m (by omega)
      have e : usB px py n (m : Int) = (nearB (px m) && nearB (py m)) := by unfold usB; simp; omega
      rw [e]
      have HC := hid (inBounds_any (px m) (py m))
      generalize (nearB (px m) && nearB (py m)) = r at *
      clear hp e
      go_enter Tryz.func67, Tryz.ntmps67
      go_wp2_with fail
      refine (HC.out _).mono ?_
      rintro e w' ⟨rfl, hb⟩
      have HB := hid hb
      clear hb
      go_wp2_with fail
      go_ret
      exact ⟨rfl, HB.out⟩
    · have e : usB px py n k = false := by unfold usB; simp; intro _ h; omega
      rw [e]
      clear hp e
      go_enter Tryz.func67, Tryz.ntmps67
      go_wp2_with fail
      go_ret
      exact ⟨rfl, Below.refl _ _⟩
  · have e : usB px py n k = false := by unfold usB; simp; intro h; omega
    rw [e]
    clear hp e
    go_enter Tryz.func67, Tryz.ntmps67
    go_wp2_with fail
    go_ret
    exact ⟨rfl, Below.refl _ _⟩

/-- Does the point (x, y), which is in bounds, lie in a triangle that is not left out? -/
def liesB (px py : Nat → Int) (n : Nat) (x y : Int) (t : Int × Int × Int) : Bool :=
  (usB px py n t.1 && (usB px py n t.2.1 && usB px py n t.2.2)) &&
    (decide (0 < tw (px t.1.toNat) (py t.1.toNat) (px t.2.1.toNat) (py t.2.1.toNat) (px t.2.2.toNat) (py t.2.2.toNat)) &&
      (decide (0 ≤ tw (px t.1.toNat) (py t.1.toNat) (px t.2.1.toNat) (py t.2.1.toNat) x y) &&
        (decide (0 ≤ tw (px t.2.1.toNat) (py t.2.1.toNat) (px t.2.2.toNat) (py t.2.2.toNat) x y) &&
          decide (0 ≤ tw (px t.2.2.toNat) (py t.2.2.toNat) (px t.1.toNat) (py t.1.toNat) x y))))

theorem geq_zero {r : Nat} {v : Int} (h : Is r v) : (FloatKind.f64.format.order r 0 == some Ordering.gt || FloatKind.f64.format.order r 0 == some Ordering.eq) = decide (0 ≤ v) := by
  rw [h.order is_zero]
  by_cases h1 : 0 < v
  · have h3 : 0 ≤ v := by omega
    simp [Int.compare_eq_gt.2 h1, h3]
  · by_cases h2 : v < 0
    · have h3 : ¬ 0 ≤ v := by omega
      simp [Int.compare_eq_lt.2 h2, h3]
    · have : v = 0 := by omega
      subst this; simp

theorem place_fl : ∃ fl : Int → Nat, (∀ z, -1000 ≤ z ∧ z ≤ 1000 → Is (fl z) z) ∧ ∀ (x y : Int) (w : World), Calls Tryz.prog 65 #[.agg #[.int .i64 x, .int .i64 y]] w fun e w' => e = .returned (.complex .f64 (fl x) (fl y)) ∧ Below w.heap.size w w' :=
  ⟨floatOfInt .f64, fun z h => Flt.Is.ofInt (by omega) (by omega), fun x y w => place_any x y w⟩

/-- Where liesIn keeps its triangle and its point. -/
def Inn (w W : World) (b0 : Nat) (ta tb tc x y : Int) : Prop :=
  Below w.heap.size w W ∧ b0 + 1 < W.heap.size ∧ W.cell? ⟨b0, 0, none⟩ = some (.int .i64 ta) ∧ W.cell? ⟨b0, 1, none⟩ = some (.int .i64 tb) ∧ W.cell? ⟨b0, 2, none⟩ = some (.int .i64 tc) ∧
    W.cell? ⟨b0 + 1, 0, none⟩ = some (.int .i64 x) ∧ W.cell? ⟨b0 + 1, 1, none⟩ = some (.int .i64 y)

theorem Inn.step {w W W' : World} {b0 : Nat} {ta tb tc x y : Int} (h : Inn w W b0 ta tb tc x y) (hb : Below W.heap.size W W') : Inn w W' b0 ta tb tc x y := by
  obtain ⟨h1, h2, h3, h4, h5, h6, h7⟩ := h
  exact ⟨h1.trans (hb.mono h1.size), Nat.lt_of_lt_of_le h2 hb.size, (hb.cell (by show b0 < _; omega)).trans h3, (hb.cell (by show b0 < _; omega)).trans h4, (hb.cell (by show b0 < _; omega)).trans h5,
    (hb.cell (by show b0 + 1 < _; omega)).trans h6, (hb.cell (by show b0 + 1 < _; omega)).trans h7⟩

theorem inn_new (w : World) (ta tb tc x y : Int) : Inn w ((w.alloc (.cells #[.int .i64 ta, .int .i64 tb, .int .i64 tc] 46)).alloc (.cells #[.int .i64 x, .int .i64 y] 35)) w.heap.size ta tb tc x y := by
  refine ⟨((Below.refl _ _).alloc (Nat.le_refl _) _).alloc (by simp) _, by simp, ?_, ?_, ?_, ?_, ?_⟩
  · rw [World.cell?_alloc_past _ _ _ (by simp), World.cell?_alloc_at _ _ _ _ (by simp)]; rfl
  · rw [World.cell?_alloc_past _ _ _ (by simp), World.cell?_alloc_at _ _ _ _ (by simp)]; rfl
  · rw [World.cell?_alloc_past _ _ _ (by simp), World.cell?_alloc_at _ _ _ _ (by simp)]; rfl
  · rw [World.cell?_alloc_at _ _ _ _ (by simp)]; rfl
  · rw [World.cell?_alloc_at _ _ _ _ (by simp)]; rfl

set_option maxRecDepth 100000 in
set_option maxHeartbeats 8000000 in
theorem liesIn_any (px py : Nat → Int) (n qb qo cap : Nat) (ta tb tc x y : Int) (w : World) (hp : Pts w qb qo n px py) (X : -1000 ≤ x ∧ x ≤ 1000) (Y : -1000 ≤ y ∧ y ≤ 1000) :
    Calls Tryz.prog 39 #[.slice (some ⟨qb, qo, none⟩) n cap, .agg #[.int .i64 ta, .int .i64 tb, .int .i64 tc], .agg #[.int .i64 x, .int .i64 y]] w fun e w' => e = .returned (.bool (liesB px py n x y (ta, tb, tc))) ∧ Below w.heap.size w w' := by
  have HP := hid hp
  have HU := hid (fun k W (h : Below w.heap.size w W) => usable_any px py n qb qo cap k W (hp.below h hp.lt))
  have I0 := hid (inn_new w ta tb tc x y)
  clear hp
  cases ua : usB px py n ta with
  | false =>
    have e : liesB px py n x y (ta, tb, tc) = false := by simp [liesB, ua]
    rw [e]
    clear e
    have UA := hid ua
    clear ua
    go_enter Tryz.func39, Tryz.ntmps39
    go_wp2_with fail
    refine (HU.out ta _ I0.out.1).mono ?_
    rintro e W2 ⟨rfl, hb⟩
    have I2 := hid (I0.out.step hb)
    rw [UA.out]
    clear hb
    go_wp2_with fail
    go_ret
    exact ⟨rfl, I2.out.1⟩
  | true =>
    cases ub : usB px py n tb with
    | false =>
      have e : liesB px py n x y (ta, tb, tc) = false := by simp [liesB, ub]
      rw [e]
      clear e
      have UA := hid ua
      have UB := hid ub
      clear ua ub
      go_enter Tryz.func39, Tryz.ntmps39
      go_wp2_with fail
      refine (HU.out ta _ I0.out.1).mono ?_
      rintro e W2 ⟨rfl, hb⟩
      have I2 := hid (I0.out.step hb)
      rw [UA.out]
      have c1 := I2.out.2.2.2.1
      clear hb
      go_wp2_with fail
      refine (HU.out tb _ I2.out.1).mono ?_
      rintro e W3 ⟨rfl, hb⟩
      have I3 := hid (I2.out.step hb)
      rw [UB.out]
      clear hb
      go_wp2_with fail
      go_ret
      exact ⟨rfl, I3.out.1⟩
    | true =>
      cases uc : usB px py n tc with
      | false =>
        have e : liesB px py n x y (ta, tb, tc) = false := by simp [liesB, uc]
        rw [e]
        clear e
        have UA := hid ua
        have UB := hid ub
        have UC := hid uc
        clear ua ub uc
        go_enter Tryz.func39, Tryz.ntmps39
        go_wp2_with fail
        refine (HU.out ta _ I0.out.1).mono ?_
        rintro e W2 ⟨rfl, hb⟩
        have I2 := hid (I0.out.step hb)
        rw [UA.out]
        have c1 := I2.out.2.2.2.1
        clear hb
        go_wp2_with fail
        refine (HU.out tb _ I2.out.1).mono ?_
        rintro e W3 ⟨rfl, hb⟩
        have I3 := hid (I2.out.step hb)
        rw [UB.out]
        have c2 := I3.out.2.2.2.2.1
        clear hb c1
        go_wp2_with fail
        refine (HU.out tc _ I3.out.1).mono ?_
        rintro e W4 ⟨rfl, hb⟩
        have I4 := hid (I3.out.step hb)
        rw [UC.out]
        clear hb c2
        go_wp2_with fail
        go_ret
        exact ⟨rfl, I4.out.1⟩
      | true =>
        obtain ⟨a, rfl, ha, ax, ay⟩ := usB_true ua
        obtain ⟨b, rfl, hb, bx, bya⟩ := usB_true ub
        obtain ⟨c, rfl, hc, cx, cy⟩ := usB_true uc
        obtain ⟨fl, hfl, PL⟩ := place_fl
        obtain ⟨t1, t1', K1⟩ := turn_any (fl (px a)) (fl (py a)) (fl (px b)) (fl (py b)) (fl (px c)) (fl (py c)) _ _ _ _ _ _ (hfl _ ax) (hfl _ ay) (hfl _ bx) (hfl _ bya) (hfl _ cx) (hfl _ cy) ax ay bx bya cx cy
        obtain ⟨t2, t2', K2⟩ := turn_any (fl (px a)) (fl (py a)) (fl (px b)) (fl (py b)) (fl x) (fl y) _ _ _ _ _ _ (hfl _ ax) (hfl _ ay) (hfl _ bx) (hfl _ bya) (hfl _ X) (hfl _ Y) ax ay bx bya X Y
        obtain ⟨t3, t3', K3⟩ := turn_any (fl (px b)) (fl (py b)) (fl (px c)) (fl (py c)) (fl x) (fl y) _ _ _ _ _ _ (hfl _ bx) (hfl _ bya) (hfl _ cx) (hfl _ cy) (hfl _ X) (hfl _ Y) bx bya cx cy X Y
        obtain ⟨t4, t4', K4⟩ := turn_any (fl (px c)) (fl (py c)) (fl (px a)) (fl (py a)) (fl x) (fl y) _ _ _ _ _ _ (hfl _ cx) (hfl _ cy) (hfl _ ax) (hfl _ ay) (hfl _ X) (hfl _ Y) cx cy ax ay X Y
        have g1 := gtr_zero t1'
        have g2 := geq_zero t2'
        have g3 := geq_zero t3'
        have g4 := geq_zero t4'
        have UA := hid ua
        have UB := hid ub
        have UC := hid uc
        have HPL := hid PL
        have HK1 := hid K1
        have HK2 := hid K2
        have HK3 := hid K3
        have HK4 := hid K4
        have e : liesB px py n x y (a, b, c) = (decide (0 < tw (px a) (py a) (px b) (py b) (px c) (py c)) && (decide (0 ≤ tw (px a) (py a) (px b) (py b) x y) && (decide (0 ≤ tw (px b) (py b) (px c) (py c) x y) && decide (0 ≤ tw (px c) (py c) (px a) (py a) x y)))) := by
          simp [liesB, ua, ub, uc]
        rw [e]
        clear e PL hfl K1 K2 K3 K4 t1' t2' t3' t4' ua ub uc ax ay bx bya cx cy X Y
        generalize decide (0 < tw (px a) (py a) (px b) (py b) (px c) (py c)) = d1 at *
        generalize decide (0 ≤ tw (px a) (py a) (px b) (py b) x y) = d2 at *
        generalize decide (0 ≤ tw (px b) (py b) (px c) (py c) x y) = d3 at *
        generalize decide (0 ≤ tw (px c) (py c) (px a) (py a) x y) = d4 at *
        have ha' : (a : Int) < n := by omega
        have hb' : (b : Int) < n := by omega
        have hc' : (c : Int) < n := by omega
        have za : (0 : Int) ≤ (a : Int) := by omega
        have zb : (0 : Int) ≤ (b : Int) := by omega
        have zc : (0 : Int) ≤ (c : Int) := by omega
        go_enter Tryz.func39, Tryz.ntmps39
        go_wp2_with fail
        refine (HU.out a _ I0.out.1).mono ?_
        rintro e W2 ⟨rfl, hb⟩
        have I2 := hid (I0.out.step hb)
        rw [UA.out]
        have c1 := I2.out.2.2.2.1
        clear hb
        go_wp2_with fail
        refine (HU.out b _ I2.out.1).mono ?_
        rintro e W3 ⟨rfl, hb⟩
        have I3 := hid (I2.out.step hb)
        rw [UB.out]
        have c2 := I3.out.2.2.2.2.1
        clear hb c1
        go_wp2_with fail
        refine (HU.out c _ I3.out.1).mono ?_
        rintro e W4 ⟨rfl, hb⟩
        have I4 := hid (I3.out.step hb)
        rw [UC.out]
        clear hb c2 I2 I3
        have hq4 := HP.out.below I4.out.1 HP.out.lt
        have xa := hq4.x a ha
        have ya := hq4.y a ha
        have xb := hq4.x b hb
        have yb := hq4.y b hb
        have xc := hq4.x c hc
        have yc := hq4.y c hc
        have ca := I4.out.2.2.1
        have cb := I4.out.2.2.2.1
        have cc := I4.out.2.2.2.2.1
        have I4d : Hid (Inn w W4.drew w.heap.size a b c x y) := hid (I4.out.step (Below.refl _ _).drew)
        clear hq4 I0 HU
        go_wp2_with fail
        go_region_held3 (fun w' => w'.cell? ⟨w.heap.size, 0, none⟩ = some (.int .i64 a) ∧ w'.cell? ⟨w.heap.size, 1, none⟩ = some (.int .i64 b) ∧ w'.cell? ⟨w.heap.size, 2, none⟩ = some (.int .i64 c) ∧ w'.cell? ⟨qb, qo + a * 2, none⟩ = some (.int .i64 (px a)) ∧ w'.cell? ⟨qb, qo + a * 2 + 1, none⟩ = some (.int .i64 (py a)) ∧ w'.cell? ⟨qb, qo + b * 2, none⟩ = some (.int .i64 (px b)) ∧ w'.cell? ⟨qb, qo + b * 2 + 1, none⟩ = some (.int .i64 (py b)) ∧ w'.cell? ⟨qb, qo + c * 2, none⟩ = some (.int .i64 (px c)) ∧ w'.cell? ⟨qb, qo + c * 2 + 1, none⟩ = some (.int .i64 (py c))) (go_keep)
          ((go_at_call 65; refine (HPL.out _ _ _).mono ?_; rintro e w6 ⟨rfl, hb6⟩; have J6 : Hid (Inn w w6 w.heap.size a b c x y) := hid (Inn.step (Hid.out (by assumption)) hb6); have hq6 := HP.out.below J6.out.1 HP.out.lt; have u1 := hq6.x a ha; have u2 := hq6.y a ha; have u3 := hq6.x b hb; have u4 := hq6.y b hb; have u5 := hq6.x c hc; have u6 := hq6.y c hc; have v1 := J6.out.2.2.1; have v2 := J6.out.2.2.2.1; have v3 := J6.out.2.2.2.2.1; clear hq6 hb6))
        have x0 := J6.out.2.2.2.2.2.1
        have y0 := J6.out.2.2.2.2.2.2
        clear u1 u2 u3 u4 u5 u6 v1 v2 v3 xa ya xb yb xc yc ca cb cc
        go_wp2_with fail
        refine (HPL.out _ _ _).mono ?_
        rintro e w7 ⟨rfl, hb7⟩
        have J7 := hid (J6.out.step hb7)
        clear hb7 x0 y0 ha' hb' hc' za zb zc
        go_wp2_with fail
        refine (HK1.out _).mono ?_
        rintro e w8 ⟨rfl, rfl⟩
        cases d1 with
        | false =>
          go_wp2_with fail
          go_ret
          exact ⟨rfl, J7.out.1⟩
        | true =>
          go_wp2_with fail
          refine (HK2.out _).mono ?_
          rintro e w9 ⟨rfl, rfl⟩
          cases d2 with
          | false =>
            go_wp2_with fail
            go_ret
            exact ⟨rfl, J7.out.1⟩
          | true =>
            go_wp2_with fail
            refine (HK3.out _).mono ?_
            rintro e w10 ⟨rfl, rfl⟩
            cases d3 with
            | false =>
              go_wp2_with fail
              go_ret
              exact ⟨rfl, J7.out.1⟩
            | true =>
              go_wp2_with fail
              refine (HK4.out _).mono ?_
              rintro e w11 ⟨rfl, rfl⟩
              go_wp2_with fail
              go_ret
              exact ⟨rfl, J7.out.1⟩
end Go.Proofs.YtdbebbbceeopaaaGreat

set_option linter.unusedSimpArgs false
namespace Go.Proofs.YtdbebbbceeopaaaGreat
open Go.RowKit

theorem cell_new {w : World} {o : Obj} {a : Addr} {v : Value} (h : w.cell? a = some v) : (w.alloc o).cell? a = some v :=
  (((Below.refl w.heap.size w).alloc (Nat.le_refl _) o).cell (World.block_lt_of_cell? w _ h)).trans h

set_option maxRecDepth 100000 in
set_option maxHeartbeats 1000000 in
theorem lies_closure (px py : Nat → Int) (n qb qo cap bp bq : Nat) (t : Int × Int × Int) (x y : Int) (W : World) (hp : Pts W qb qo n px py) (X : -1000 ≤ x ∧ x ≤ 1000) (Y : -1000 ≤ y ∧ y ≤ 1000)
    (h1 : W.cell? ⟨bp, 0, none⟩ = some (.slice (some ⟨qb, qo, none⟩) n cap)) (h2 : W.cell? ⟨bq, 0, none⟩ = some (.int .i64 x)) (h3 : W.cell? ⟨bq, 1, none⟩ = some (.int .i64 y)) :
    Calls Tryz.prog 38 #[.agg #[.int .i64 t.1, .int .i64 t.2.1, .int .i64 t.2.2], .pointer (some ⟨bp, 0, none⟩), .pointer (some ⟨bq, 0, none⟩)] W fun e w' => e = .returned (.bool (liesB px py n x y t)) ∧ Below W.heap.size W w' := by
  obtain ⟨ta, tb, tc⟩ := t
  have HL := hid (fun (W' : World) (hb : Below W.heap.size W W') => liesIn_any px py n qb qo cap ta tb tc x y W' (hp.below hb hp.lt) X Y)
  have c1 := cell_new (o := .cells #[.int .i64 ta, .int .i64 tb, .int .i64 tc] 46) h1
  have c2 := cell_new (o := .cells #[.int .i64 ta, .int .i64 tb, .int .i64 tc] 46) h2
  have c3 := cell_new (o := .cells #[.int .i64 ta, .int .i64 tb, .int .i64 tc] 46) h3
  clear hp X Y
  go_enter Tryz.func38, Tryz.ntmps38
  go_wp2_with fail
  refine (HL.out _ ((Below.refl _ _).alloc (Nat.le_refl _) _)).mono ?_
  rintro e w' ⟨rfl, hb⟩
  have HB := hid hb
  clear hb h1 h2 h3 c1 c2 c3
  go_wp2_with fail
  go_ret
  exact ⟨rfl, ((Below.refl _ _).alloc (Nat.le_refl _) _).trans (HB.out.mono (by simp))⟩

/-- The triangles of a list of whole numbers. -/
def tris (z : List Int) (m : Nat) : List (Int × Int × Int) := (List.range m).map fun i => (z.getD (i * 3) 0, z.getD (i * 3 + 1) 0, z.getD (i * 3 + 2) 0)

theorem tris_len (z : List Int) (m : Nat) : (tris z m).length = m := by simp [tris]

theorem tris_at (z : List Int) (m j : Nat) (hj : j < m) : (tris z m)[j]! = (z.getD (j * 3) 0, z.getD (j * 3 + 1) 0, z.getD (j * 3 + 2) 0) := by
  rw [getElem!_pos _ _ (by simpa [tris] using hj)]
  simp [tris]

/-- A row of triangles: block g, from o on, m of them, three cells each. -/
def Trs (w : World) (g o m : Nat) (z : List Int) : Prop :=
  g < w.heap.size ∧ ∀ j, j < m → w.cell? ⟨g, o + j * 3, none⟩ = some (.int .i64 (z.getD (j * 3) 0)) ∧ w.cell? ⟨g, o + j * 3 + 1, none⟩ = some (.int .i64 (z.getD (j * 3 + 1) 0)) ∧ w.cell? ⟨g, o + j * 3 + 2, none⟩ = some (.int .i64 (z.getD (j * 3 + 2) 0))

theorem Trs.below {w w' : World} {g o m : Nat} {z : List Int} (h : Trs w g o m z) (hb : Below w.heap.size w w') : Trs w' g o m z :=
  ⟨Nat.lt_of_lt_of_le h.1 hb.size, fun j hj => ⟨(hb.cell h.1).trans (h.2 j hj).1, (hb.cell h.1).trans (h.2 j hj).2.1, (hb.cell h.1).trans (h.2 j hj).2.2⟩⟩

def encT (t : Int × Int × Int) : List Value := [.int .i64 t.1, .int .i64 t.2.1, .int .i64 t.2.2]

/-- What Locate answers. -/
def locI (px py : Nat → Int) (n : Nat) (z : List Int) (m : Nat) (x y : Int) : Int :=
  if nearB x && nearB y then Lib.idxBy (fun _ t => liesB px py n x y t) (tris z m) default else -1

theorem index_any (px py : Nat → Int) (n qb qo cap bp bq g o m mcap : Nat) (z : List Int) (x y : Int) (w : World) (hp : Pts w qb qo n px py) (X : -1000 ≤ x ∧ x ≤ 1000) (Y : -1000 ≤ y ∧ y ≤ 1000)
    (h1 : w.cell? ⟨bp, 0, none⟩ = some (.slice (some ⟨qb, qo, none⟩) n cap)) (h2 : w.cell? ⟨bq, 0, none⟩ = some (.int .i64 x)) (h3 : w.cell? ⟨bq, 1, none⟩ = some (.int .i64 y)) (ht : Trs w g o m z) (hm : m ≤ 2000000) :
    Calls Tryz.prog 37 #[.slice (some ⟨g, o, none⟩) m mcap, .func (.func 38) #[] #[.pointer (some ⟨bp, 0, none⟩), .pointer (some ⟨bq, 0, none⟩)]] w fun e w' =>
      e = .returned (.int .i64 (Lib.idxBy (fun _ t => liesB px py n x y t) (tris z m) default)) ∧ Below w.heap.size w w' := by
  have eg : ∀ args w, (callFunc 38 args).run Tryz.prog w = .ok (.enter 38 args) w := enters_of Tryz.func38 (by kernel_rfl) rfl
  have hpr : PredBelow Tryz.prog 38 #[.pointer (some ⟨bp, 0, none⟩), .pointer (some ⟨bq, 0, none⟩)] (fun t => .agg (encT t).toArray) (fun t => liesB px py n x y t) w := by
    intro W t hb
    have := lies_closure px py n qb qo cap bp bq t x y W (hp.below hb hp.lt) X Y ((hb.cell (World.block_lt_of_cell? w _ h1)).trans h1) ((hb.cell (World.block_lt_of_cell? w _ h2)).trans h2) ((hb.cell (World.block_lt_of_cell? w _ h3)).trans h3)
    refine this.mono ?_
    rintro e w' ⟨rfl, hb'⟩
    exact ⟨rfl, hb.trans (hb'.mono hb.size)⟩
  have := AnyQ.slices_IndexFunc Tryz.indexL 3 Tryz.isAgg46 Tryz.sizeOf46 encT (fun _ => rfl) (fun t => liesB px py n x y t) 38 #[.pointer (some ⟨bp, 0, none⟩), .pointer (some ⟨bq, 0, none⟩)] eg g o m mcap (tris z m) w hpr (by rw [tris_len]; exact Nat.le_refl _) (by omega) ht.1
    (fun j hj i v hi => by
      rw [tris_len] at hj
      rw [tris_at z m j hj] at hi
      obtain ⟨a1, a2, a3⟩ := ht.2 j hj
      rcases i with _ | _ | _ | i
      · simp [encT] at hi; subst hi; exact a1
      · simp [encT] at hi; subst hi; exact a2
      · simp [encT] at hi; subst hi; exact a3
      · simp [encT] at hi)
  change Calls Tryz.prog 37 _ _ _ at this
  rw [show (tris z m).take m = tris z m from List.take_of_length_le (by rw [tris_len]; exact Nat.le_refl _)] at this
  exact this

set_option maxRecDepth 100000 in
set_option maxHeartbeats 1000000 in
theorem locate_any (px py : Nat → Int) (n qb qo cap g o m mcap : Nat) (z : List Int) (x y : Int) (w : World) (hp : Pts w qb qo n px py) (ht : Trs w g o m z) (hm : m ≤ 2000000) :
    Calls Tryz.prog 24 #[.slice (some ⟨qb, qo, none⟩) n cap, .slice (some ⟨g, o, none⟩) m mcap, .agg #[.int .i64 x, .int .i64 y]] w fun e w' => e = .returned (.int .i64 (locI px py n z m x y)) ∧ Below w.heap.size w w' := by
  have HP := hid hp
  have HT := hid ht
  have HI := hid (inBounds_any x y)
  unfold locI
  clear hp ht
  cases hr : (nearB x && nearB y) with
  | false =>
    rw [hr] at HI
    rw [if_neg (by simp)]
    clear hr
    go_enter Tryz.func24, Tryz.ntmps24
    go_wp2_with fail
    have b2 : Hid (Below w.heap.size w ((w.alloc (.cells #[.slice (some ⟨qb, qo, none⟩) n cap] 26)).alloc (.cells #[.int .i64 x, .int .i64 y] 35))) := hid (((Below.refl _ _).alloc (Nat.le_refl _) _).alloc (by simp) _)
    refine (HI.out _).mono ?_
    rintro e w' ⟨rfl, hb⟩
    have HB := bstep b2 hb
    clear hb b2
    go_wp2_with fail
    go_ret
    exact ⟨rfl, HB.out⟩
  | true =>
    rw [hr] at HI
    rw [if_pos rfl]
    obtain ⟨r, hr'⟩ : ∃ r, Lib.idxBy (fun _ t => liesB px py n x y t) (tris z m) default = r := ⟨_, rfl⟩
    rw [hr']
    have HR := hid hr'
    clear hr'
    rw [Bool.and_eq_true, nearB_iff, nearB_iff] at hr
    obtain ⟨X, Y⟩ := hr
    have HX := hid X
    have HY := hid Y
    clear X Y
    go_enter Tryz.func24, Tryz.ntmps24
    go_wp2_with fail
    obtain ⟨W1, hW1⟩ : ∃ W1 : World, W1 = (w.alloc (.cells #[.slice (some ⟨qb, qo, none⟩) n cap] 26)).alloc (.cells #[.int .i64 x, .int .i64 y] 35) := ⟨_, rfl⟩
    rw [← hW1]
    have b1 : Hid (Below w.heap.size w W1) := hid (by rw [hW1]; exact ((Below.refl _ _).alloc (Nat.le_refl _) _).alloc (by simp) _)
    have a1 : W1.cell? ⟨w.heap.size, 0, none⟩ = some (.slice (some ⟨qb, qo, none⟩) n cap) := by
      rw [hW1, World.cell?_alloc_past _ _ _ (by simp), World.cell?_alloc_at _ _ _ _ (by simp)]; rfl
    have a2 : W1.cell? ⟨w.heap.size + 1, 0, none⟩ = some (.int .i64 x) := by rw [hW1, World.cell?_alloc_at _ _ _ _ (by simp)]; rfl
    have a3 : W1.cell? ⟨w.heap.size + 1, 1, none⟩ = some (.int .i64 y) := by rw [hW1, World.cell?_alloc_at _ _ _ _ (by simp)]; rfl
    clear hW1
    refine (HI.out _).mono ?_
    rintro e W2 ⟨rfl, hb⟩
    have HB := bstep b1 hb
    have A1 := hid ((hb.cell (World.block_lt_of_cell? W1 _ a1)).trans a1)
    have A2 := hid ((hb.cell (World.block_lt_of_cell? W1 _ a2)).trans a2)
    have A3 := hid ((hb.cell (World.block_lt_of_cell? W1 _ a3)).trans a3)
    clear hb a1 a2 a3 b1
    go_wp2_with fail
    refine (index_any px py n qb qo cap w.heap.size (w.heap.size + 1) g o m mcap z x y W2 (HP.out.below HB.out HP.out.lt) HX.out HY.out A1.out A2.out A3.out (HT.out.below HB.out) hm).mono ?_
    rintro e W3 ⟨rfl, hb⟩
    have HB3 := bstep HB hb
    clear hb
    rw [HR.out]
    go_wp2_with fail
    go_ret
    exact ⟨rfl, HB3.out⟩
end Go.Proofs.YtdbebbbceeopaaaGreat

set_option linter.unusedSimpArgs false
namespace Go.Proofs.YtdbebbbceeopaaaGreat
open Go.RowKit

def Bds (n : Nat) (px py : Nat → Int) : Prop := ∀ i, i < n → (-1000 ≤ px i ∧ px i ≤ 1000) ∧ (-1000 ≤ py i ∧ py i ≤ 1000)

end Go.Proofs.YtdbebbbceeopaaaGreat

set_option linter.unusedSimpArgs false
namespace Go.Proofs.YtdbebbbceeopaaaGreat
open Go.RowKit

/-- Whole numbers in cells. -/
def Cel (W : World) (l : List (Nat × Nat × Int)) : Prop := ∀ q ∈ l, W.cell? ⟨q.1, q.2.1, none⟩ = some (.int .i64 q.2.2)

theorem Cel.step {W W' : World} {l : List (Nat × Nat × Int)} (h : Cel W l) (hb : Below W.heap.size W W') : Cel W' l := fun q hq =>
  (hb.cell (World.block_lt_of_cell? W _ (h q hq))).trans (h q hq)

theorem Cel.new {W : World} {l : List (Nat × Nat × Int)} (h : Cel W l) (o : Obj) : Cel (W.alloc o) l := fun q hq => cell_new (h q hq)

theorem Cel.cons {W : World} {l : List (Nat × Nat × Int)} {b o : Nat} {v : Int} (h : W.cell? ⟨b, o, none⟩ = some (.int .i64 v)) (hl : Cel W l) : Cel W ((b, o, v) :: l) := by
  intro q hq
  rcases List.mem_cons.1 hq with rfl | h'
  · exact h
  · exact hl q h'

theorem Cel.get {W : World} {l : List (Nat × Nat × Int)} (h : Cel W l) (i : Nat) (q : Nat × Nat × Int) (hi : l[i]? = some q) : W.cell? ⟨q.1, q.2.1, none⟩ = some (.int .i64 q.2.2) := h q (List.mem_of_getElem? hi)

theorem hit_near {px py : Nat → Int} {n a b c : Nat} {x y : Int} (h0 : (nearB x && nearB y) = true) (h1 : (nearB (px a) && nearB (py a)) = true) (h2 : (nearB (px b) && nearB (py b)) = true) (h3 : (nearB (px c) && nearB (py c)) = true) (ha : a < n) (hb : b < n) (hc : c < n) :
    ((nearB x && nearB y) && liesB px py n x y (a, b, c)) = (decide (0 < tw (px a) (py a) (px b) (py b) (px c) (py c)) && (decide (0 ≤ tw (px a) (py a) (px b) (py b) x y) && (decide (0 ≤ tw (px b) (py b) (px c) (py c) x y) && decide (0 ≤ tw (px c) (py c) (px a) (py a) x y)))) := by
  have e1 : usB px py n (a : Int) = true := by simp [usB, h1]; exact ha
  have e2 : usB px py n (b : Int) = true := by simp [usB, h2]; exact hb
  have e3 : usB px py n (c : Int) = true := by simp [usB, h3]; exact hc
  rw [h0]
  simp [liesB, e1, e2, e3]

def hitB (px py : Nat → Int) (n : Nat) (x y : Int) (t : Int × Int × Int) : Bool := (nearB x && nearB y) && liesB px py n x y t

theorem loc_miss {px py : Nat → Int} {n m : Nat} {z : List Int} {x y : Int} (h : ∀ j, j < m → hitB px py n x y (tris z m)[j]! = false) : locI px py n z m x y = -1 := by
  unfold locI
  cases hr : (nearB x && nearB y) with
  | false => rfl
  | true =>
    rw [if_pos rfl]
    have := Lib.idxBy_miss (fun (_ : Int × Int × Int) t => liesB px py n x y t) (tris z m) m default (fun j hj => by have := h j hj; unfold hitB at this; rw [hr] at this; simpa using this)
    rw [show (tris z m).take m = tris z m from List.take_of_length_le (by rw [tris_len]; exact Nat.le_refl _)] at this
    exact this

theorem loc_hit {px py : Nat → Int} {n m k : Nat} {z : List Int} {x y : Int} (hk : k < m) (h : hitB px py n x y (tris z m)[k]! = true) (h' : ∀ j, j < k → hitB px py n x y (tris z m)[j]! = false) : locI px py n z m x y = k := by
  unfold hitB at h h'
  rw [Bool.and_eq_true] at h
  unfold locI
  rw [h.1, if_pos rfl]
  have := Lib.idxBy_hit (fun (_ : Int × Int × Int) t => liesB px py n x y t) (tris z m) m k default hk (by rw [tris_len]; exact Nat.le_refl _) h.2 (fun j hj => by have := h' j hj; rw [h.1] at this; simpa using this)
  rw [show (tris z m).take m = tris z m from List.take_of_length_le (by rw [tris_len]; exact Nat.le_refl _)] at this
  exact this

end Go.Proofs.YtdbebbbceeopaaaGreat

set_option linter.unusedSimpArgs false
namespace Go.Proofs.YtdbebbbceeopaaaGreat
open Go.RowKit

end Go.Proofs.YtdbebbbceeopaaaGreat

set_option linter.unusedSimpArgs false
namespace Go.Proofs.YtdbebbbceeopaaaGreat
open Go.RowKit

theorem sqr_bd {u v : Int} (h1 : -2000 ≤ u ∧ u ≤ 2000) (h2 : -2000 ≤ v ∧ v ≤ 2000) : -4000000 ≤ u * v ∧ u * v ≤ 4000000 := by
  have := bnd_mul (a := u) (b := v) (A := 2000) (B := 2000) h1.1 h1.2 h2.1 h2.2
  omega

end Go.Proofs.YtdbebbbceeopaaaGreat

set_option linter.unusedSimpArgs false
namespace Go.Proofs.YtdbebbbceeopaaaGreat
open Go.RowKit

/-- The triangles of a list are of points that there are. -/
structure Row3 (n m : Nat) (z : List Int) (A B C : Nat → Nat) : Prop where
  a : ∀ i, i < m → A i < n ∧ B i < n ∧ C i < n
  z : ∀ i, i < m → z.getD (i * 3) 0 = A i ∧ z.getD (i * 3 + 1) 0 = B i ∧ z.getD (i * 3 + 2) 0 = C i

end Go.Proofs.YtdbebbbceeopaaaGreat

set_option linter.unusedSimpArgs false
namespace Go.Proofs.YtdbebbbceeopaaaGreat
open Go.RowKit

end Go.Proofs.YtdbebbbceeopaaaGreat

set_option linter.unusedSimpArgs false
namespace Go.Proofs.YtdbebbbceeopaaaGreat
open Go.RowKit
open Geo

end Go.Proofs.YtdbebbbceeopaaaGreat

set_option linter.unusedSimpArgs false
namespace Go.Proofs.YtdbebbbceeopaaaGreat
open Go.RowKit

/-- The area of a fan, twice: of the first k of its triangles. -/
def fanI (px py : Nat → Int) (h : List Nat) : Nat → Int
  | 0 => 0
  | k + 1 => fanI px py h k + T px py (h.getD 0 0) (h.getD (k + 1) 0) (h.getD (k + 2) 0)

end Go.Proofs.YtdbebbbceeopaaaGreat

set_option linter.unusedSimpArgs false
namespace Go.Proofs.YtdbebbbceeopaaaGreat
open Go.RowKit

/-- A row of yes and no. -/
def bl (f : Nat → Bool) (n : Nat) : List Value := (List.range n).map fun j => .bool (f j)

/-- Which points are corners of the first k triangles. -/
def cf (A B C : Nat → Nat) : Nat → Nat → Bool
  | 0, _ => false
  | k + 1, p => ((cf A B C k p || p == A k) || p == B k) || p == C k

end Go.Proofs.YtdbebbbceeopaaaGreat
