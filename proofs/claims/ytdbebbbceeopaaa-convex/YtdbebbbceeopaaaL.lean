import Derived.Test.YtdbebbbceeopaaaI
import Derived.Deep.RegionHeld3
namespace Go.Proofs.Ytdbebbbceeopaaa
open Go.RowKit

/-- Points as cells. -/
def cellsP (ps : List (Int × Int)) : List Value := ps.flatMap fun p => [.int .i64 p.1, .int .i64 p.2]

theorem cellsP_len (ps : List (Int × Int)) : (cellsP ps).length = ps.length * 2 := by
  induction ps with
  | nil => rfl
  | cons p r ih =>
    show (cellsP r).length + 2 = _
    rw [ih]; simp; omega

theorem cellsP_snoc (ps : List (Int × Int)) (p : Int × Int) : cellsP (ps ++ [p]) = cellsP ps ++ [.int .i64 p.1, .int .i64 p.2] := by
  unfold cellsP; rw [List.flatMap_append]; rfl

theorem cellsP_get (ps : List (Int × Int)) : ∀ i, (h : i < ps.length) → (cellsP ps)[i * 2]? = some (.int .i64 ps[i].1) ∧ (cellsP ps)[i * 2 + 1]? = some (.int .i64 ps[i].2) := by
  induction ps with
  | nil => intro i h; simp at h
  | cons p r ih =>
    intro i h
    have e : cellsP (p :: r) = .int .i64 p.1 :: .int .i64 p.2 :: cellsP r := rfl
    cases i with
    | zero => exact ⟨rfl, rfl⟩
    | succ i =>
      have := ih i (by simpa using h)
      rw [e, show (i + 1) * 2 = i * 2 + 1 + 1 by omega]
      exact this

/-- What 'points' makes: three corners of a square, and others in it, all different. -/
structure Sq (N : Int) (ps : List (Int × Int)) : Prop where
  big : 8 ≤ N
  small : N ≤ 407
  len : 3 ≤ ps.length
  len' : ps.length ≤ 30
  p0 : ps[0]? = some (0, 0)
  p1 : ps[1]? = some (N, 0)
  p2 : ps[2]? = some (0, N)
  bd : ∀ p ∈ ps, (0 ≤ p.1 ∧ p.1 ≤ N) ∧ (0 ≤ p.2 ∧ p.2 ≤ N)
  nodup : ps.Nodup

theorem Sq.start (N : Int) (h : 8 ≤ N) (h' : N ≤ 407) : Sq N [(0, 0), (N, 0), (0, N)] := by
  refine ⟨h, h', by simp, by simp, rfl, rfl, rfl, ?_, ?_⟩
  · intro p hp
    simp at hp
    rcases hp with rfl | rfl | rfl <;> simp <;> omega
  · simp; omega

theorem Sq.snoc {N : Int} {ps : List (Int × Int)} (h : Sq N ps) (hl : ps.length < 30) (p : Int × Int) (hp : (0 ≤ p.1 ∧ p.1 ≤ N) ∧ (0 ≤ p.2 ∧ p.2 ≤ N)) (hn : p ∉ ps) : Sq N (ps ++ [p]) := by
  have := h.len
  refine ⟨h.big, h.small, by simp; omega, by simp; omega, ?_, ?_, ?_, ?_, ?_⟩
  · rw [List.getElem?_append_left (by omega)]; exact h.p0
  · rw [List.getElem?_append_left (by omega)]; exact h.p1
  · rw [List.getElem?_append_left (by omega)]; exact h.p2
  · intro q hq
    rcases List.mem_append.1 hq with hq | hq
    · exact h.bd q hq
    · rw [List.mem_singleton.1 hq]; exact hp
  · rw [List.nodup_append]
    refine ⟨h.nodup, by simp, ?_⟩
    intro a ha b hb e
    rw [List.mem_singleton.1 hb] at e
    exact hn (e ▸ ha)

def IsRow (k : IntKind) (w : World) (a : Option Addr) (len cap : Nat) (zs : List Int) : Prop :=
  (a = none ∧ len = 0 ∧ cap = 0 ∧ zs = []) ∨
  ∃ x, a = some x ∧ len ≤ cap ∧ cap ≤ maxLen ∧ zs.length = cap ∧ (∀ i, i < zs.length → w.cell? (x.add i) = some (.int k (zs.getD i 0))) ∧ ∀ n ∈ zs, (Lit.int k n).wf = true

theorem wf_bd {n : Int} (h : (Lit.int .i64 n).wf = true) : -9223372036854775808 ≤ n ∧ n ≤ 9223372036854775807 := by
  simpa [Lit.wf, IntKind.min, IntKind.max, IntKind.signed, IntKind.bits] using h

theorem addr_block (x : Addr) (i : Nat) : (x.add i).block = x.block := by
  unfold Addr.add; split <;> rfl

theorem getD_mem {zs : List Int} {i : Nat} (h : i < zs.length) : zs.getD i 0 ∈ zs := by
  rw [List.getD_eq_getElem?_getD, List.getElem?_eq_getElem h]; exact List.getElem_mem _

theorem start_owns (w : World) (N : Int) : (w.alloc (.cells #[.int .i64 0, .int .i64 0, .int .i64 N, .int .i64 0, .int .i64 0, .int .i64 N] 30)).ownsRow w.heap.size 30 2 (.slice (some ⟨w.heap.size, 0, none⟩) 3 3) [((0 : Int), (0 : Int)), (N, 0), (0, N)].length (cellsP [(0, 0), (N, 0), (0, N)]) :=
  ⟨rfl, .inr ⟨w.heap.size, 3, _, rfl, Nat.le_refl _, heap_alloc_new w _, Nat.le_refl _, by unfold maxLen; omega, rfl, rfl⟩⟩

theorem shape33 {w : World} {base : Nat} {v : Value} {ps : List (Int × Int)} (h : w.ownsRow base 30 2 v ps.length (cellsP ps)) (hn : 0 < ps.length) :
    ∃ g cap, v = .slice (some ⟨g, 0, none⟩) ps.length cap ∧ base ≤ g ∧ g < w.heap.size ∧ ps.length ≤ cap ∧ ∀ i, (hi : i < ps.length) → w.cell? ⟨g, i * 2, none⟩ = some (.int .i64 ps[i].1) ∧ w.cell? ⟨g, i * 2 + 1, none⟩ = some (.int .i64 ps[i].2) := by
  rcases h.2 with ⟨_, h'⟩ | ⟨g, cap, cur, rfl, hb, hg, hc, _⟩
  · omega
  · refine ⟨g, cap, rfl, hb, (Array.getElem?_eq_some_iff.1 hg).1, hc, fun i hi => ?_⟩
    rw [h.cellAt (i * 2) (by omega), h.cellAt (i * 2 + 1) (by omega)]
    exact cellsP_get ps i hi

theorem drew_more {W wq : World} (h : ∃ q', wq = W.drewN q') (n : Nat) : ∃ q, wq.drewN n = W.drewN q := by
  obtain ⟨q', rfl⟩ := h
  exact ⟨_, drewN_drewN _ _ _⟩

/-- Is a point one of the first j of a list? -/
def memB (ps : List (Int × Int)) (q : Int × Int) (j : Nat) : Bool := decide (q ∈ ps.take j)

theorem memB_succ (ps : List (Int × Int)) (q : Int × Int) (j : Nat) (h : j < ps.length) : memB ps q (j + 1) = (memB ps q j || (ps[j].1 == q.1 && ps[j].2 == q.2)) := by
  unfold memB
  rw [List.take_succ_eq_append_getElem h, Bool.eq_iff_iff]
  simp only [List.mem_append, List.mem_singleton, Bool.or_eq_true, decide_eq_true_eq, Bool.and_eq_true, beq_iff_eq]
  constructor
  · rintro (h | h)
    · exact Or.inl h
    · right; rw [h]; exact ⟨rfl, rfl⟩
  · rintro (h | ⟨h1, h2⟩)
    · exact Or.inl h
    · right; exact Prod.ext h1.symm h2.symm

theorem cells_over {wr : World} {g i : Nat} {a b : Value} (hg : g < wr.heap.size) (h : wr.cell? ⟨g, i * 2, none⟩ = some a ∧ wr.cell? ⟨g, i * 2 + 1, none⟩ = some b) (o : Obj) (q : Nat) :
    ((wr.alloc o).drew.drewN q).cell? ⟨g, i * 2, none⟩ = some a ∧ ((wr.alloc o).drew.drewN q).cell? ⟨g, i * 2 + 1, none⟩ = some b := by
  have hb := below_drewN ((Below.refl wr.heap.size wr).alloc (Nat.le_refl _) o).drew q
  exact ⟨(hb.cell (by exact hg)).trans h.1, (hb.cell (by exact hg)).trans h.2⟩

theorem owns_over {wr : World} {base : Nat} {e : TypeId} {size : Nat} {v : Value} {n : Nat} {xs : List Value} (h : wr.ownsRow base e size v n xs) (o : Obj) (q : Nat) : ((wr.alloc o).drew.drewN q).ownsRow base e size v n xs := h.alloc o

set_option maxRecDepth 100000 in
set_option maxHeartbeats 2000000 in
theorem points_any (x : Addr) (len cap : Nat) (zs : List Int) (sz : Int) (w : World) (hlc : len ≤ cap) (hcm : len ≤ 17592186043904) (hzl : zs.length = cap) (hz : ∀ i, i < zs.length → w.cell? (x.add i) = some (.int .i64 (zs.getD i 0)))
    (hxb : x.block < w.heap.size) (hwz : ∀ n ∈ zs, (Lit.int .i64 n).wf = true) (hsz : (Lit.int .i64 sz).wf = true) :
    Calls Try.prog 4 #[.slice (some x) len cap, .int .i64 sz] w fun e w' => ∃ v N ps, e = .returned v ∧ Below w.heap.size w w' ∧ Sq N ps ∧ w'.ownsRow w.heap.size 30 2 v ps.length (cellsP ps) := by
  obtain ⟨i0, hi, hz0, hz1, hz2⟩ := info_parts Try.info30
  have hpk := pickI_bd sz 400 (by omega)
  have c1 := hid (pick_any sz 400 (wf_bd hsz) (by omega) (by omega))
  generalize pickI sz 400 = pk at *
  have HZ := hid hz
  have HWZ := hid hwz
  clear hz hwz hsz
  go_enter Try.func4, Try.ntmps4
  go_wp2_with (go_at_call 8; refine (c1.out _).mono ?_; rintro e w' ⟨rfl, he⟩; have he' := he.symm; subst he'; clear he)
  obtain ⟨N, hN⟩ : ∃ N, N = 8 + pk := ⟨_, rfl⟩
  have hN1 : 8 ≤ N := by omega
  have hN2 : N ≤ 407 := by omega
  rw [← hN]
  have H0 := hid (Sq.start N hN1 hN2)
  have H1 := hid (start_owns w N)
  have H2 := hid ((Below.refl w.heap.size w).alloc (Nat.le_refl _) (.cells #[.int .i64 0, .int .i64 0, .int .i64 N, .int .i64 0, .int .i64 0, .int .i64 N] 30))
  clear hN hpk c1
  go_loopw [6, 7] (fun l i wr => ∃ (k : Nat) (ps : List (Int × Int)), i = .int .i64 k ∧ k ≤ len ∧ Sq N ps ∧ wr.ownsRow w.heap.size 30 2 l ps.length (cellsP ps) ∧ Below w.heap.size w wr) (fun _ i _ => len + 1 - (intOf i).toNat)
  case atStart => exact ⟨0, _, rfl, by omega, H0.out, H1.out, H2.out⟩
  case round =>
    obtain ⟨k, ps, rfl, hk, hsq, ho, hb⟩ := hrel
    clear H0 H1 H2
    obtain ⟨g, cp, hv, hgb, hgl, hcp, hcells⟩ := shape33 ho (by have := hsq.len; omega)
    subst hv
    have hl3 := hsq.len
    have hl30 := hsq.len'
    obtain ⟨n, hn⟩ : ∃ n, n = ps.length := ⟨_, rfl⟩
    have HN := hid hn
    have HSQ := hid hsq
    rw [← hn] at ho
    have HO := hid ho
    have HB := hid hb
    have HCL := hid hcells
    rw [← hn] at hcp hl3 hl30 ⊢
    clear hn hsq ho hb hcells
    by_cases hlt : k + 1 < len
    · by_cases h30 : n < 30
      · obtain ⟨z0, hz0'⟩ : ∃ z, z = zs.getD k 0 := ⟨_, rfl⟩
        obtain ⟨z1, hz1'⟩ : ∃ z, z = zs.getD (k + 1) 0 := ⟨_, rfl⟩
        have hc0 : wr.cell? (x.add k) = some (.int .i64 z0) := by
          rw [hz0', HB.out.cell (by rw [addr_block]; exact hxb)]; exact HZ.out k (by omega)
        have hc1 : wr.cell? (x.add (k + 1)) = some (.int .i64 z1) := by
          rw [hz1', HB.out.cell (by rw [addr_block]; exact hxb)]; exact HZ.out (k + 1) (by omega)
        have hc1' : wr.cell? ⟨x.block, x.off + (k + 1), none⟩ = some (.int .i64 z1) := hc1
        have p0 := pickI_bd z0 (N + 1) (by omega)
        have p1 := pickI_bd z1 (N + 1) (by omega)
        have cp0 := hid (pick_any z0 (N + 1) (wf_bd (HWZ.out _ (by rw [hz0']; exact getD_mem (by omega)))) (by omega) (by omega))
        have cp1 := hid (pick_any z1 (N + 1) (wf_bd (HWZ.out _ (by rw [hz1']; exact getD_mem (by omega)))) (by omega) (by omega))
        clear hz0' hz1'
        generalize pickI z0 (N + 1) = qx at *
        generalize pickI z1 (N + 1) = qy at *
        have hlt' : (k : Int) + 1 < len := by omega
        have hlt'' : (k : Int) < len := by omega
        have h30' : (n : Int) < 30 := by omega
        have y1 : IntKind.i64.wrap (N + 1) = N + 1 := by rw [IntKind.wrap_i64]; omega
        have y2 : IntKind.i64.wrap ((k : Int) + 1) = k + 1 := by rw [IntKind.wrap_i64]; omega
        go_wp2
        have ne0 := World.new_ne wr (x.add k) hc0
        have ne1 := World.new_ne wr ⟨x.block, x.off + (k + 1), none⟩ hc1'
        have zz0 : (0 : Int) ≤ (k : Int) := by omega
        have zz1 : (0 : Int) ≤ (k : Int) + 1 := by omega
        go_region_held3 (fun w' => w'.cell? (x.add k) = some (.int .i64 z0) ∧ w'.cell? ⟨x.block, x.off + (k + 1), none⟩ = some (.int .i64 z1)) (go_keep) (first | (go_at_call_of 8 (Value.int .i64 z0); refine (cp0.out _).mono ?_; rintro e w' ⟨rfl, he⟩; have he' := he.symm; subst he'; clear he) | (go_at_call_of 8 (Value.int .i64 z1); refine (cp1.out _).mono ?_; rintro e w' ⟨rfl, he⟩; have he' := he.symm; subst he'; clear he))
        all_goals go_wp2
        all_goals
          have hbx0 : ∀ q, ((wr.alloc (.cells #[.int .i64 qx, .int .i64 qy] 30)).drew.drewN q).cell? ⟨wr.heap.size, 0, none⟩ = some (.int .i64 qx) := fun q => World.cell?_alloc_at _ _ _ _ rfl
          have hbx1 : ∀ q, ((wr.alloc (.cells #[.int .i64 qx, .int .i64 qy] 30)).drew.drewN q).cell? ⟨wr.heap.size, 1, none⟩ = some (.int .i64 qy) := fun q => World.cell?_alloc_at _ _ _ _ rfl
          have HCL2 := hid (fun q i (hi : i < ps.length) => cells_over (wr := wr) (g := g) hgl (HCL.out i hi) (.cells #[.int .i64 qx, .int .i64 qy] 30) q)
          have HB2 := hid (fun q => below_drewN (HB.out.alloc HB.out.size (.cells #[.int .i64 qx, .int .i64 qy] 30)).drew q)
          have HO2 := hid (fun q => owns_over HO.out (.cells #[.int .i64 qx, .int .i64 qy] 30) q)
          have hsz2 : ∀ q, ((wr.alloc (.cells #[.int .i64 qx, .int .i64 qy] 30)).drew.drewN q).heap.size = wr.heap.size + 1 := fun q => by show (wr.alloc _).heap.size = _; simp
          generalize (wr.alloc (.cells #[.int .i64 qx, .int .i64 qy] 30)).drew = W0 at *
          go_loopw [9, 10] (fun ag kk w2 => ∃ j : Nat, j ≤ n ∧ kk = .int .i64 j ∧ ag = .bool (memB ps (qx, qy) j) ∧ ∃ q, w2 = W0.drewN q) (fun _ kk _ => n - (intOf kk).toNat)
          case atStart => exact ⟨0, Nat.zero_le _, rfl, by simp [memB], 0, rfl⟩
          case round =>
            obtain ⟨j, hj, rfl, rfl, q, rfl⟩ := hrel
            have b0 := hbx0 q
            have b1 := hbx1 q
            have HB3 := hid (HB2.out q)
            have HO3 := hid (HO2.out q)
            have hsz3 := hsz2 q
            have HQ := hid (⟨q, rfl⟩ : ∃ q', W0.drewN q = W0.drewN q')
            have hjc := fun hjl : j < ps.length => HCL2.out q j hjl
            generalize W0.drewN q = wq at *
            clear hbx0 hbx1 HCL2 HB2 HO2 hsz2 HCL HO ne0 ne1 hc0 hc1 hc1' cp0 cp1 y1 y2
            by_cases hjn : j < n
            · have hjl : j < ps.length := by rw [← HN.out]; exact hjn
              obtain ⟨cx, cy⟩ := hjc hjl
              have hms := hid (memB_succ ps (qx, qy) j hjl)
              have hjn' : (j : Int) < n := by omega
              have heq := eqPt.1 (ps[j].1, ps[j].2) (qx, qy)
              simp only [encPt] at heq
              clear hjc
              generalize ps[j].1 = ax at *
              generalize ps[j].2 = ay at *
              cases hm : memB ps (qx, qy) j
              · have HM := hid hm
                clear hm
                generalize (ax == qx && ay == qy) = bb at *
                go_wp2
                go_quiet (fail)
                go_wp2
                go_roundw
                case rel => exact ⟨j + 1, by omega, by go_num, by rw [hms.out, HM.out]; rfl, drew_more HQ.out _⟩
                case measure => simp [intOf]; omega
              · have HM := hid hm
                clear hm
                go_wp2
                go_quiet (fail)
                go_wp2
                go_roundw
                case rel => exact ⟨j + 1, by omega, by go_num, by rw [hms.out, HM.out]; rfl, drew_more HQ.out _⟩
                case measure => simp [intOf]; omega
            · have hjn' : j = n := by omega
              subst hjn'
              clear hjc
              have hmem : memB ps (qx, qy) j = decide ((qx, qy) ∈ ps) := by unfold memB; rw [HN.out, List.take_length]
              rw [hmem]
              clear hmem
              have hpq : (0 ≤ qx ∧ qx ≤ N) ∧ (0 ≤ qy ∧ qy ≤ N) := by omega
              by_cases hin : (qx, qy) ∈ ps
              · rw [decide_eq_true hin]
                clear hin
                go_wp2
                go_roundw
                case rel => exact ⟨k + 2, ps, by go_num, by omega, HSQ.out, by rw [← HN.out]; exact HO3.out, HB3.out⟩
                case measure => simp [intOf]; omega
              · rw [decide_eq_false hin]
                have HIN := hid hin
                clear hin hsz3
                go_wp2_with (at_builtin; go_must (refine wpList_append_own _ rfl _ _ 23 rfl w.heap.size 30 i0 (.agg #[.int .i64 0, .int .i64 0]) 2 16 Try.underlying23 hi hz0 hz1 hz2 rfl (by decide) _ _ _ rfl (HO3.out.alloc _) ⟨wq.heap.size, 0, none⟩ 1 1 [.int .i64 qx, .int .i64 qy] rfl rfl ?c1 ?c2 ?c3 ?c4 ?c5 ?_))
                case c1 =>
                  intro i u hu
                  match i, hu with
                  | 0, hu => simp at hu; subst hu; exact World.cell?_alloc_at _ _ _ _ rfl
                  | 1, hu => simp at hu; subst hu; exact World.cell?_alloc_at _ _ _ _ rfl
                  | i + 2, hu => simp at hu
                case c2 => intro u hu; simp at hu; rcases hu with rfl | rfl <;> rfl
                case c3 => unfold maxLen; omega
                case c4 => omega
                case c5 => have := HB3.out.size; simp; omega
                intro v' w3 hown' hgrow _
                have hb3 : Below w.heap.size w w3 := (HB3.out.alloc HB3.out.size _).grown hgrow (by have := HB3.out.size; simp; omega) (fun k hk => by cases hk; exact hgb)
                have hsq3 := HSQ.out.snoc (by rw [← HN.out]; exact h30) (qx, qy) hpq HIN.out
                have hown3 : w3.ownsRow w.heap.size 30 2 v' (ps ++ [(qx, qy)]).length (cellsP (ps ++ [(qx, qy)])) := by
                  rw [cellsP_snoc, List.length_append, ← HN.out]; exact hown'
                have HR := hid (And.intro hsq3 (And.intro hown3 hb3))
                clear hown' hgrow hb3 hsq3 hown3
                go_wp2
                go_roundw
                case rel => exact ⟨k + 2, _, by go_num, by omega, HR.out.1, HR.out.2.1, HR.out.2.2⟩
                case measure => simp [intOf]; omega
      · have HR := hid (And.intro HSQ.out (And.intro HO.out HB.out))
        have h30' : decide ((n : Int) < 30) = false := by simp; omega
        have hlt' : (k : Int) + 1 < len := by omega
        clear HSQ HO HB HCL
        go_wp2
        go_ret
        exact ⟨_, N, ps, rfl, HR.out.2.2, HR.out.1, by rw [← HN.out]; exact HR.out.2.1⟩
    · have HR := hid (And.intro HSQ.out (And.intro HO.out HB.out))
      have hlt' : decide ((k : Int) + 1 < len) = false := by simp; omega
      clear HSQ HO HB HCL
      go_wp2
      go_ret
      exact ⟨_, N, ps, rfl, HR.out.2.2, HR.out.1, by rw [← HN.out]; exact HR.out.2.1⟩
end Go.Proofs.Ytdbebbbceeopaaa
