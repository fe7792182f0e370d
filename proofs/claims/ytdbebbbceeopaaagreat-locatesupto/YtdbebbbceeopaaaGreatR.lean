import Derived.Test.YtdbebbbceeopaaaGreatQ
import Derived.Test.YtdbebbbceeopaaaGreatWrap
set_option linter.unusedSimpArgs false
namespace Go.Proofs.YtdbebbbceeopaaaGreat
open Go.RowKit
open Geo

theorem pig : ∀ (n : Nat) (l : List Nat), l.Nodup → (∀ x ∈ l, x < n) → l.length ≤ n := by
  intro n
  induction n with
  | zero =>
    intro l _ hl
    cases l with
    | nil => exact Nat.le_refl _
    | cons x r => exact absurd (hl x (by simp)) (by omega)
  | succ n ih =>
    intro l hn hl
    have h1 := ih (l.erase n) (hn.erase n) (fun x hx => by
      have := (hn.mem_erase_iff).1 hx
      have := hl x this.2
      omega)
    rw [List.length_erase] at h1
    split at h1 <;> omega

theorem hull_le {px py : Nat → Int} {n : Nat} {h : List Nat} (H : IsHull px py n h) : h.length ≤ n := by
  refine pig n h ?_ ?_
  · refine List.pairwise_iff_getElem.2 ?_
    intro i j hi hj hij e
    have := H.inj i j hij hj
    rw [List.getD_eq_getElem?_getD, List.getD_eq_getElem?_getD, List.getElem?_eq_getElem hi, List.getElem?_eq_getElem hj] at this
    exact this e
  · intro x hx
    obtain ⟨i, hi, rfl⟩ := List.getElem_of_mem hx
    have := H.lt i hi
    rw [List.getD_eq_getElem?_getD, List.getElem?_eq_getElem hi] at this
    exact this

theorem btwB_iff (px py : Nat → Int) (a b c : Nat) : btwB (px a) (py a) (px b) (py b) (px c) (py c) = true ↔ Btw px py a b c := by
  unfold btwB Btw T
  simp only [Bool.and_eq_true, decide_eq_true_eq, Bool.not_eq_true', Bool.and_eq_false_iff, beq_eq_false_iff_ne]
  constructor
  · rintro ⟨⟨⟨⟨a1, a2⟩, a3⟩, a4⟩, a5⟩
    exact ⟨a1, by omega, by omega, a4, a5⟩
  · rintro ⟨a1, a2, a3, a4, a5⟩
    exact ⟨⟨⟨⟨a1, by omega⟩, by omega⟩, a4⟩, a5⟩

/-- What the inner loop of the reference knows behind k points: from corner a, whose next corner is b. -/
def Nx (px py : Nat → Int) (n a b k : Nat) (x : Int) : Prop :=
  (x = -1 ∧ k ≤ b) ∨ ∃ c : Nat, x = c ∧ c < n ∧ c < k ∧ c ≠ a ∧ (∀ p, p < n → 0 ≤ T px py a c p) ∧ (b < k → c = b)

theorem Nx.skip {px py : Nat → Int} {n a b k : Nat} {x : Int} (h : Nx px py n a b k x) (hk : k ≠ b) : Nx px py n a b (k + 1) x := by
  rcases h with ⟨h1, h2⟩ | ⟨c, h1, h2, h3, h4, h5, h6⟩
  · exact Or.inl ⟨h1, by omega⟩
  · exact Or.inr ⟨c, h1, h2, by omega, h4, h5, fun hb => h6 (by omega)⟩

theorem between_at {n : Nat} {px py : Nat → Int} (hbd : Bds n px py) (a b c : Nat) (ha : a < n) (hb : b < n) (hc : c < n) (w : World) :
    Calls Tryz.prog 83 #[.agg #[.int .i64 (px a), .int .i64 (py a)], .agg #[.int .i64 (px b), .int .i64 (py b)], .agg #[.int .i64 (px c), .int .i64 (py c)]] w fun e w' => e = .returned (.bool (btwB (px a) (py a) (px b) (py b) (px c) (py c))) ∧ Below w.heap.size w w' :=
  between_any _ _ _ _ _ _ (hbd a ha).1 (hbd a ha).2 (hbd b hb).1 (hbd b hb).2 (hbd c hc).1 (hbd c hc).2 w

theorem take_enc (h : List Nat) (r : Nat) (hr : r < h.length) : (h.take r).map encN ++ [.int .i64 (h.getD r 0 : Nat)] = (h.take (r + 1)).map encN := by
  rw [List.take_succ_eq_append_getElem hr, List.map_append, List.getD_eq_getElem?_getD, List.getElem?_eq_getElem hr]
  rfl

theorem one_owns (B : Nat) (w : World) (x : Nat) (hB : B ≤ w.heap.size) : (w.alloc (.cells #[.int .i64 (x : Nat)] 3)).ownsRow B 3 1 (.slice (some ⟨w.heap.size, 0, none⟩) 1 1) (0 + 1) ([x].map encN) :=
  ⟨rfl, .inr ⟨w.heap.size, 1, _, rfl, hB, heap_alloc_new w _, Nat.le_refl _, by unfold maxLen; omega, rfl, rfl⟩⟩

theorem take_one {h : List Nat} (hl : 0 < h.length) : h.take (0 + 1) = [h.getD 0 0] := by
  cases h with
  | nil => simp at hl
  | cons x r => rfl

def lexL (px py : Nat → Int) (i j : Nat) : Prop := px i < px j ∨ (px i = px j ∧ py i < py j)

set_option maxRecDepth 100000 in
set_option maxHeartbeats 4000000 in
theorem refHull_any (px py : Nat → Int) (n qb qo cap : Nat) (w : World) (hp : Pts w qb qo n px py) (h3 : 3 ≤ n) (hn : n ≤ 40) (hr : refI px py n = 0) (h : List Nat) (hH : IsHull px py n h) (hne : ∀ i j, i < n → j < n → i ≠ j → ¬ (px i = px j ∧ py i = py j)) :
    Calls Tryz.prog 46 #[.slice (some ⟨qb, qo, none⟩) n cap] w fun e w' => ∃ v, e = .returned (.tuple #[v, .int .i64 0]) ∧ Below w.heap.size w w' ∧ w'.ownsRow w.heap.size 3 1 v h.length (h.map encN) := by
  have c1 := check_any px py n qb qo cap w hp h3 hn
  rw [hr] at c1
  have C1 := hid c1
  have HP := hid hp
  have HH := hid hH
  have HNE := hid hne
  have HBD : Hid (Bds n px py) := by
    intro i hi
    have hA : allB px py n = true := by
      cases hx : allB px py n with
      | true => rfl
      | false => simp [refI, hx] at hr
    have := (allB_iff px py n).1 hA i hi
    exact ⟨(near_iff _).1 this.1, (near_iff _).1 this.2⟩
  clear hp hH hne hr c1
  obtain ⟨i0, hi, hz0, hz1, hz2⟩ := info_parts Tryz.info3
  go_enter Tryz.func46, Tryz.ntmps46
  go_wp2_with fail
  refine C1.out.mono ?_
  rintro e w1 ⟨rfl, hb1⟩
  have HB1 := hid hb1
  have HP1 := hid (HP.out.below hb1 HP.out.lt)
  clear C1 hb1
  go_wp2
  go_loopw [5, 6] (fun f i wr => ∃ k fi : Nat, k ≤ n ∧ i = .int .i64 k ∧ fi < n ∧ f = .int .i64 fi ∧ (∀ m, m < k → ¬ lexL px py m fi) ∧ ∃ q, wr = w1.drewN q) (fun _ i _ => n - (intOf i).toNat)
  case atStart => exact ⟨0, 0, Nat.zero_le _, rfl, by omega, rfl, fun m hm => by omega, 0, rfl⟩
  case round =>
    obtain ⟨k, fi, hk, rfl, hfi, rfl, hmin, q, rfl⟩ := hrel
    have HM := hid hmin
    have HQ := hid (⟨q, rfl⟩ : ∃ q', w1.drewN q = w1.drewN q')
    have HPQ : Hid (Pts (w1.drewN q) qb qo n px py) := ⟨HP1.out.lt, HP1.out.x, HP1.out.y⟩
    clear hmin
    by_cases hkn : k < n
    · have xk := HPQ.out.x k hkn
      have yk := HPQ.out.y k hkn
      have xf := HPQ.out.x fi hfi
      have yf := HPQ.out.y fi hfi
      have k' : (k : Int) < n := by omega
      have f' : (fi : Int) < n := by omega
      have HMT : Hid (lexL px py k fi → ∀ m, m < k + 1 → ¬ lexL px py m k) := by
        intro hl m hm
        by_cases e : m = k
        · subst e; unfold lexL; omega
        · have := HM.out m (by omega)
          unfold lexL at *
          omega
      have HMF : Hid (¬ lexL px py k fi → ∀ m, m < k + 1 → ¬ lexL px py m fi) := by
        intro hl m hm
        by_cases e : m = k
        · subst e; exact hl
        · exact HM.out m (by omega)
      generalize w1.drewN q = wq at *
      by_cases d1 : px k < px fi
      · have b1 : decide (px k < px fi) = true := by simp [d1]
        have HL := hid (show lexL px py k fi from Or.inl d1)
        clear d1
        go_wp2
        go_quiet (fail)
        go_wp2
        go_roundw
        case rel => exact ⟨k + 1, k, by omega, by go_num, hkn, rfl, HMT.out HL.out, drew_more' HQ.out _⟩
        case measure => simp [intOf]; omega
      · have b1 : decide (px k < px fi) = false := by simp; omega
        by_cases d2 : px k = px fi
        · have b2 : (px k == px fi) = true := by simp [d2]
          by_cases d3 : py k < py fi
          · have b3 : decide (py k < py fi) = true := by simp [d3]
            have HL := hid (show lexL px py k fi from Or.inr ⟨d2, d3⟩)
            clear d1 d2 d3
            go_wp2
            go_quiet (fail)
            go_wp2
            go_roundw
            case rel => exact ⟨k + 1, k, by omega, by go_num, hkn, rfl, HMT.out HL.out, drew_more' HQ.out _⟩
            case measure => simp [intOf]; omega
          · have b3 : decide (py k < py fi) = false := by simp; omega
            have HL := hid (show ¬ lexL px py k fi by unfold lexL; omega)
            clear d1 d2 d3
            go_wp2
            go_quiet (fail)
            go_wp2
            go_roundw
            case rel => exact ⟨k + 1, fi, by omega, by go_num, hfi, rfl, HMF.out HL.out, drew_more' HQ.out _⟩
            case measure => simp [intOf]; omega
        · have b2 : (px k == px fi) = false := by simp [d2]
          have HL := hid (show ¬ lexL px py k fi by unfold lexL; omega)
          clear d1 d2
          go_wp2
          go_quiet (fail)
          go_wp2
          go_roundw
          case rel => exact ⟨k + 1, fi, by omega, by go_num, hfi, rfl, HMF.out HL.out, drew_more' HQ.out _⟩
          case measure => simp [intOf]; omega
    · have hkn' : k = n := by omega
      subst hkn'
      have hf0 : fi = h.getD 0 0 := by
        have hl := HH.out.lt 0 (by have := HH.out.len; omega)
        rcases HH.out.first fi hfi with e | e
        · exact e
        · exact absurd (show lexL px py (h.getD 0 0) fi by unfold Lt Lex at e; unfold lexL; omega) (HM.out _ hl)
      have HF0 := hid hf0
      have hm3 := HH.out.len
      have hmn := hull_le HH.out
      have HBQ := hid (below_drewN HB1.out q)
      generalize w1.drewN q = wq at *
      clear hf0 HM HQ HP1 HB1
      obtain ⟨m, hm⟩ : ∃ m, m = h.length := ⟨_, rfl⟩
      have HMM := hid hm
      rw [← hm] at hm3 hmn
      clear hm
      have HO0 := hid (one_owns w.heap.size wq fi HBQ.out.size)
      have HB0 := hid (HBQ.out.alloc HBQ.out.size (.cells #[.int .i64 (fi : Nat)] 3))
      have HP0 : Hid (Pts (wq.alloc (.cells #[.int .i64 (fi : Nat)] 3)) qb qo k px py) := HPQ.out.below ((Below.refl wq.heap.size wq).alloc (Nat.le_refl _) _) HPQ.out.lt
      go_wp2
      go_loopw [7] (fun o wr => ∃ r : Nat, r < m ∧ wr.ownsRow w.heap.size 3 1 o (r + 1) ((h.take (r + 1)).map encN) ∧ Below w.heap.size w wr ∧ Pts wr qb qo k px py) (fun o _ => m - lenOf o)
      case atStart => exact ⟨0, by omega, by rw [take_one (by rw [← HMM.out]; omega), ← HF0.out]; exact HO0.out, HB0.out, HP0.out⟩
      case round =>
        obtain ⟨r, hrm, ho, hb, hpw⟩ := hrel
        clear HO0 HB0 HP0
        obtain ⟨g, cp, hv, hgb, hgl, hcp⟩ := ownsRow_shape ho (by omega)
        subst hv
        obtain ⟨a, ha⟩ : ∃ a, a = h.getD r 0 := ⟨_, rfl⟩
        obtain ⟨b, hb'⟩ : ∃ b, b = h.getD ((r + 1) % m) 0 := ⟨_, rfl⟩
        obtain ⟨c, hc'⟩ : ∃ c, c = h.getD ((r + 2) % m) 0 := ⟨_, rfl⟩
        have hca : wr.cell? ⟨g, r, none⟩ = some (.int .i64 (a : Nat)) := by
          rw [ho.cellAt r (by omega), ha]
          simp [encN, List.getElem?_take, show r < r + 1 by omega, show r < h.length by rw [← HMM.out]; exact hrm]
        have ha1 : a < k := by rw [ha]; exact HH.out.lt r (by rw [← HMM.out]; exact hrm)
        have hb1 : b < k := by rw [hb']; exact HH.out.lt _ (by rw [← HMM.out]; exact Nat.mod_lt _ (by omega))
        have hc1 : c < k := by rw [hc']; exact HH.out.lt _ (by rw [← HMM.out]; exact Nat.mod_lt _ (by omega))
        have hs1 : ∀ p, p < k → 0 ≤ T px py a b p := by
          have := HH.out.side r (by rw [← HMM.out]; exact hrm)
          rw [← HMM.out, ← ha, ← hb'] at this
          exact this
        have hs2 : ∀ p, p < k → 0 ≤ T px py b c p := by
          have := HH.out.side ((r + 1) % m) (by rw [← HMM.out]; exact Nat.mod_lt _ (by omega))
          rw [← HMM.out, ← hb', Nat.mod_add_mod, ← hc'] at this
          exact this
        have htn : 0 < T px py a b c := by
          have := HH.out.turn r (by rw [← HMM.out]; exact hrm)
          rw [← HMM.out, ← ha, ← hb', ← hc'] at this
          exact this
        have hab : a ≠ b := by
          intro e
          rw [e, T_cyc, T_cyc, T_two] at htn
          omega
        have HNEAR := hid (fun d (hd : d < k) (hda : d ≠ a) (hdb : d ≠ b) hbo => step_near hb1 hd hs1 hs2 hc1 htn HNE.out ha1 hda hdb hbo)
        have HS1 := hid hs1
        have HAB := hid hab
        have HO := hid ho
        have HB := hid hb
        have HPW := hid hpw
        have HBB := hid hb'
        clear hs1 hs2 htn hab ho hb hpw ha hb' hc'
        have ea : ((r + 1 : Nat) : Int) - 1 = (r : Int) := by omega
        obtain ⟨W0, rfl⟩ : ∃ W0, W0 = wr := ⟨wr, rfl⟩
        go_wp2
        go_loopw [9, 10] (fun nx bb w2 => ∃ (j : Nat) (x : Int), j ≤ k ∧ bb = .int .i64 j ∧ nx = .int .i64 x ∧ Nx px py k a b j x ∧ Below W0.heap.size W0 w2) (fun _ bb _ => k - (intOf bb).toNat)
        case atStart => exact ⟨0, -1, Nat.zero_le _, rfl, rfl, Or.inl ⟨rfl, Nat.zero_le _⟩, Below.refl _ _⟩
        case round =>
          obtain ⟨j, x, hj, rfl, rfl, hnx, hb2⟩ := hrel
          have HNX := hid hnx
          have HB2 := hid hb2
          clear hnx hb2
          by_cases hjk : j < k
          · have hjk' : (j : Int) < k := by omega
            by_cases hja : j = a
            · have hd : ((j : Int) == (a : Int)) = true := by simp [hja]
              have HR := hid (HNX.out.skip (show j ≠ b by rw [hja]; exact HAB.out))
              clear hja
              go_wp2
              go_roundw
              case rel => exact ⟨j + 1, x, by omega, by go_num, rfl, HR.out, HB2.out⟩
              case measure => simp [intOf]; omega
            · have hd : ((j : Int) == (a : Int)) = false := by simp; omega
              have HJA := hid hja
              clear hja
              have hp2 := HPW.out.below HB2.out HPW.out.lt
              have hbc := border_any px py k qb qo cap a j wr hp2 hn HBD.out ha1 hjk
              cases hbo : bordB px py a j k
              · rw [hbo] at hbc
                have HR := hid (HNX.out.skip (show j ≠ b by
                  intro e
                  rw [e, (bordB_iff px py a b k).2 HS1.out] at hbo
                  cases hbo))
                have HC := hid hbc
                clear hbc hbo hp2
                go_wp2_with fail
                refine HC.out.mono ?_
                rintro e w3 ⟨rfl, hb3⟩
                have HB3 := hid (HB2.out.trans (hb3.mono HB2.out.size))
                clear hb3 HC
                go_wp2_with fail
                go_roundw
                case rel => exact ⟨j + 1, x, by omega, by go_num, rfl, HR.out, HB3.out⟩
                case measure => simp [intOf]; omega
              · rw [hbo] at hbc
                have HBO := hid ((bordB_iff px py a j k).1 hbo)
                have HC := hid hbc
                have HP2 := hid hp2
                clear hbc hbo hp2
                rcases HNX.out with ⟨hx, hjb⟩ | ⟨c2, hx, hc2, hc2j, hc2a, hc2b, hc2e⟩
                · have HR : Hid (Nx px py k a b (j + 1) (j : Int)) := Or.inr ⟨j, rfl, hjk, by omega, HJA.out, HBO.out, fun hb => by omega⟩
                  subst hx
                  go_wp2_with fail
                  refine HC.out.mono ?_
                  rintro e w3 ⟨rfl, hb3⟩
                  have HB3 := hid (HB2.out.trans (hb3.mono HB2.out.size))
                  clear hb3 HC
                  go_wp2
                  go_quiet (fail)
                  go_wp2
                  go_roundw
                  case rel => exact ⟨j + 1, j, by omega, by go_num, rfl, HR.out, below_drewN HB3.out _⟩
                  case measure => simp [intOf]; omega
                · subst hx
                  have HC2 := hid (And.intro hc2b hc2e)
                  clear hc2b hc2e
                  go_wp2_with fail
                  refine HC.out.mono ?_
                  rintro e w3 ⟨rfl, hb3⟩
                  have hp3 := HP2.out.below hb3 HP2.out.lt
                  have HB3 := hid (HB2.out.trans (hb3.mono HB2.out.size))
                  have xa := hp3.x a ha1
                  have ya := hp3.y a ha1
                  have xj := hp3.x j hjk
                  have yj := hp3.y j hjk
                  have xc := hp3.x c2 hc2
                  have yc := hp3.y c2 hc2
                  have gl := hp3.lt
                  have q1 : (a : Int) < k := by omega
                  have q2 : (c2 : Int) < k := by omega
                  have q3 : (0 : Int) ≤ c2 := by omega
                  have q4 : (0 : Int) ≤ a := by omega
                  have q5 : (0 : Int) ≤ j := by omega
                  have hkb := between_at HBD.out a j c2 ha1 hjk hc2
                  have hbi := btwB_iff px py a j c2
                  clear hb3 HC hp3
                  cases hbt : btwB (px a) (py a) (px j) (py j) (px c2) (py c2)
                  · rw [hbt] at hkb hbi
                    have HR : Hid (Nx px py k a b (j + 1) (c2 : Int)) := by
                      refine Or.inr ⟨c2, rfl, hc2, by omega, hc2a, HC2.out.1, fun hb => ?_⟩
                      by_cases e : j = b
                      · by_cases e2 : c2 = b
                        · exact e2
                        · have := (HNEAR.out c2 hc2 hc2a e2 HC2.out.1).1
                          rw [← e] at this
                          exact absurd (hbi.2 this) (by simp)
                      · exact HC2.out.2 (by omega)
                    have K1 := hid hkb
                    clear hkb hbi hbt
                    go_wp2
                    go_region_held3 (fun w' => w'.cell? ⟨qb, qo + a * 2, none⟩ = some (.int .i64 (px a)) ∧ w'.cell? ⟨qb, qo + a * 2 + 1, none⟩ = some (.int .i64 (py a)) ∧ w'.cell? ⟨qb, qo + j * 2, none⟩ = some (.int .i64 (px j)) ∧ w'.cell? ⟨qb, qo + j * 2 + 1, none⟩ = some (.int .i64 (py j)) ∧ w'.cell? ⟨qb, qo + c2 * 2, none⟩ = some (.int .i64 (px c2)) ∧ w'.cell? ⟨qb, qo + c2 * 2 + 1, none⟩ = some (.int .i64 (py c2))) (go_keep) ((go_at_call 83; refine (K1.out _).mono ?_; rintro e w6 ⟨rfl, hb6⟩; have u1 := (hb6.cell (p := ⟨qb, qo + a * 2, none⟩) gl).trans xa; have u2 := (hb6.cell (p := ⟨qb, qo + a * 2 + 1, none⟩) gl).trans ya; have u3 := (hb6.cell (p := ⟨qb, qo + j * 2, none⟩) gl).trans xj; have u4 := (hb6.cell (p := ⟨qb, qo + j * 2 + 1, none⟩) gl).trans yj; have u5 := (hb6.cell (p := ⟨qb, qo + c2 * 2, none⟩) gl).trans xc; have u6 := (hb6.cell (p := ⟨qb, qo + c2 * 2 + 1, none⟩) gl).trans yc; have HB6 := hid hb6; clear hb6))
                    clear u1 u2 u3 u4 u5 u6 xa ya xj yj xc yc
                    go_wp2
                    go_roundw
                    case rel => exact ⟨j + 1, c2, by omega, by go_num, rfl, HR.out, HB3.out.drew.trans (HB6.out.mono HB3.out.size)⟩
                    case measure => simp [intOf]; omega
                  · rw [hbt] at hkb hbi
                    have HR : Hid (Nx px py k a b (j + 1) (j : Int)) := by
                      refine Or.inr ⟨j, rfl, hjk, by omega, HJA.out, HBO.out, fun hb => ?_⟩
                      by_cases e : j = b
                      · exact e
                      · have e2 : c2 = b := HC2.out.2 (by omega)
                        have := (HNEAR.out j hjk HJA.out e HBO.out).2
                        rw [← e2] at this
                        exact absurd (hbi.1 rfl) this
                    have K1 := hid hkb
                    clear hkb hbi hbt
                    go_wp2
                    go_region_held3 (fun w' => w'.cell? ⟨qb, qo + a * 2, none⟩ = some (.int .i64 (px a)) ∧ w'.cell? ⟨qb, qo + a * 2 + 1, none⟩ = some (.int .i64 (py a)) ∧ w'.cell? ⟨qb, qo + j * 2, none⟩ = some (.int .i64 (px j)) ∧ w'.cell? ⟨qb, qo + j * 2 + 1, none⟩ = some (.int .i64 (py j)) ∧ w'.cell? ⟨qb, qo + c2 * 2, none⟩ = some (.int .i64 (px c2)) ∧ w'.cell? ⟨qb, qo + c2 * 2 + 1, none⟩ = some (.int .i64 (py c2))) (go_keep) ((go_at_call 83; refine (K1.out _).mono ?_; rintro e w6 ⟨rfl, hb6⟩; have u1 := (hb6.cell (p := ⟨qb, qo + a * 2, none⟩) gl).trans xa; have u2 := (hb6.cell (p := ⟨qb, qo + a * 2 + 1, none⟩) gl).trans ya; have u3 := (hb6.cell (p := ⟨qb, qo + j * 2, none⟩) gl).trans xj; have u4 := (hb6.cell (p := ⟨qb, qo + j * 2 + 1, none⟩) gl).trans yj; have u5 := (hb6.cell (p := ⟨qb, qo + c2 * 2, none⟩) gl).trans xc; have u6 := (hb6.cell (p := ⟨qb, qo + c2 * 2 + 1, none⟩) gl).trans yc; have HB6 := hid hb6; clear hb6))
                    clear u1 u2 u3 u4 u5 u6 xa ya xj yj xc yc
                    go_wp2
                    go_roundw
                    case rel => exact ⟨j + 1, j, by omega, by go_num, rfl, HR.out, HB3.out.drew.trans (HB6.out.mono HB3.out.size)⟩
                    case measure => simp [intOf]; omega
          · have hjk' : j = k := by omega
            subst hjk'
            have hxb : x = (b : Int) := by
              rcases HNX.out with ⟨_, hjb⟩ | ⟨c2, hx, _, _, _, _, he⟩
              · omega
              · rw [hx, he hb1]
            subst hxb
            have hlb : decide ((b : Int) < 0) = false := by simp
            have HBF := hid (HB.out.trans (HB2.out.mono HB.out.size))
            have HOF := hid (owns_below HO.out HB2.out)
            have HPF := hid (HPW.out.below HB2.out HPW.out.lt)
            by_cases hrm1 : r + 1 = m
            · have hbf : ((b : Int) == (fi : Int)) = true := by
                have : b = fi := by rw [HBB.out, hrm1, Nat.mod_self, HF0.out]
                simp [this]
              have HE : Hid (wr.ownsRow w.heap.size 3 1 (.slice (some ⟨g, 0, none⟩) (r + 1) cp) h.length (h.map encN)) := by
                have h1 := HOF.out
                rw [hrm1, HMM.out, List.take_length] at h1
                rw [hrm1, HMM.out]
                exact h1
              go_wp2
              go_ret2
              exact ⟨_, rfl, HBF.out, HE.out⟩
            · have hlt : r + 1 < m := by omega
              have hbr : b = h.getD (r + 1) 0 := by rw [HBB.out, Nat.mod_eq_of_lt hlt]
              have hbf : ((b : Int) == (fi : Int)) = false := by
                have : b ≠ fi := by rw [hbr, HF0.out]; exact (HH.out.inj 0 (r + 1) (by omega) (by rw [← HMM.out]; exact hlt)).symm
                simp; omega
              have hlg : decide ((j : Int) < (r : Int) + 1) = false := by simp; omega
              have HT := hid (take_enc h (r + 1) (by rw [← HMM.out]; exact hlt))
              rw [← hbr] at HT
              clear hbr
              go_wp2_with (at_builtin; go_must (refine wpList_append_own _ rfl _ _ 25 rfl w.heap.size 3 i0 (.int .i64 0) 1 8 Tryz.underlying25 hi hz0 hz1 hz2 rfl (by decide) _ _ _ rfl (HOF.out.alloc _) ⟨wr.heap.size, 0, none⟩ 1 1 [.int .i64 (b : Nat)] rfl rfl ?c1 ?c2 ?c3 ?c4 ?c5 ?_))
              case c1 =>
                intro l u hl
                match l, hl with
                | 0, hl => simp at hl; subst hl; simp [Addr.add]
              case c2 => intro u hu; simp at hu; subst hu; rfl
              case c3 => unfold maxLen; omega
              case c4 => omega
              case c5 => have := HBF.out.size; simp; omega
              intro v' w7 hown' hgrow _
              have hb7 : Below w.heap.size w w7 := (HBF.out.alloc HBF.out.size _).grown hgrow (by have := HBF.out.size; simp; omega) (fun l hl => by cases hl; exact hgb)
              have hown7 : w7.ownsRow w.heap.size 3 1 v' (r + 1 + 1) ((h.take (r + 1 + 1)).map encN) := by rw [← HT.out, List.map_take]; exact hown'
              have HR := hid (And.intro hown7 (And.intro hb7 (HP.out.below hb7 HP.out.lt)))
              obtain ⟨a9, c9, hv9⟩ := owns_len hown7
              subst hv9
              clear hown' hgrow hb7 hown7
              go_wp2
              go_roundw
              case rel => exact ⟨r + 1, hlt, HR.out.1, HR.out.2.1, HR.out.2.2⟩
              case measure => simp [lenOf]; omega
end Go.Proofs.YtdbebbbceeopaaaGreat
