import Derived.Test.YtdbebbbceeopaaaGreatK15
set_option linter.unusedSimpArgs false
namespace Go.Proofs.YtdbebbbceeopaaaGreat
open Geo
variable {Pos : Int → Int → Prop} {px py : Nat → Int} {n : Nat}

/-- Whatever lies between a walk's ends is on it, or between two that follow one another. -/
theorem ed_between (H : Half Pos) {r : List Nat} (tri : ∀ p ∈ r, ∀ q ∈ r, p = q ∨ Lt Pos px py p q ∨ Lt Pos px py q p) : ∀ (s : List Nat) (l : Nat), (∀ y ∈ l :: s, y ∈ r) → ∀ m, (l :: s).getLast? = some m → ∀ i ∈ r, (i = m ∨ Lt Pos px py m i) → (i = l ∨ Lt Pos px py i l) →
    i ∈ l :: s ∨ ∃ u v, Ed (l :: s) u v ∧ Lt Pos px py u i ∧ Lt Pos px py i v
  | [], l, _, m, hm, i, hi, h1, h2 => by
    simp at hm
    subst hm
    rcases h1 with h1 | h1
    · exact .inl (by simp [h1])
    · rcases h2 with h2 | h2
      · exact .inl (by simp [h2])
      · exact (lt_irrefl H (h1.trans H h2)).elim
  | b :: s, l, hin, m, hm, i, hi, h1, h2 => by
    rw [List.getLast?_cons_cons] at hm
    rcases h2 with h2 | h2
    · exact .inl (by simp [h2])
    · rcases tri i hi b (hin b (by simp)) with k | k | k
      · exact .inl (by simp [k])
      · rcases ed_between H tri s b (fun y hy => hin y (List.mem_cons_of_mem _ hy)) m hm i hi h1 (.inr k) with g | ⟨u, v, e, g1, g2⟩
        · exact .inl (List.mem_cons_of_mem _ g)
        · exact .inr ⟨u, v, .inr e, g1, g2⟩
      · exact .inr ⟨b, l, .inl ⟨rfl, rfl⟩, k, h2⟩

/-- A point on the line of a side of the hull, between two of a walk, lies on the line of these. -/
theorem on_lex {a b u v i : Nat} (hab : Lt Lex px py a b) (hu : 0 ≤ T px py a b u) (hv : 0 ≤ T px py a b v) (hi : T px py a b i = 0) (h0 : 0 ≤ T px py u v i) (h1 : Lt Lex px py u i) (h2 : Lt Lex px py i v) : T px py u v i = 0 := by
  have id : T px py a b i * (px v - px u) = T px py a b u * (px v - px i) + T px py a b v * (px i - px u) + T px py u v i * (px b - px a) := by unfold T tw; grind
  have x1 := lex_px h1
  have x2 := lex_px h2
  rw [hi, Int.zero_mul] at id
  have m1 := Int.mul_nonneg hu (show 0 ≤ px v - px i by omega)
  have m2 := Int.mul_nonneg hv (show 0 ≤ px i - px u by omega)
  rcases hab with hab | ⟨hab, hab'⟩
  · rcases Int.lt_or_le 0 (T px py u v i) with k | k
    · have := Int.mul_pos k hab; omega
    · omega
  · have f : ∀ p, T px py a b p = (py b - py a) * (px a - px p) := fun p => by unfold T tw; grind
    rw [f] at hu hv hi
    have e1 : px a - px i = 0 := by
      rcases Int.mul_eq_zero.1 hi with k | k
      · omega
      · exact k
    have e2 := nn_of_mul hab' hv
    have e3 : px v = px i := by omega
    have e4 : py i < py v := by
      rcases h2 with k | ⟨_, k⟩ <;> omega
    have e5 : T px py u v i = (px i - px u) * (py i - py v) := by unfold T tw; grind
    rw [e5] at h0 ⊢
    rcases Int.lt_or_le 0 (px i - px u) with k | k
    · have := Int.mul_neg_of_pos_of_neg k (show py i - py v < 0 by omega); omega
    · have : px i - px u = 0 := by omega
      rw [this, Int.zero_mul]

theorem T_neg (a b c : Nat) : T (fun i => - px i) (fun i => - py i) a b c = T px py a b c := by unfold T tw; grind

theorem lt_neg {a b : Nat} : Lt Lex (fun i => - px i) (fun i => - py i) a b ↔ Lt Back px py a b := by
  unfold Lt Back
  rw [show -px b - -px a = -(px b - px a) by omega, show -py b - -py a = -(py b - py a) by omega]

theorem on_back {a b u v i : Nat} (hab : Lt Back px py a b) (hu : 0 ≤ T px py a b u) (hv : 0 ≤ T px py a b v) (hi : T px py a b i = 0) (h0 : 0 ≤ T px py u v i) (h1 : Lt Back px py u i) (h2 : Lt Back px py i v) : T px py u v i = 0 := by
  have := on_lex (px := fun i => - px i) (py := fun i => - py i) (a := a) (b := b) (u := u) (v := v) (i := i) (lt_neg.2 hab) (by rw [T_neg]; exact hu) (by rw [T_neg]; exact hv) (by rw [T_neg]; exact hi) (by rw [T_neg]; exact h0) (lt_neg.2 h1) (lt_neg.2 h2)
  rwa [T_neg] at this

/-- A point between the ends of a triangle's side lies in it. -/
theorem seg_in {u v w i : Nat} (h0 : T px py u v i = 0) (h1 : Lt Lex px py u i) (h2 : Lt Lex px py i v) (ht : 0 < T px py u v w) : 0 ≤ T px py v w i ∧ 0 ≤ T px py w u i := by
  have i1 : T px py v w i * (px v - px u) = (px v - px i) * T px py u v w := by unfold T tw at *; grind
  have i2 : T px py w u i * (px v - px u) = (px i - px u) * T px py u v w := by unfold T tw at *; grind
  have j1 : T px py v w i * (py v - py u) = (py v - py i) * T px py u v w := by unfold T tw at *; grind
  have j2 : T px py w u i * (py v - py u) = (py i - py u) * T px py u v w := by unfold T tw at *; grind
  have x1 := lex_px h1
  have x2 := lex_px h2
  rcases Int.lt_or_le 0 (px v - px u) with k | k
  · have m1 := Int.mul_nonneg (show 0 ≤ px v - px i by omega) (Int.le_of_lt ht)
    have m2 := Int.mul_nonneg (show 0 ≤ px i - px u by omega) (Int.le_of_lt ht)
    exact ⟨nn_of_mul k (by rw [Int.mul_comm]; omega), nn_of_mul k (by rw [Int.mul_comm]; omega)⟩
  · have y1 : py u < py i := by rcases h1 with g | ⟨_, g⟩ <;> omega
    have y2 : py i < py v := by rcases h2 with g | ⟨_, g⟩ <;> omega
    have m1 := Int.mul_nonneg (show 0 ≤ py v - py i by omega) (Int.le_of_lt ht)
    have m2 := Int.mul_nonneg (show 0 ≤ py i - py u by omega) (Int.le_of_lt ht)
    exact ⟨nn_of_mul (p := py v - py u) (by omega) (by rw [Int.mul_comm]; omega), nn_of_mul (p := py v - py u) (by omega) (by rw [Int.mul_comm]; omega)⟩

theorem seg_in_back {u v w i : Nat} (h0 : T px py u v i = 0) (h1 : Lt Back px py u i) (h2 : Lt Back px py i v) (ht : 0 < T px py u v w) : 0 ≤ T px py v w i ∧ 0 ≤ T px py w u i := by
  have := seg_in (px := fun i => - px i) (py := fun i => - py i) (u := u) (v := v) (w := w) (i := i) (by rw [T_neg]; exact h0) (lt_neg.2 h1) (lt_neg.2 h2) (by rw [T_neg]; exact ht)
  rwa [T_neg, T_neg] at this

/-- Does a point lie on the hull's border: on a line through two with nothing to its right? -/
def Bdr (px py : Nat → Int) (n i : Nat) : Prop := ∃ a b, a < n ∧ b < n ∧ a ≠ b ∧ (∀ p, p < n → 0 ≤ T px py a b p) ∧ T px py a b i = 0

variable {os : List Nat} {M : Nat → Nat → Option Nat} {R L : Nat} {s1 q1 s2 q2 : List Nat}

theorem Ring.tri2 (h : Ring px py n os M R L s1 q1 s2 q2) : ∀ p ∈ os.reverse, ∀ q ∈ os.reverse, p = q ∨ Lt Back px py p q ∨ Lt Back px py q p := by
  intro p hp q hq
  rcases h.tri p (List.mem_reverse.1 hp) q (List.mem_reverse.1 hq) with k | k | k
  · exact .inl k
  · exact .inr (.inr (lt_back.2 k))
  · exact .inr (.inl (lt_back.2 k))

theorem Ring.bdr (h : Ring px py n os M R L s1 q1 s2 q2) (hm : Mesh px py n M) (hj : Inj px py n) (hc : Cor n M) (hn : ∀ p, p ∈ os ↔ p < n) {i : Nat} (hi : i < n) : Bdr px py n i ↔ i ∈ R :: s1 ∨ i ∈ L :: s2 := by
  constructor
  · rintro ⟨a, b, ha, hb, hne, hs, h0⟩
    rcases h.tri a ((hn a).2 ha) b ((hn b).2 hb) with k | k | k
    · exact absurd k hne
    · left
      rcases ed_between half_lex h.tri s1 R h.w1.memS L h.w1.lastS i ((hn i).2 hi) (h.least i ((hn i).2 hi)) (h.most i ((hn i).2 hi)) with g | ⟨u, v, e, g1, g2⟩
      · exact g
      · exfalso
        have gs := h.w1.gdS.side _ _ e
        have mu := (hn u).1 (h.w1.memS u e.mem.1)
        have mv := (hn v).1 (h.w1.memS v e.mem.2)
        have t0 := on_lex k (hs u mu) (hs v mv) h0 (gs.2 i ((hn i).2 hi)) g1 g2
        have rm := (h.rim u v).2 (.inl e)
        cases hw : M u v with
        | none => exact rm.1 hw
        | some w =>
          have si := seg_in t0 g1 g2 (hm.pos _ _ _ hw)
          have pw := hm.pos _ _ _ hw
          rcases hm.empty hj hc hw hi (by omega) si.1 si.2 with q | q | q
          · subst q; exact lt_irrefl half_lex g1
          · subst q; exact lt_irrefl half_lex g2
          · subst q; omega
    · right
      have k' : Lt Back px py a b := lt_back.2 k
      have lst : i = L ∨ Lt Back px py i L := by
        rcases h.least i ((hn i).2 hi) with g | g
        · exact .inl g
        · exact .inr (lt_back.2 g)
      have mst : i = R ∨ Lt Back px py R i := by
        rcases h.most i ((hn i).2 hi) with g | g
        · exact .inl g
        · exact .inr (lt_back.2 g)
      rcases ed_between half_back' h.tri2 s2 L h.w2.memS R h.w2.lastS i (List.mem_reverse.2 ((hn i).2 hi)) mst lst with g | ⟨u, v, e, g1, g2⟩
      · exact g
      · exfalso
        have gs := h.w2.gdS.side _ _ e
        have mu := (hn u).1 (List.mem_reverse.1 (h.w2.memS u e.mem.1))
        have mv := (hn v).1 (List.mem_reverse.1 (h.w2.memS v e.mem.2))
        have t0 := on_back k' (hs u mu) (hs v mv) h0 (gs.2 i (List.mem_reverse.2 ((hn i).2 hi))) g1 g2
        have rm := (h.rim u v).2 (.inr e)
        cases hw : M u v with
        | none => exact rm.1 hw
        | some w =>
          have si := seg_in_back t0 g1 g2 (hm.pos _ _ _ hw)
          have pw := hm.pos _ _ _ hw
          rcases hm.empty hj hc hw hi (by omega) si.1 si.2 with q | q | q
          · subst q; exact lt_irrefl half_back' g1
          · subst q; exact lt_irrefl half_back' g2
          · subst q; omega
  · rintro (g | g)
    · have n1 := h.w1.s0 half_lex
      obtain ⟨v, e⟩ := Ed_nb (R :: s1) i g (by cases s1 with | nil => exact absurd rfl n1 | cons _ _ => simp)
      rcases e with e | e
      · have gs := h.w1.gdS.side _ _ e
        exact ⟨i, v, hi, (hn v).1 (h.w1.memS v e.mem.2), (fun q => by subst q; exact lt_irrefl half_lex gs.1), fun p hp => gs.2 p ((hn p).2 hp), T_one _ _⟩
      · have gs := h.w1.gdS.side _ _ e
        exact ⟨v, i, (hn v).1 (h.w1.memS v e.mem.1), hi, (fun q => by subst q; exact lt_irrefl half_lex gs.1), fun p hp => gs.2 p ((hn p).2 hp), T_two _ _⟩
    · have n2 := h.w2.s0 half_back'
      obtain ⟨v, e⟩ := Ed_nb (L :: s2) i g (by cases s2 with | nil => exact absurd rfl n2 | cons _ _ => simp)
      rcases e with e | e
      · have gs := h.w2.gdS.side _ _ e
        exact ⟨i, v, hi, (hn v).1 (List.mem_reverse.1 (h.w2.memS v e.mem.2)), (fun q => by subst q; exact lt_irrefl half_back' gs.1), fun p hp => gs.2 p (List.mem_reverse.2 ((hn p).2 hp)), T_one _ _⟩
      · have gs := h.w2.gdS.side _ _ e
        exact ⟨v, i, (hn v).1 (List.mem_reverse.1 (h.w2.memS v e.mem.1)), hi, (fun q => by subst q; exact lt_irrefl half_back' gs.1), fun p hp => gs.2 p (List.mem_reverse.2 ((hn p).2 hp)), T_two _ _⟩

theorem sm_list : ∀ (l : List Nat), l.Nodup → (∀ k ∈ l, k < n) → sm n (fun i => if i ∈ l then 1 else 0) = (l.length : Int)
  | [], _, _ => by simp [sm_zero]
  | a :: l, h, hl => by
    have h' := List.nodup_cons.1 h
    rw [sm_part (hl a (by simp)), if_pos (by simp)]
    have e : sm n (fun i => if i = a then 0 else if i ∈ a :: l then (1 : Int) else 0) = sm n (fun i => if i ∈ l then 1 else 0) := sm_congr fun i _ => by
      by_cases k : i = a
      · subst k; rw [if_pos rfl, if_neg h'.1]
      · rw [if_neg k]
        have : (i ∈ a :: l) = (i ∈ l) := by simp [k]
        simp only [this]
    rw [e, sm_list l h'.2 (fun k hk => hl k (List.mem_cons_of_mem _ hk)), List.length_cons]
    omega

theorem gd_nodup (H : Half Pos) {r : List Nat} : ∀ (s : List Nat) (l : Nat), Gd Pos px py r (l :: s) → (l :: s).Nodup
  | [], l, _ => by simp
  | b :: s, l, h => by
    rw [List.nodup_cons]
    refine ⟨fun k => lt_irrefl H (h.below H l k), gd_nodup H s b h.2.2⟩

theorem ed_out : ∀ (s : List Nat) (l i : Nat), i ∈ s → ∃ v, Ed (l :: s) i v
  | [], _, _, h => by cases h
  | b :: s, l, i, h => by
    rcases List.mem_cons.1 h with k | k
    · exact ⟨l, .inl ⟨k, rfl⟩⟩
    · obtain ⟨v, e⟩ := ed_out s b i k
      exact ⟨v, .inr e⟩

/-- The walks there and back have nothing in common but their ends. -/
theorem Ring.apart (h : Ring px py n os M R L s1 q1 s2 q2) (hw : Wide px py os) {i : Nat} (h1 : i ∈ s1) (h2 : i ∈ s2) : False := by
  obtain ⟨v, e⟩ := ed_out s1 R i h1
  obtain ⟨v', e'⟩ := ed_out s2 L i h2
  have g := h.w1.gdS.side _ _ e
  have g' := h.w2.gdS.side _ _ e'
  have mv := h.w1.memS v e.mem.2
  have mv' := h.w2.memS v' e'.mem.2
  have k := g.1
  have k' := lt_back.1 g'.1
  have a1 := g.2 v' (List.mem_reverse.1 mv')
  have a2 := g'.2 v (List.mem_reverse.2 mv)
  have a3 : T px py i v' v = - T px py i v v' := by unfold T tw; grind
  have a4 : T px py i v v' = 0 := by omega
  refine line_flat (k.ne0 half_lex) (fun p hp => ?_) hw
  have b1 := g.2 p hp
  have b2 := g'.2 p (List.mem_reverse.2 hp)
  have i1 : T px py i v' p * (px v - px i) = T px py i v p * (px v' - px i) := by unfold T tw at *; grind
  have i2 : T px py i v' p * (py v - py i) = T px py i v p * (py v' - py i) := by unfold T tw at *; grind
  have i3 : (px v - px i) * (py v' - py i) = (py v - py i) * (px v' - px i) := by unfold T tw at a4; grind
  rcases k with k | ⟨k, kk⟩
  · rcases k' with k' | ⟨k', kk'⟩
    · have m1 := Int.mul_nonneg b2 (Int.le_of_lt k)
      rcases Int.lt_or_le 0 (T px py i v p) with q | q
      · have := Int.mul_neg_of_pos_of_neg q (show px v' - px i < 0 by omega); omega
      · omega
    · exfalso
      rw [show px v' - px i = 0 by omega, Int.mul_zero] at i3
      rcases Int.mul_eq_zero.1 i3 with q | q <;> omega
  · rw [k, Int.zero_mul] at i3
    have x0 : px v' - px i = 0 := by
      rcases Int.mul_eq_zero.1 i3.symm with q | q
      · omega
      · exact q
    have y0 : py v' - py i < 0 := by
      rcases k' with k' | ⟨k', kk'⟩ <;> omega
    have m1 := Int.mul_nonneg b2 (Int.le_of_lt kk)
    rcases Int.lt_or_le 0 (T px py i v p) with q | q
    · have := Int.mul_neg_of_pos_of_neg q y0; omega
    · omega

/-- The same, reckoned. -/
def bdrB (px py : Nat → Int) (n i : Nat) : Bool := (List.range n).any fun a => (List.range n).any fun b => (a != b) && ((List.range n).all (fun p => decide (0 ≤ T px py a b p)) && decide (T px py a b i = 0))

theorem bdrB_iff {i : Nat} : bdrB px py n i = true ↔ Bdr px py n i := by
  unfold bdrB Bdr
  simp only [List.any_eq_true, List.all_eq_true, List.mem_range, Bool.and_eq_true, bne_iff_ne, decide_eq_true_eq]
  constructor
  · rintro ⟨a, ha, b, hb, h1, h2, h3⟩
    exact ⟨a, b, ha, hb, h1, h2, h3⟩
  · rintro ⟨a, b, ha, hb, h1, h2, h3⟩
    exact ⟨a, ha, b, hb, h1, h2, h3⟩

/-- How many points lie on the hull's border. -/
def bdc (px py : Nat → Int) (n : Nat) : Int := sm n fun i => if bdrB px py n i = true then 1 else 0

theorem bdc_eq : bdc px py n = sm n fun i => @ite Int (Bdr px py n i) (Classical.propDecidable _) 1 0 := by
  unfold bdc
  refine sm_congr fun i _ => ?_
  by_cases h : Bdr px py n i
  · rw [if_pos h, if_pos (bdrB_iff.2 h)]
  · rw [if_neg h, if_neg (fun k => h (bdrB_iff.1 k))]

theorem Ring.bdc (h : Ring px py n os M R L s1 q1 s2 q2) (hm : Mesh px py n M) (hj : Inj px py n) (hc : Cor n M) (hn : ∀ p, p ∈ os ↔ p < n) (hw : Wide px py os) : bdc px py n = ((R :: s1).length : Int) + ((L :: s2).length : Int) - 2 := by
  have n2 := h.w2.s0 half_back'
  obtain ⟨t, ht⟩ : ∃ t, s2 = t ++ [R] := by
    refine ⟨s2.dropLast, ?_⟩
    have l2 := h.w2.lastS
    cases s2 with
    | nil => exact absurd rfl n2
    | cons b s =>
      rw [List.getLast?_cons_cons] at l2
      have e := List.dropLast_concat_getLast (l := b :: s) (by simp)
      rw [List.getLast?_eq_some_getLast (by simp)] at l2
      rw [Option.some.inj l2] at e
      exact e.symm
  have nd1 := gd_nodup half_lex s1 R h.w1.gdS
  have nd2 := gd_nodup half_back' s2 L h.w2.gdS
  have L1 : L ∈ R :: s1 := List.mem_of_getLast? h.w1.lastS
  rw [ht] at nd2
  have nd3 := (List.nodup_cons.1 nd2).2
  have nd4 := List.nodup_append.1 nd3
  have nd : ((R :: s1) ++ t).Nodup := by
    rw [List.nodup_append]
    refine ⟨nd1, nd4.1, fun a ha b hb e => ?_⟩
    subst e
    rcases List.mem_cons.1 ha with k | k
    · subst k
      exact nd4.2.2 a hb a (by simp) rfl
    · exact h.apart hw k (by rw [ht]; exact List.mem_append_left _ hb)
  have key := sm_list (n := n) ((R :: s1) ++ t) nd (fun k hk => by
    rcases List.mem_append.1 hk with q | q
    · exact (hn k).1 (h.w1.memS k q)
    · exact (hn k).1 (List.mem_reverse.1 (h.w2.memS k (by rw [ht]; exact List.mem_cons_of_mem _ (List.mem_append_left _ q)))))
  rw [bdc_eq]
  have e : sm n (fun i => @ite Int (Bdr px py n i) (Classical.propDecidable _) 1 0) = sm n (fun i => if i ∈ (R :: s1) ++ t then 1 else 0) := sm_congr fun i hi => by
    have b := h.bdr hm hj hc hn hi
    have q : Bdr px py n i ↔ i ∈ (R :: s1) ++ t := by
      rw [b, List.mem_append, ht]
      constructor
      · rintro (k | k)
        · exact .inl k
        · rcases List.mem_cons.1 k with k | k
          · subst k; exact .inl L1
          · rcases List.mem_append.1 k with k | k
            · exact .inr k
            · simp at k; subst k; exact .inl (by simp)
      · rintro (k | k)
        · exact .inl k
        · exact .inr (List.mem_cons_of_mem _ (List.mem_append_left _ k))
    by_cases k : i ∈ (R :: s1) ++ t
    · rw [if_pos k, if_pos (q.2 k)]
    · rw [if_neg k, if_neg (fun g => k (q.1 g))]
  rw [e, key, ht]
  simp only [List.length_append, List.length_cons, List.length_nil]
  omega

theorem ord_len (h : os.Pairwise (Lt Lex px py)) (hn : ∀ p, p ∈ os ↔ p < n) : os.length = n := by
  have nd : os.Nodup := h.imp fun {a b} k e => by subst e; exact lt_irrefl half_lex k
  have key := sm_list (n := n) os nd (fun k hk => (hn k).1 hk)
  have e : sm n (fun i => if i ∈ os then (1 : Int) else 0) = sm n (fun _ => 1) := sm_congr fun i hi => by rw [if_pos ((hn i).2 hi)]
  have one : ∀ k, sm k (fun _ => (1 : Int)) = k := by
    intro k
    induction k with
    | zero => rfl
    | succ k ih => rw [sm, ih]; omega
  rw [e, one] at key
  omega

theorem cnt_flip {a b c d : Nat} (hm : Mesh px py n M) (q : Quad px py M a b c d) : Sd n (flipM M a b c d) (fun _ _ _ => 1) = Sd n M (fun _ _ _ => 1) := by
  have := flip_sum hm q (fun _ _ _ => 1)
  omega

theorem reach_cnt {M0 : Nat → Nat → Option Nat} (h : Geo.Reach px py n M0 M) : Sd n M (fun _ _ _ => 1) = Sd n M0 (fun _ _ _ => 1) := by
  exact h (fun M => Sd n M (fun _ _ _ => 1) = Sd n M0 (fun _ _ _ => 1)) rfl fun M a b c d ih hm q => by rw [cnt_flip hm q, ih]

end Go.Proofs.YtdbebbbceeopaaaGreat
